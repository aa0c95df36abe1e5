/- What the proof stands on, in short names. -/
import Derived.Test.YtjidbonhhpkljaaGreatMb
import Derived.Lib.BufferWrite
import Derived.Lib.UnsafeStr
import Derived.Deep.RegionHeld3
import Derived.Deep.AppendLies
import Derived.OrdersHeld
import Derived.RegionTactic
import Derived.Outline
import Derived.Lib.SlBytesConst
import Derived.Deep.CutRange
set_option linter.all false
open Array renaming getD->ek,getElem?_eq_some_iff->dY,replicate->jh,setIfInBounds->cF,size->U,toList->dD
open Bool renaming false->ai,false_eq_true->fA,true->af
open ByteArray renaming extract->e9,size->bf,toList->jI
open Eq renaming symm->bA,trans->aB
open False renaming elim->fe
open Go renaming Act->bK,Addr->aN,Ending->gL,Func->cO,Obj->cj,Oper->cq,PanicEntry->hJ,Program->aW,TypeId->aK,TypeInfo->nL,Value->F,World->ag,bodyPost->jM,execOp->bT,info_parts->eU,lt_of_block->bC,madeCells->px,maxLen->aS,results->dx,run_underlying->uL,undef->cI,wpList_append_fits->r7,yielded->eg
open Go.Act renaming defers->b8,eval->bz,put->bG
open Go.Addr renaming add->o9
open Go.Builtin renaming copy_->tO,firstCells->vE,lenOf->vF
open Go.ByteArray renaming toList_eq->uF
open Go.Calls renaming mono->bL,quiet_of_same->vG
open Go.Code renaming block->ga,region->gu,seq->aU,skip->eO
open Go.Conc renaming G->aO
open Go.Departure renaming mixedOrders->n4
open Go.Ending renaming panicked->gO,returned->aR
open Go.Exit renaming normal->e4,panic->iL
open Go.Fn renaming yield->gH
open Go.FrameMode renaming panicking->kr,returning->jA
open Go.Func renaming results->r4
open Go.Instr renaming makeSlice->yP
open Go.IntKind renaming i64->bM,u64->lV,u8->vH
open Go.Item renaming code->b9,inBlock->fI,inLoop->gE,inRegion->bW
open Go.Lib renaming compareBytes->mv,size_eq->uH
open Go.Next renaming value->eT
open Go.Obj renaming cells->ax
open Go.Oper renaming after->ri
open Go.Program renaming cellsOf->rj,underlying->gb
open Go.Proofs.Tryz renaming f116->iA,f79->j8,prog->av,underlying115->vJ,underlying43->yU
open Go.Region renaming binds->iN,ready->gd,wanted->eF
open Go.Region.Mode renaming any->ed
open Go.Result renaming ok->b6
open Go.RowKit renaming Below->dw,intOf->bw,wrap64->dr
open Go.RowKit.Below renaming alloc->nK,block->cS,cell->bq,grown->iB,trans->fJ
open Go.TypeInfo renaming bytes->ji,zero->jL
open Go.Value renaming agg->cw,bool->ak,cells->lC,chan->fp,int->bt,oneCell'->nM,ownBlock->bB,pointer->dG,slice->ah,string->au,tuple->cC
open Go.World renaming alloc->cD,cell?->aA,drewN->cT,drewN_drewN->r5,frozen?->cU,grownBy->jj,output->fS,ownsRow->aT,ownsRow_nil->iO,rangeAt->pq,setCell->bg,setCells->s4,tape->dV
open Go.World.ownsRow renaming alloc->mB,kept->fK
open Int renaming toNat->bS
open List renaming all->dM,all_eq_true->fD,contains->iP,getD->aX,length->I,length_nil->yZ,mem_flatMap->y5,range->eH,replicate->dh,toArray->cX
open Option renaming none->Z,some->K
open Or renaming elim->ff,inl->aq,inr->an
open Prod renaming fst->bp,snd->eu
variable{Q qS:Go.Act}{R qP:Go.Addr}{q7:Array Bool}{QE:Array Go.TypeId}{C:Array Go.Value}{qV:Bool}{s:ByteArray}{QI:Go.Func}{M qA qB:Int}{l0:List (Nat×Go.Value)}{aj qY:List Int}{L l ps qE qF:List Nat}{QU:List Go.PanicEntry}{J S qM:List Go.Value}{a bH bN cap f i j k m n q r:Nat}{q9:Nat→Prop}{Qk:Go.Obj}{Qr Qs:Go.Oper}{Qp Qq:Go.Operand}{O P QC:Option Go.Addr}{QX:Option Nat}{Qn:Go.Program}{Qc Qd:Go.TypeId}{T qq qs qt qu v x y z:Go.Value}{W u w w4:Go.World}
set_option maxRecDepth 100000
set_option maxHeartbeats 8000000
namespace Go.Proofs.YtjidbonhhpkljaaGreat
namespace Ec
open Go.RowKit Pk Pm
def TJ(hx:n<9223372036854775808):bits .xor bM (n:Int) 0=(n:Int):=by
 show bM.wrap (((BitVec.ofInt 64 (n:Int))^^^(BitVec.ofInt 64 0)).toNat:Int)=_;rw[BitVec.ofInt_natCast,show BitVec.ofInt 64 0=0#64 from rfl,BitVec.xor_zero,BitVec.toNat_ofNat,kw];omega
def TI(hx:n<9223372036854775808):bits .xor bM (n:Int) (-1)= -(n:Int)-1:=by
 show bM.wrap (((BitVec.ofInt 64 (n:Int))^^^(BitVec.ofInt 64 (-1))).toNat:Int)=_;rw[BitVec.ofInt_natCast,show BitVec.ofInt 64 (-1)=BitVec.allOnes 64 from by decide +kernel,BitVec.xor_allOnes,BitVec.toNat_not,BitVec.toNat_ofNat,kw];omega
def OH(a:n<18446744073709551616):bits .and .u64 (n:Int) 1=((n%2:Nat):Int):=by
 have:=bits_mask .u64 64 ay Hz 1 ay (n:Int) aa aa;rw[show(1:Int)=2^1-1 from ay,this];omega
def aaw(b:n<18446744073709551616):bits .xor bM ((n:Int)/2) (-((n:Int)%2))=uz n:=by
 rw[show(n:Int)/2=((n/2:Nat):Int) from by omega];unfold uz;by_cases a:n%2=1
 .rw[show -((n:Int)%2)= -1 from by omega,TI (by omega),if_pos a]
 .rw[show -((n:Int)%2)=0 from by omega,TJ (by omega),if_neg a]
def aax(a:n<18446744073709551616):bn 161 #[bt .u64 (n:Int)] w λb c=>b=aR (z9 (uz n))/\c=w:=by
 have d:=OH a;have e:dr ((n:Int)/2)=((n/2:Nat):Int):=by unfold dr;omega
 skip
 go_enter aE.func161,Tryz.ntmps161;go_wp2;go_ret;exact⟨by rw[<-aaw a];rfl,rfl⟩
def Zb{s:ByteArray}(E:s.size<=32):bn 98 #[au s] w λd z=>d=aR (au s)/\aD w z:=by
 by_cases h:s.size=0
 .obtain rfl:s=⟨#[]⟩:=Au (Array.eq_empty_of_size_eq_zero h);go_enter aE.func98,Tryz.ntmps98;go_wp2;go_ret;exact⟨rfl,bU _ _⟩
 .have⟨k,q,v,x,G⟩:=eU aE.EZ;have t:((aM av).info? 5).map (·.size)=K 1:=by rfl
  have o:rj (aM av) 5=1:=by rfl
  obtain⟨a,e⟩:∃a,a=px (bt .u8 0).cells (bS ((s.size:Nat):Int)*k.size):=⟨_,rfl⟩;have A:a.size=s.size:=by rw[e,size_madeCells,x];simp
  have D:∀c:ag,(yP 133 (n9 s.size) (n9 s.size)).run (aM av) c=b6 (aI (U c.heap) s.size s.size) (c.alloc (ax a 5)):=λc=>by
   have g:=run_make (P:=(aM av)) c 133 5 k (bt .u8 0) aE.underlying133 q v bM bM (s.size:Int) (s.size:Int) aa aa bh aa;rw[<-e] at g;simpa using g
  clear e;have p:=Lib.run_copy_row_string (P:=(aM av)) (w.alloc (ax a 5)) 133 9 3 5 (U w.heap) 0 s.size s.size s a 5 aE.underlying133 t (kQ w _) (aV _) aa;obtain⟨b,f⟩:∃b,b=cX (a.toList.take 0++Lib.byteCells (dD s.data)++a.toList.drop (0+s.size)):=⟨_,rfl⟩;rw[<-f] at p;have i:dD b=Lib.byteCells (dD s.data):=by
   rw[f,List.toList_toArray,List.take_zero,tW,yY bh,oH]
  have B:b.size=s.size:=by rw[<-Array.length_toList,i,Lib.byteCells_length,<-uH]
  have j:bD ((w.alloc (ax a 5)).setRow (U w.heap) b) (U w.heap) b 5:=setRow_heap _ _ a _ 5 (0,0) (kQ w _);have r:dD s.data≠[]:=λd=>h (by rw[uH,d];rfl);have l:=Lib.run_unsafeString_row (P:=(aM av)) ((w.alloc (ax a 5)).setRow (U w.heap) b) 206 3 9 5 aE.underlying206 o (U w.heap) b.size (by unfold World.shape?;rw[j]) (dD s.data) r (by rw[<-uH];omega) (by rw[<-uH];omega)
   (λy H u=>Lib.cells_of_row j b.size y _ (by rw[ja aF,i];simp[Lib.byteCells,u]))
  rw[<-uH] at l;clear f;go_enter aE.func98,Tryz.ntmps98;go_wp2;go_ret;have m:aD w (w.alloc (ax a 5)):=(bU _ w).alloc (aV _) _;have n:dw (U w.heap) (w.alloc (ax a 5)) ((w.alloc (ax a 5)).setRow (U w.heap) b):=⟨rfl,rfl,rfl,aF,λF C=>setRow_other _ _ _ _ aa⟩;exact⟨rfl,Lib.below_freeze (fJ m n) (p:=⟨U w.heap,0,Z⟩) (aV _) _⟩
def Eu(s:ByteArray)(b:ag)(e:s.size<=32):bn 66 #[au s] b λa c=>a=aR (au s)/\aD b c:=by
 go_enter aE.func66,Tryz.ntmps66;go_wp2_with fail;refine bL (Zb e) ?_;rintro a c ⟨rfl,d⟩;go_wp2;go_ret;exact⟨rfl,d⟩
def Xi{s:ByteArray}(l:s.size<=aS)(P:k<=s.size)(J:w.heap[n]? =K (bR s k)):
 bn 162 #[(aZ n)] w λd e=>Kp n w e/\((∃b:ByteArray,d=aR (au b)/\b.size<=32/\aQ (bytesOf s) k (bc b.size++bytesOf b)/\e.heap[n]? =K (bR s (k+I (bc b.size++bytesOf b))))\/
  (∃p,d=gO (g3 p)/\∀b:ByteArray,b.size<=32->¬aQ (bytesOf s) k (bc b.size++bytesOf b))):=by
 have E:=ap J;go_enter aE.func162,Tryz.ntmps162;go_wp2_with fail;refine bL (wv n k s l P E.o) ?_;rintro d U ⟨j,⟨a,rfl,N,Q,x,M⟩|⟨p,rfl,O⟩⟩;have f:=ap j;have i:=ap Q;have h:=ap M;have q:=ap N;have T:=j.size;by_cases S:32<a;have g:X (∀b:ByteArray,b.size<=32->¬aQ (bytesOf s) k (bc b.size++bytesOf b)):=by
  intro b y c;rw[dn] at c;have:=jS aa (cB q.o) c.1 i.o;omega
 go_wp2_with (go_at_call 97;refine bL (lN n _ s _ h.o) ?_;rintro d e ⟨rfl,rfl⟩);exact⟨rfl,f.o,an ⟨_,rfl,g.o⟩⟩;by_cases v:k+I (bc a)+a<=s.size;have z:(e9 s (k+I (bc a)) (k+I (bc a)+a)).size=a:=jG tM;have H:X (bytesOf (e9 s (k+I (bc a)) (k+I (bc a)+a))=((bytesOf s).drop (k+I (bc a))).take a):=by
  show _=_;rw[m9,show k+I (bc a)+a-(k+I (bc a))=a by omega]
 have G:X (∀w,w.heap[n]? =K (bR s (k+I (bc a)))->bn 128 #[(aZ n),n9 a] w λd e=>d=aR (au (e9 s (k+I (bc a)) (k+I (bc a)+a)))/\∃m,e=(bg w ⟨n,1,Z⟩ (z9 ((k+I (bc a)+a:Nat):Int))).drewN m):=
  λw o=>M2 n a s w l v o
 generalize e9 s (k+I (bc a)) (k+I (bc a)+a)=B at*;go_wp2_with (go_at_call 128;refine bL (G.o _ h.o) ?_;rintro d A ⟨rfl,o⟩;have t:=ap o);have r:X (A.heap[n]? =K (bR s (k+I (bc a)+a))):=by
  obtain⟨m,rfl⟩:=t.o;exact vn h.o m
 have C:X (Kp n w A):=by
  obtain⟨m,rfl⟩:=t.o;exact f.o.set 1 _ m
 refine bL (Eu B _ aa) ?_;rintro d R ⟨rfl,u⟩;have D:=ap (C.o.trans (Kp.iT u));have F:X (R.heap[n]? =K (bR s (k+I (bc a)+a))):=by
  show _=_;rw[cS u n (bC r.o)];exact r.o
 go_wp2;go_ret;refine⟨D.o,aq ⟨B,rfl,aa,?_,?_⟩⟩;rw[dn,z];refine⟨i.o,?_⟩;rw[H.o];exact List.take_prefix _ _;rw[cN,cJ,z,<-gF];exact F.o;have g:X (∀b:ByteArray,b.size<=32->¬aQ (bytesOf s) k (bc b.size++bytesOf b)):=by
  intro b y c;rw[dn] at c;have:=jS aa (cB q.o) c.1 i.o;rw[this] at c;have L:=oX c.2 (by rw[cJ];exact x);rw[cJ,cJ] at L;omega
 go_wp2_with (go_at_call 128;refine bL (M1 n a s l (by omega) v x h.o) ?_;rintro d e ⟨rfl,m,rfl⟩);exact⟨rfl,f.o.drewN m,an ⟨_,rfl,g.o⟩⟩;have g:X (∀b:ByteArray,b.size<=32->¬aQ (bytesOf s) k (bc b.size++bytesOf b)):=by
  intro b y c;rw[dn] at c;exact O b.size aa c.1
 have f:=ap j;go_wp2;exact⟨rfl,f.o,an ⟨p,rfl,g.o⟩⟩
def rG(a:w.heap[n]? =K (ax #[v,x,y] Qc (0,0))):
 aA w ⟨n,0,Z⟩=K v/\aA w ⟨n,1,Z⟩=K x/\aA w ⟨n,2,Z⟩=K y/\cU w ⟨n,0,Z⟩=ai/\cU w ⟨n,1,Z⟩=ai/\cU w ⟨n,2,Z⟩=ai:=by
 refine⟨?_,?_,?_,?_,?_,?_⟩<;>first|simp[aA,a]|simp[cU,a]
def zn(a b e:F)(m:w.heap[n]? =K (ax #[v,x,y] Qc (0,0)))(c:Nat)(t:c≠n)(f:Kp c u w)(z:U u.heap<=n):
 let d:=bg (bg (bg w ⟨n,0,Z⟩ a) ⟨n,1,Z⟩ b) ⟨n,2,Z⟩ e
 aJ d n 0 a/\aJ d n 1 b/\aJ d n 2 e/\d.heap[c]? =w.heap[c]? /\Kp c u d:=by
 have o:(bg w ⟨n,0,Z⟩ a).heap[n]? =K (ax #[a,x,y] Qc (0,0)):=gJ (eE w n 0 _ _ _ m);have p:(bg (bg w ⟨n,0,Z⟩ a) ⟨n,1,Z⟩ b).heap[n]? =K (ax #[a,b,y] Qc (0,0)):=gJ (eE _ n 1 _ _ _ o);have q:(bg (bg (bg w ⟨n,0,Z⟩ a) ⟨n,1,Z⟩ b) ⟨n,2,Z⟩ e).heap[n]? =K (ax #[a,b,e] Qc (0,0)):=gJ (eE _ n 2 _ _ _ p);have h:∀g,g≠n->(bg (bg (bg w ⟨n,0,Z⟩ a) ⟨n,1,Z⟩ b) ⟨n,2,Z⟩ e).heap[g]? =w.heap[g]? :=by
  intro g A;rw[ef _ _ _ _ aa,ef _ _ _ _ aa,ef _ _ _ _ aa]
 have⟨j,k,l,_⟩:=rG q;refine⟨j,k,l,h c t,f.os,f.tape,f.output,?_,?_⟩;simpa using f.size;intro i r s;rw[h i aa];exact dz f i r s
def CV(h:Int)(ae:h=1\/h=2\/h=3)(d c:Nat)(s:ByteArray)(a:ag)(L:s.size<=aS)(E:c<=s.size)(i:a.heap[d]? =K (bR s c)):
 bn 153 #[(aZ d),z9 h] a λj A=>Kp d a A/\((∃v:az,j=aR (cw #[ak v.null,z9 v.n,au v.s])/\VK h v/\aQ (bytesOf s) c (cZ h v)/\c+I (cZ h v)<=s.size/\A.heap[d]? =K (bR s (c+I (cZ h v))))\/
  (∃m,j=gO (g3 m)/\∀v:az,VK h v->¬aQ (bytesOf s) c (cZ h v))):=by
 have al:=bC i;have ao:=ap i;have G:X ((a.alloc (ax #[ak ai,z9 0,au ⟨#[]⟩] 59)).heap[d]? =K (bR s c)):=by
  show _=_;rw[e6 _ _ d al];exact i
 have n:X (Kp d a (a.alloc (ax #[ak ai,z9 0,au ⟨#[]⟩] 59))):=(Kp.refl d a).alloc _;have V:∀M,aQ (bytesOf s) c M->c+I M<=s.size:=λM z=>by have:=oX z (by rw[cJ];exact E);rwa [cJ] at this
 rcases ae with rfl|rfl|rfl
 .go_enter aE.func153,Tryz.ntmps153;go_wp2_with fail;refine bL (Nt d c s L E G.o) ?_;rintro j B ⟨f,⟨b,rfl,W,o,x⟩|⟨m,rfl,y⟩⟩;have e:=ap (n.o.trans f);have k:bD B (U a.heap) #[ak ai,z9 0,au ⟨#[]⟩] 59:=Kp.block f (kQ a _) aa;have⟨O,P,Q,R,S,T⟩:=rG k;have F:=ap k;have H:=ap x;have D:=ap o;have ab:=ap W;have ad:X (∀a,bn 161 #[bt .u64 (b:Int)] a λj A=>j=aR (z9 (uz b))/\A=a):=λa=>aax W;go_wp2_with (go_at_call 161;refine bL (ad.o _) ?_;rintro j A ⟨rfl,rfl⟩);have⟨q,r,t,u,w⟩:=zn (ak ai) (z9 (uz b)) (au ⟨#[]⟩) F.o d aa e.o (aV _);simp[jM,dx,Tryz.results153,go_sem,q,r,t];have g:cZ 1 ⟨ai,uz b,⟨#[]⟩⟩=bc b:=by show bc (zz (uz b))=_;rw[abJ]
  have Z:=Ns b ab.o;refine⟨w,⟨ai,uz b,⟨#[]⟩⟩,⟨rfl,rfl,rfl⟩,⟨rfl,Z.1,Z.2,λ_=>rfl,λi=>aa,λi=>aa⟩,?_,?_,?_⟩
  .rw[g];exact D.o
  .rw[g];exact V _ D.o
  .rw[g,u];exact H.o
  .have p:X (∀v:az,VK 1 v->¬aQ (bytesOf s) c (cZ 1 v)):=λv l=>y (zz v.n) (vA l.lo l.hi);have e:=ap (n.o.trans f);go_wp2;exact⟨rfl,e.o,an ⟨m,rfl,p.o⟩⟩
 .go_enter aE.func153,Tryz.ntmps153;go_wp2_with fail;refine bL (Eb d c s L E G.o) ?_;rintro j B ⟨f,⟨b,rfl,J,o,x,aj⟩|⟨m,rfl,y⟩⟩;have e:=ap (n.o.trans f);have k:bD B (U a.heap) #[ak ai,z9 0,au ⟨#[]⟩] 59:=Kp.block f (kQ a _) aa;have⟨O,P,Q,R,S,T⟩:=rG k;have F:=ap k;have H:=ap x;have D:=ap o;have N:=ap J;go_wp2;have⟨q,r,t,u,w⟩:=zn (ak ai) (z9 b) (au ⟨#[]⟩) F.o d aa e.o (aV _);simp[jM,dx,Tryz.results153,go_sem,q,r,t];have g:cZ 2 ⟨ai,b,⟨#[]⟩⟩=[bS b]:=by show[byteOf b]=_;rw[xF N.o]
  have J:=N.o;refine⟨w,⟨ai,b,⟨#[]⟩⟩,⟨rfl,rfl,rfl⟩,⟨rfl,bh,bh,λi=>aa,λ_=>⟨J,rfl⟩,λi=>aa⟩,?_,?_,?_⟩;rw[g];exact D.o;rw[g];exact aj;rw[g,u];exact H.o;have p:X (∀v:az,VK 2 v->¬aQ (bytesOf s) c (cZ 2 v)):=λv l z=>y v.n (l.s2 Y).1 (by rw[<-xF (l.s2 Y).1];exact z);have e:=ap (n.o.trans f);go_wp2;exact⟨rfl,e.o,an ⟨m,rfl,p.o⟩⟩
 .go_enter aE.func153,Tryz.ntmps153;go_wp2_with fail;refine bL (Xi L E G.o) ?_;rintro j B ⟨f,⟨C,rfl,am,o,x⟩|⟨m,rfl,y⟩⟩;have e:=ap (n.o.trans f);have k:bD B (U a.heap) #[ak ai,z9 0,au ⟨#[]⟩] 59:=Kp.block f (kQ a _) aa;have⟨O,P,Q,R,S,T⟩:=rG k
  skip
  go_wp2;have⟨q,r,t,u,w⟩:=zn (ak ai) (z9 0) (au C) k d aa e.o (aV _);simp[jM,dx,Tryz.results153,go_sem,q,r,t];have g:cZ 3 ⟨ai,0,C⟩=bc C.size++bytesOf C:=rfl;refine⟨w,⟨ai,0,C⟩,⟨rfl,rfl,rfl⟩,⟨rfl,aF,aF,λi=>aa,λi=>aa,λ_=>⟨rfl,am⟩⟩,?_,?_,?_⟩;rw[g];exact o;rw[g];exact V _ o;rw[g,u];exact x;have p:X (∀v:az,VK 3 v->¬aQ (bytesOf s) c (cZ 3 v)):=λv l z=>y v.s (l.s3 Y).2 z;have e:=ap (n.o.trans f);go_wp2;exact⟨rfl,e.o,an ⟨m,rfl,p.o⟩⟩
def Kw(d:aT w n 3 1 (aI m k i) k (cW qY))(h:I qY=k)(b:Nat)(g:b<k):aJ w m b (z9 (aX qY b 0)):=by
 subst h;have⟨j,l,q,o,c,e,p,f⟩:=iC.gC d;simp only[lX] at c;have⟨a,_,_⟩:=c;rw[(e aa)] at a;simp only[kU,r3] at a;have:=f b g;rw[<-a.1,<-a.2.1,e7] at this;exact this
def Jq(a:0<I qY):List.getLast? qY=K (aX qY (I qY-1) 0):=by
 rw[List.getLast?_eq_getElem?,aX,dH aa];rfl
def CW(b:List Int)(m:Nat)(a:Int):cW (b++dh m a)++[z9 a]=cW (b++dh (m+1) a):=by
 rw[uf,iD,y6]
def Li(s:ByteArray)(f e b:Nat)(bh:s.size<=aS)(bF:b<=100)(bV:e<=s.size)(ba:w.heap[f]? =K (bR s e)):
 bn 164 #[(aZ f),bt bM b] w λi W=>Kp f w W/\
  ((∃(a:List Int) (v:F),i=aR v/\I a=b/\iU a/\aQ (bytesOf s) e (eK a)/\(∀c:List Int,I c=b->iU c->aQ (bytesOf s) e (eK c)->c=a)/\e+I (eK a)<=s.size/\
    W.heap[f]? =K (bR s (e+I (eK a)))/\aT W (U w.heap) 3 1 v (I a) (cW a))\/
   (∃V,i=gO (g3 V)/\∀c:List Int,I c=b->iU c->¬aQ (bytesOf s) e (eK c))):=by
 have⟨a3,a0,bZ,a2,b0⟩:=eU aE.pP;have a1:=bC ba
 skip
 go_enter aE.func164,Tryz.ntmps164;go_wp2_with (at_make;refine wpList_make_own _ Y _ _ 22 Y (U w.heap) 3 a3 (bt bM 0) 1 aE.underlying22 a0 bZ a2 bM bM _ b Y Y Y (by rw[b0];omega) gy (aV _) ?_;intro bo bk aY);have a5:X (Kp f w bo):=(Kp.refl f w).grown aY aF;have a7:X (bo.heap[f]? =K (bR s e)):=by show _=_;rw[aY.block f a1 (by simp)];exact ba
 clear aY
 go_loopw [5] (λB wr=>∃(a:List Int) (h:List Nat),B=ah (K ⟨U w.heap,0,Z⟩) (I a) b/\oK (bytesOf s) e b a h/\e+I h<=s.size/\wr.heap[f]? =K (bR s (e+I h))/\
  aT wr (U w.heap) 3 1 (ah (K ⟨U w.heap,0,Z⟩) (I a) b) (I a) (cW a)/\Kp f w wr) (λB _=>match B with|ah _ d _=>b-d|_=>0)
 exact⟨[],[],rfl,oK.zero _ _ _,by simpa using bV,by simpa using a7.o,bk,a5.o⟩;clear bk a5 a7;obtain⟨a,h,rfl,n,bl,bb,bj,ae⟩:=hrel;have cg:U w.heap<=U wr.heap:=ae.size;have bI:=n.le
 skip
 by_cases p:I a<b
 .go_wp2_with fail;refine bL (wv f (e+I h) s bh bl bb) ?_;rintro i ch ⟨N,⟨d,rfl,al,am,be,bx⟩|⟨V,rfl,R⟩⟩
  .have D:=ap (ae.trans N);have ay:=ap (N.own bj a1);clear N;go_wp2_with fail;refine bL (Eb f (e+I h+I (bc d)) s bh be bx) ?_;rintro i ci ⟨O,⟨g,rfl,j,bm,aj,cb⟩|⟨V,rfl,R⟩⟩
   .have o:=ap (D.o.trans O);have E:=ap (O.own ay.o a1);have a4:=ap j;clear O D ay j;by_cases bE:d=0\/b-I a<d
    .have q:X (∀c:List Int,I c=b->iU c->¬aQ (bytesOf s) e (eK c)):=by
      intro c u j z;have⟨ao,L,m,aG,aH,ad,l,r,H,aI,aJ⟩:=n.next p c u j z;have:=jS aa (by have:=al;omega) r am;omega
     go_wp2_with (go_at_call 97;refine bL (lN f _ s _ aj) ?_;rintro i W ⟨rfl,rfl⟩)
     all_goals exact⟨rfl,o.o,an ⟨_,rfl,q.o⟩⟩
    .have bP:d≠0:=by omega
     have bi:d+I a<=b:=aa;have cf:((d:Int)==0)=ai:=bO;clear bE;by_cases k:0<I a/\aX a (I a-1) 0=g
     .have q:X (∀c:List Int,I c=b->iU c->¬aQ (bytesOf s) e (eK c)):=by
       intro c u j z;have⟨ao,L,m,aG,aH,ad,l,r,H,aI,aJ⟩:=n.next p c u j z;have G:=jS aa (by have:=al;omega) r am;subst G;have a9:L=g:=by
        have aL:=bm;rw[mW] at H aL;rw[H] at aL;simp at aL;have:=a4.o;omega
       rw[Jq k.1,k.2,a9] at l;rcases l with l|l;rw[l] at k;simp at k;exact l Y
      obtain⟨J,bH⟩:∃J,I a=J+1:=⟨I a-1,aa⟩;have bd:=Kw E.o Y J aa;have Q:aX a J 0=g:=by rw[<-k.2,bH];rfl
      rw[Q] at bd;clear k Q;have a8:decide ((b:Int)-(I a:Int)<(d:Int))=ai:=bO;have G:dr ((b:Int)-(I a:Int))=(b:Int)-(I a:Int):=by unfold dr;omega
      have a9:dr ((I a:Int)-1)=(J:Int):=by unfold dr;omega
      have b3:(J:Int)<(I a:Int):=by omega
      go_wp2_with (go_at_call 97;refine bL (lN f _ s _ aj) ?_;rintro i W ⟨rfl,rfl⟩);exact⟨rfl,o.o,an ⟨_,rfl,q.o⟩⟩
     .have br:X (a=[]\/List.getLast? a≠K g):=by
       by_cases M:0<I a
       right
       rw[Jq M];intro i;simp only[kU] at i;exact k ⟨M,i⟩
       left
       exact xm.1 aa
      have a6:X (oK (bytesOf s) e b (a++dh d g) (h++(bc d++[bS g]))):=n.more bP aa (by have:=al;omega) a4.o br.o am bm bF p;have a8:decide ((b:Int)-(I a:Int)<(d:Int))=ai:=bO;have G:dr ((b:Int)-(I a:Int))=(b:Int)-(I a:Int):=by unfold dr;omega
      have cc:d<=100:=by omega
      clear be;by_cases M:0<I a
      .have bd:=Kw E.o Y (I a-1) aa;have Q:aX a (I a-1) 0≠g:=λi=>k ⟨M,i⟩;generalize aX a (I a-1) 0=b2 at*;have b4:(b2==g)=ai:=by simp;exact Q
       clear k Q;go_wp2_with fail
       go_loopw [5,46] (λB A C=>∃m:Nat,m<=d/\A=bt bM (m:Int)/\B=ah (K ⟨U w.heap,0,Z⟩) (I a+m) b/\C.heap[f]? =K (bR s (e+I h+I (bc d)+1))/\
        aT C (U w.heap) 3 1 (ah (K ⟨U w.heap,0,Z⟩) (I a+m) b) (I a+m) (cW (a++dh m g))/\Kp f w C) (λ_ A _=>d-bS (bw A))
       exact⟨0,cE _,rfl,rfl,aj,by simpa using E.o,o.o⟩;clear E o;obtain⟨m,bN,rfl,rfl,P,y,t⟩:=hrel;have aC:=ap P;have aw:=ap t;have bY:=t.size;clear P t;by_cases bJ:m<d
       .go_wp2_with (at_builtin;refine r7 _ Y _ _ 22 Y (U w.heap) 3 a3 1 aE.underlying22 a0 a2 (U w.heap) (I a+m) b _ Y (y.alloc _) ⟨U wr.heap,0,Z⟩ 1 1 [bt bM g] Y Y (by exact ot _) ?c2 (by omega) ?_)
        case c2=>intro b1 T;simp at T;subst T;rfl
        intro ab S x;have ar:X (Kp f w ab):=(aw.o.alloc _).grown x (by intro bv aM;simp at aM;omega);have az:X (ab.heap[f]? =K (bR s (e+I h+I (bc d)+1))):=by
         show _=_;rw[x.block f (by simp;omega) (by simp;omega),e6 wr _ f (by omega)];exact aC.o
        rw[CW] at S;clear y x aw aC;go_wp2
        go_roundw
        case rel=>exact⟨m+1,by omega,by go_num,by first|rfl|(rw[gF]),az.o,by rw[<-gF];exact S,ar.o⟩
        case measure=>simp[bw];omega
       obtain rfl:m=d:=aa;go_wp2
       go_roundw
       exact⟨a++dh m g,h++(bc m++[bS g]),aF,a6.o,bO,by rw[show e+I (h++(bc m++[bS g]))=e+I h+I (bc m)+1 by simp;omega];exact aC.o,by simpa using y,aw.o⟩;simp;omega
      .obtain rfl:a=[]:=xm.1 aa;have cd:d<=b:=by simpa using bi
       have b5:decide (b<d)=ai:=bO;have b7:decide ((b:Int)<(d:Int))=ai:=bO;have ca:0<b:=by simpa using p
       clear k M a8 G bi bI p;go_wp2_with fail
       go_loopw [5,46] (λB A C=>∃m:Nat,m<=d/\A=bt bM (m:Int)/\B=ah (K ⟨U w.heap,0,Z⟩) m b/\C.heap[f]? =K (bR s (e+I h+I (bc d)+1))/\
        aT C (U w.heap) 3 1 (ah (K ⟨U w.heap,0,Z⟩) m b) m (cW (dh m g))/\Kp f w C) (λ_ A _=>d-bS (bw A))
       exact⟨0,cE _,rfl,rfl,aj,E.o,o.o⟩;clear E o;obtain⟨m,bN,rfl,rfl,P,y,t⟩:=hrel;have bY:=t.size
       skip
       by_cases bJ:m<d
       .go_wp2_with (at_builtin;refine r7 _ Y _ _ 22 Y (U w.heap) 3 a3 1 aE.underlying22 a0 a2 (U w.heap) m b _ Y (y.alloc _) ⟨U wr.heap,0,Z⟩ 1 1 [bt bM g] Y Y (by exact ot _) ?c2 (by omega) ?_)
        case c2=>intro b1 T;simp at T;subst T;rfl
        intro ab S x;have ar:X (Kp f w ab):=(t.alloc _).grown x (by intro bv aM;simp at aM;omega);have az:X (ab.heap[f]? =K (bR s (e+I h+I (bc d)+1))):=by
         show _=_;rw[x.block f (by simp;omega) (by simp;omega),e6 wr _ f (by omega)];exact P
        rw[show cW (dh m g)++[bt bM g]=cW (dh (m+1) g) from CW [] m g] at S;clear y x;go_wp2
        go_roundw
        case rel=>exact⟨m+1,by omega,by go_num,rfl,az.o,S,ar.o⟩
        case measure=>simp[bw];omega
       obtain rfl:m=d:=aa;go_wp2
       go_roundw
       exact⟨dh m g,h++(bc m++[bS g]),aF,by simpa using a6.o,bO,by rw[show e+I (h++(bc m++[bS g]))=e+I h+I (bc m)+1 by simp;omega];exact P,by simpa using y,t⟩;simp;omega
   .have q:X (∀c:List Int,I c=b->iU c->¬aQ (bytesOf s) e (eK c)):=by
     intro c u j z;have⟨ao,L,m,aG,aH,ad,l,r,H,aI,aJ⟩:=n.next p c u j z;have G:=jS aa (by have:=al;omega) r am;subst G;exact R L ad H
    have o:=ap (D.o.trans O);clear R O D ay;go_wp2;exact⟨rfl,o.o,an ⟨V,rfl,q.o⟩⟩
  .have q:X (∀c:List Int,I c=b->iU c->¬aQ (bytesOf s) e (eK c)):=by
    intro c u j z;have⟨ao,L,m,aG,aH,ad,l,r,H,aI,aJ⟩:=n.next p c u j z;exact R ao aa r
   have D:=ap (ae.trans N);clear R N;go_wp2;exact⟨rfl,D.o,an ⟨V,rfl,q.o⟩⟩
 have⟨bs,aD,bu⟩:=n.done p;have bD:aQ (bytesOf s) e h:=n.st
 skip
 go_wp2;go_ret;exact⟨ae,aq ⟨a,_,rfl,bs,n.bits,by rw[aD];exact bD,bu,by rw[aD];exact bl,by rw[aD];exact bb,bj⟩⟩
end Ec
namespace Pk
open Go.RowKit Pm
def aa4(a:Nat)(c:a<=16):dr ((2:Int)^a)=pw a:=by
 have d:=wF a;have e:=zY a c;have b:(2:Int)^a=pw a:=by rfl
 rw[b];unfold dr;omega
end Pk
end Go.Proofs.YtjidbonhhpkljaaGreat
namespace Go.Proofs.YtjidbonhhpkljaaGreat.Pm
def Us{v c b a:Nat}(d:a<=b):v%2^(c+b)/2^c%2^a=v/2^c%2^a:=by
 rw[oJ,Nat.mod_mul_right_div_self,show b=a+(b-a) by omega,oJ,Nat.mod_mul_right_mod]
def j5 (v c b a:Nat):Nat:=v%2^(8*b)/2^(c*a)
def Ti(v d b a c:Nat)(e:8*b=d*a+c):j5 v d b a<2^c:=by
 unfold j5;rw[Nat.div_lt_iff_lt_mul (Nat.pow_pos (by omega)),<-oJ,show c+d*a=8*b by omega];exact Nat.mod_lt _ (Nat.pow_pos (by omega))
def Tg(v c a b e:Nat)(d:8*a=c*b+e):j5 v c (a+1) b=j5 v c a b+2^e*(v/256^a%256):=by
 unfold j5;rw[show 8*(a+1)=8*a+8 by omega,oJ,Nat.mod_mul,zV,show(2:Nat)^8=256 by rfl]
 conv=>lhs;rw[d,oJ,Nat.mul_assoc]
 rw[Nat.add_mul_div_left _ _ (Nat.pow_pos (by omega)),d,oJ]
def Tk(v a c b:Nat)(d:Nat)(e:8*c=a*b+d)(f:a<=d):j5 v a c b%2^a=v/2^(a*b)%2^a:=by
 unfold j5;rw[e,Us f]
def Tj(v a c b:Nat):j5 v a c b/2^a=j5 v a c (b+1):=by
 unfold j5;rw[Nat.div_div_eq_div_mul,<-oJ,Nat.mul_succ]
def Tm{v a:Nat}:j5 v a 0 0=0:=by simp[j5,Nat.mod_one]
end Go.Proofs.YtjidbonhhpkljaaGreat.Pm
namespace Go.Proofs.YtjidbonhhpkljaaGreat.Pk
open Go.RowKit Go.Proofs.YtjidbonhhpkljaaGreat.Pm
def gV (s:ByteArray)(a:Nat):Nat:=V ((bytesOf s).drop a)
def Xr(s:ByteArray)(b a:Nat)(d:b+a<s.size):s[b+a].toNat=gV s b/256^a%256:=by
 unfold gV;have e:∀c∈(bytesOf s).drop b,c<256:=λc f=>xH s c (List.mem_of_mem_drop f);rw[<-HT a e,List.getElem?_drop,dH (by rw[cJ];exact d),s9,BV s d]
def yj (s:ByteArray)(c b a:Nat):Prop:=c+(a*b+7)/8<=s.size/\j5 (gV s c) b ((a*b+7)/8) a=0
def OG(b a:Nat)(d:a<=16)(g:b<16777216):bits .and .i64 (b:Int) (dr (pw a-1))=((b%2^a:Nat):Int):=by
 have e:=wF a;have f:=zY a d;rw[show dr (pw a-1)=pw a-1 from by unfold dr;omega];have c:pw a=(2:Int)^a:=by rfl
 rw[c,bits_mask .i64 62 ay ND a (by omega) (b:Int) (by omega) aa]
 push_cast;rfl
def Zw(a b:Nat):(a:Int)/2^b=((a/2^b:Nat):Int):=by rfl
def Xg(s:ByteArray)(f a b e:Nat)(F:s.size<=aS)(r:b<=16)(a5:e<=100)(ba:a<=s.size)(p:w.heap[f]? =K (bR s a)):
 bn 177 #[(aZ f),.int .i64 b,.int .i64 e] w λl k=>Kp f w k/\
  ((l= .returned (.slice (K ⟨U w.heap,0,Z⟩) e e)/\yj s a b e/\k.heap[f]? =K (bR s (a+(e*b+7)/8))/\
    k.ownsRow (U w.heap) 3 1 (.slice (K ⟨U w.heap,0,Z⟩) e e) e (cW (k3 (D b (gV s a) e))))\/
   (∃o,l= .panicked (g3 o)/\¬yj s a b e)):=by
 have⟨M,E,aQ,L,aY⟩:=eU aE.pP;have I:=bC p;have bb:=wF b;have bc:=zY b r;have bd:=aa4 b r;have ab:=ap p;go_enter aE.func177,Tryz.ntmps177;go_wp2_with (at_make;refine wpList_make_own _ Y _ _ 22 Y (U w.heap) 3 M (.int .i64 0) 1 aE.underlying22 E aQ L .i64 .i64 _ e Y Y Y (by rw[aY];omega) gy (aV _) ?_;intro N aJ B);have ar:Kp f w N:=(Kp.refl _ _).grown B aF;have ad:X (N.heap[f]? =K (bR s (a+0))):=by show _=_;rw[B.block f I (by simp)];exact ab.o
 go_loopw [7,8,9,13] (λa1 p o z wr=>∃(d c g:Nat),d<=e/\z= .int .i64 d/\a1= .slice (K ⟨U w.heap,0,Z⟩) d e/\o= .int .i64 g/\g<8/\8*c=b*d+g/\a+c<=s.size/\
  p= .int .i64 ((j5 (gV s a) b c d:Nat):Int)/\wr.heap[f]? =K (bR s (a+c))/\
  wr.ownsRow (U w.heap) 3 1 (.slice (K ⟨U w.heap,0,Z⟩) d e) d (cW (k3 (D b (gV s a) d)))/\Kp f w wr) (λ_ _ _ z _=>e-(bw z).toNat)
 exact⟨0,0,0,cE _,rfl,rfl,rfl,aa,aF,aa,by rw[Tm];rfl,ad.o,aJ,ar⟩;obtain⟨d,c,g,a7,rfl,rfl,rfl,aL,i,v,rfl,j,t,h⟩:=hrel;have T:=ap i;have aj:=ap j;by_cases aH:d<e
 .have a8:b*(d+1)<=16*100:=s8 r aa;have ay:b*(d+1)<=b*e:=Nat.mul_le_mul_left _ aH;go_wp2_with fail
  go_loopw [8,9] (λp o wr=>∃(c g:Nat),o= .int .i64 g/\g<b+8/\8*c=b*d+g/\a+c<=s.size/\p= .int .i64 ((j5 (gV s a) b c d:Nat):Int)/\wr.heap[f]? =K (bR s (a+c))/\
   wr.ownsRow (U w.heap) 3 1 (.slice (K ⟨U w.heap,0,Z⟩) d e) d (cW (k3 (D b (gV s a) d)))/\Kp f w wr) (λ_ o _=>b+8-(bw o).toNat)
  exact⟨c,g,rfl,aa,T.o,v,rfl,aj.o,t,h⟩;obtain⟨c,g,rfl,aL,i,v,rfl,j,t,h⟩:=hrel;have aD:=Ti (gV s a) b c d g i;have W:=ap (Tg (gV s a) b c d g i);have V:=ap (Tk (gV s a) b c d g i);have R:=ap (Tj (gV s a) b c d);have aC:j5 (gV s a) b c d<16777216:=by have m:2^g<=2^24:=n7 aa aa;omega
  skip
  generalize j5 (gV s a) b c d=q at*;by_cases be:g<b
  .by_cases y:a+c<s.size
   .have aw:=ap (Xr s a c y);have bi:s[a+c].toNat<256:=s[a+c].toNat_lt;have aI:=Vp q s[a+c].toNat g aa aa aD;rw[show q+2^g*s[a+c].toNat=j5 (gV s a) b (c+1) d from by rw[W.o,aw.o]] at aI;have P:X (∀w,w.heap[f]? =K (bR s (a+c))->bn 129 #[(aZ f)] w λl k=>l= .returned (.int .u8 (s[a+c].toNat:Int))/\∃n,k=(w.setCell ⟨f,1,Z⟩ (.int .i64 ((a+c+1:Nat):Int))).drewN n):=
     λw r=>BU f (a+c) s w F y r
    have a4:X (∃m,m=j5 (gV s a) b (c+1) d):=⟨_,rfl⟩;generalize az:j5 (gV s a) b (c+1) d=m at*;generalize s[a+c].toNat=bj at*;go_wp2_with (go_at_call 129;refine(P.o _ j).mono ?_;rintro l k ⟨rfl,n,rfl⟩)
    go_roundw
    case rel=>exact⟨c+1,g+8,by go_num,aa,by have:=i;omega,aa,by rw[az],vn j n,x8 (ownsRow_setCell_below t (by exact I) _) n,h.set _ _ n⟩
    case measure=>simp[bw];omega
   have S:X (¬yj s a b e):=by
    rintro⟨al,_⟩;have m:=i;rw[Nat.mul_succ] at ay;rw[uP e b] at al;omega
   go_wp2_with (go_at_call 129;refine(BT f (a+c) s F y v j).mono ?_;rintro l k ⟨rfl,n,rfl⟩);exact⟨rfl,h.drewN n,.inr ⟨_,rfl,S.o⟩⟩
  .have am:=OG q b r aC;rw[V.o (by omega)] at am;have aM:=Zw q b;rw[R.o] at aM;have Q:X (D b (gV s a) (d+1)=D b (gV s a) d++[gV s a/2^(b*d)%2^b]):=rfl;generalize gV s a/2^(b*d)%2^b=a3 at*;go_wp2_with (at_builtin;refine r7 _ Y _ _ 22 Y (U w.heap) 3 M 1 aE.underlying22 E L (U w.heap) d e _ Y (t.alloc _) ⟨U wr.heap,0,Z⟩ 1 1 [.int .i64 (a3:Int)] Y Y ?c1 ?c2 aa ?_)
   case c1=>
    intro a0 a2 u
    match a0,u with
    |0,u=>simp at u;subst u;simp[o9]
   case c2=>intro a2 J;simp at J;subst J;rfl
   .intro O H A;have ao:Kp f w O:=(h.alloc _).grown A aF;have ae:X (O.heap[f]? =K (bR s (a+c))):=by
     show _=_;rw[A.block f (by have:=h.size;simp;omega) (by simp;omega),e6 wr _ f (by have:=h.size;omega)];exact j
    rw[uf] at H;go_wp2
    go_roundw
    case rel=>exact⟨d+1,c,g-b,by omega,by go_num,rfl,by go_num,aa,by have:=i;rw[Nat.mul_succ];omega,v,rfl,ae.o,by rw[Q.o];simpa [k3] using H,ao⟩
    case measure=>simp[bw];omega
 have aG:d=e:=aa;subst aG;have G:c=(d*b+7)/8:=by have:=i;rw[uP b d] at this;omega
 by_cases C:j5 (gV s a) b c d=0
 .have x:X (yj s a b d):=⟨aa,bh⟩;rw[C];go_wp2;go_ret;exact⟨h,.inl ⟨rfl,x.o,by rw[<-G];exact j,t⟩⟩
 .have x:X (¬yj s a b d):=by rintro⟨_,m⟩;rw[<-G] at m;exact C m
  have a6:0<j5 (gV s a) b c d:=by omega
  generalize j5 (gV s a) b c d=q at*;have a9:((q:Int) !=0)=af:=bO;go_wp2_with (go_at_call 97;refine(lN f (a+c) s _ j).mono ?_;rintro l k ⟨rfl,rfl⟩);exact⟨rfl,h,.inr ⟨_,rfl,x.o⟩⟩
end Go.Proofs.YtjidbonhhpkljaaGreat.Pk
namespace Go.Proofs.YtjidbonhhpkljaaGreat
namespace Ec
open Go.RowKit Pk Pm
def HL(a:Nat):∀(c b:List Nat),(∀d∈c,d<2^a)->(∀d∈b,d<2^a)->I c=I b->N a c=N a b->c=b:=by
 intro c
 induction c with
 |nil=>intro b _ _ j _;exact bA (xm.1 (by grind))
 |cons d p o=>
  intro b h i j g;cases b with
  |nil=>simp at j
  |cons l k=>
   simp only[N] at g;have m:d=l:=by
    have:=congrArg (· % 2^a) g;simpa [Nat.add_mul_mod_self_left,s7 (h d (by simp)),s7 (i l (by simp))] using this
   subst m;have n:N a p=N a k:=Nat.eq_of_mul_eq_mul_left (Nat.pow_pos (n:=a) (show 0<2 by omega)) (by omega);rw[o k (λf e=>h f (by simp[e])) (λf e=>i f (by simp[e])) (by grind) n]
def Lm(s:ByteArray)(b a:Nat):V (((bytesOf s).drop b).take a)=gV s b%2^(8*a):=by
 rw[Ow _ (λd c=>xH s d (List.mem_of_mem_drop c)),zV];rfl
def JB{v b c a:Nat}:j5 v b c a=0↔v%2^(8*c)<2^(b*a):=by
 unfold j5;rw[Nat.div_eq_zero_iff];have:=Nat.pow_pos (n:=b*a) (show 0<2 by omega);omega
def B9(b a:Nat):b*a<=8*((a*b+7)/8):=bh
def Vu(s:ByteArray)(a:Nat)(b:Nat)(i:a<=bf s)(d:yj s a n b):aQ (bytesOf s) a (iH n (D n (gV s a) b)):=by
 obtain⟨h,c⟩:=d;rw[JB] at c;have e:I (((bytesOf s).drop a).take ((b*n+7)/8))=(b*n+7)/8:=by
  rw[m7,uN,cJ];omega
 have:=KB n (D n (gV s a) b) (((bytesOf s).drop a).take ((b*n+7)/8)) (by rw[e,w8]) (λg f=>xH s g (List.mem_of_mem_drop (xo f))) (by
  rw[Lm,za,<-Nat.mod_mod_of_dvd (gV s a) (Nat.pow_dvd_pow 2 (B9 n b)),s7 c])
 rw[<-this];exact List.take_prefix _ _
def zS(s:ByteArray)(c b:Nat)(a:List Nat)(k:c<=bf s)(i:∀l∈a,l<2^b)(g:aQ (bytesOf s) c (iH b a)):yj s c b (I a)/\D b (gV s c) (I a)=a:=by
 have h:=oX g (by rw[cJ];exact k);rw[wD,cJ] at h;have f:((bytesOf s).drop c).take ((I a*b+7)/8)=iH b a:=by
  have⟨m,f⟩:=g;rw[<-f,<-wD];simp
 have d:=Lm s c ((I a*b+7)/8);rw[f] at d;have e:=DU b a i;have j:V (iH b a)=N b a:=by
  rw[DZ,iH,za,s7];exact cL e (n7 aa (B9 b (I a)))
 rw[j] at d;refine⟨⟨h,?_⟩,?_⟩
 .rw[JB,<-d];exact e
 .refine HL b _ _ Av i w8 ?_;rw[za,<-Nat.mod_mod_of_dvd (gV s c) (Nat.pow_dvd_pow 2 (B9 b (I a))),<-d,s7 e]
def fE:Nat->List Nat->Option Nat
 |s,[]=>K s
 |s,a::b=>if a<s then fE s b else if a=s then fE (s+1) b else Z
def BZ(s:Nat):fE s (l++L)=(fE s l).bind (λb=>fE b L):=by
 induction l generalizing s with
 |nil=>rfl
 |cons c d a=>
  simp only[r9,fE]
  split
  exact a s
  split
  exact a _;rfl
def Ep{s c:Nat}(a:fE s l=K c):s<=c:=by
 induction l generalizing s with
 |nil=>simp[fE] at a;omega
 |cons d e b=>
  simp only[fE] at a
  split at a
  exact b a
  split at a
  have:=b a;omega;cases a
def zx{s e:Nat}(a:fE s l=K e):∀d∈l,d<e:=by
 induction l generalizing s with
 |nil=>simp
 |cons d h c=>
  intro f b;simp only[fE] at a
  split at a
  rename_i g;have:=Ep a;rcases fT.1 b with rfl|b;omega;exact c a f b
  split at a
  have:=Ep a;rcases fT.1 b with rfl|b;omega;exact c a f b;cases a
def PU(b:n<I l)(a:fE 0 (l.take n)=K m):fE 0 (l.take (n+1))=if l[n]<m then K m else if l[n]=m then K (m+1) else Z:=by
 rw[gh b,BZ,a];rfl
def Er(a:List Nat)(b:Nat):fE 0 a=(fE 0 (a.take b)).bind (λc=>fE c (a.drop b)):=by
 rw[<-BZ,vO]
def AT{a:List az}{v:az}:idx a v<I a↔v∈a:=by
 constructor
 .intro c;rw[<-Ci c];exact c8 c
 intro c;obtain⟨b,f,rfl⟩:=m6 c;have:=JE a a[b] b f;have d:m0 a[b] a[b]=af:=sO.2 Y;by_cases e:b<idx a a[b];rw[this e] at d;cases d;omega
def Fg{a:List az}(g:a.Nodup)(d:n<I a)(e:m<I a)(c:a[n]=a[m]):n=m:=by
 have f:=List.pairwise_iff_getElem.1 g;rcases Nat.lt_trichotomy n m with b|b|b;exact absurd c (f n m d e b);exact b;exact absurd (bA c) (f m n e d b)
def Tq{a:List az}(c:a.Nodup)(d:n<I a):idx a a[n]=n:=by
 have b:=(AT).2 (c8 d);exact Fg c _ _ (Ci b)
def RZ{a:List az}{v:az}:dfold (a++[v])=kD (dfold a) v:=by
 unfold dfold;rw[List.foldl_append];rfl
def RY{b:List az}(p:b.Nodup)(m:az):∀a e,a<=I l->fE 0 (l.take a)=K e->e<=I b->dfold ((l.take a).map (λx=>aX b x m))=(b.take e,l.take a):=by
 intro a
 induction a with
 |zero=>intro e _ c _;simp[fE] at c;subst c;simp[dfold]
 |succ a u=>
  intro e z c w;have r:a<I l:=aa;rw[Er (l.take (a+1)) a,List.take_take,xp aa] at c;cases f:fE 0 (l.take a) with
  |none=>rw[f] at c;cases c
  |some d=>
   rw[f] at c;have v:(l.take (a+1)).drop a=[l[a]]:=by
    rw[gh r,List.drop_append_of_le_length bh];simp
   simp only[zb,v,fE] at c;rw[gh r,gY,sg,RZ];by_cases o:l[a]<d;rw[if_pos o] at c;cases c;rw[u e aa f w];have t:l[a]<I b:=aa;have j:aX b l[a] m=b[l[a]]:=bh;have g:idx (b.take e) b[l[a]]=l[a]:=by
    have k:l[a]<I (b.take e):=bh;have:=Tq (p.sublist (List.take_sublist _ _)) k;rwa [rz] at this
   unfold kD ins;rw[j,g,if_pos bh,g];rw[if_neg o] at c;by_cases h:l[a]=d;rw[if_pos h] at c;cases c;rw[u d aa f aa];have t:d<I b:=aa;have j:aX b l[a] m=b[d]:=bh;have k:I (b.take d)=d:=bh;have s:¬idx (b.take d) b[d]<I (b.take d):=by
    rw[AT];intro g;have⟨A,y,n⟩:=m6 g;rw[rz] at n;have:=Fg p _ _ n;omega
   have q:ins (b.take d) b[d]=b.take (d+1):=by
    unfold ins;rw[if_neg s,gh t]
   have i:=Cj (b.take d) b[d];unfold kD;simp only;rw[j,q];rw[q] at i;rw[i.1,i.2.2 s,k,h];rw[if_neg h] at c;cases c
def EB(a:List az)(m:az):(dfold a).1.Nodup/\fE 0 (dfold a).2=K (dfold a).1.length/\(dfold a).2.map (λe=>(dfold a).1.getD e m)=a:=by
 have s:∀b,b<=I a->(dfold (a.take b)).1.Nodup/\fE 0 (dfold (a.take b)).2=K (dfold (a.take b)).1.length/\(dfold (a.take b)).2.map (λe=>(dfold (a.take b)).1.getD e m)=a.take b:=by
  intro b
  induction b with
  |zero=>intro _;simp[dfold,fE]
  |succ b r=>
   intro v;have⟨j,f,k⟩:=r aa;have i:b<I a:=aa;have p:=zx f;rw[dfold_succ i];generalize dfold (a.take b)=c at*;have g:=Cj c.1 a[b];unfold kD;by_cases d:idx c.1 a[b]<I c.1;have h:ins c.1 a[b]=c.1:=by unfold ins;rw[if_pos d]
   rw[h];refine⟨j,?_,?_⟩;rw[BZ,f];simp[fE,d];rw[gY,k,gh i];congr 1;simp[aX,d,Ci d];have h:ins c.1 a[b]=c.1++[a[b]]:=by unfold ins;rw[if_neg d]
   rw[h] at g ⊢;rw[g.1,g.2.2 d];refine⟨?_,?_,?_⟩;rw[List.nodup_append];refine⟨j,aF,?_⟩;intro t o u l n;simp at l;subst l;subst n;exact d ((AT).2 o);rw[BZ,f];simp[fE];rw[gY,gh i];congr 1;rw[<-k];apply y4;intro e q;have:=p e q;simp[aX,ru this];simp
 have:=s (I a) (aV _);rwa [iZ] at this
def R1(V:M=1\/M=2\/M=3){s:ByteArray}{p cn n:Nat}{d:List az}(f:az)(U:cn<=100)(W:n<=cn)(L:I d=n)(J:∀a∈d,VK M a)(H:d.Nodup)(x:I ps=cn)
 (u:fE 0 ps=K n) (A:aQ (bytesOf s) p (bc n)) (Q:aQ (bytesOf s) (p+I (bc n)) (dJ M d)) (B:aQ (bytesOf s) (p+I (bc n)+I (dJ M d)) (iH (wid n) ps))
 (u2:∀D:List az,I D=n->(∀a∈D,VK M a)->aQ (bytesOf s) (p+I (bc n)) (dJ M D)->D=d) (w:p+I (bc n)+I (dJ M d)<=bf s):
 I (ps.map λb=>aX d b f)=cn/\(∀a∈ps.map λb=>aX d b f,VK M a)/\gi M (ps.map λb=>aX d b f)=bc n++(dJ M d++iH (wid n) ps)/\aQ (bytesOf s) p (gi M (ps.map λb=>aX d b f))/\
  ∀c:List az,I c=cn->(∀a∈c,VK M a)->aQ (bytesOf s) p (gi M c)->c=ps.map λb=>aX d b f:=by
 have N:dfold (ps.map λb=>aX d b f)=(d,ps):=by
  have:=RY H f (I ps) n (aV _) bh aa;rw[iZ,ja (aa:I d<=n)] at this;exact this
 have t:gi M (ps.map λb=>aX d b f)=bc n++(dJ M d++iH (wid n) ps):=by
  unfold gi;rw[N,L]
 refine⟨by simp[x],?_,t,?_,?_⟩;intro a e;obtain⟨b,P,rfl⟩:=kA.1 e;have X:=zx u b P;have y:b<I d:=aa;simp only[aX,y,dH,s9];exact J _ (c8 y);rw[t,dn,dn];exact⟨A,Q,B⟩;intro c G O g;have⟨S,T,m⟩:=EB c f;have⟨E,o,q,r⟩:=wi c (I c) (aV _);rw[iZ] at E o q r;unfold gi at g;rw[dn,dn] at g;have⟨R,C,j⟩:=g;have k:(dfold c).1.length=n:=jS aa aa R A;rw[k] at C j;have l:(dfold c).1=d:=u2 _ k (λa e=>O a (r a e)) C;rw[l] at j;have v:∀(h:List Nat),(∀a∈h,a<n)->∀a∈h,a<2^wid n:=λh F a e=>Ap (by omega) a (F a e);have i:=(zS s _ (wid n) (dfold c).2 w (v _ (λa e=>by have:=q a e;omega)) j).2;have z:=(zS s _ (wid n) ps w (v _ (λa e=>zx u a e)) B).2;rw[o,G] at i;rw[x] at z;rw[z] at i;rw[l,<-i] at m;exact bA m
def VC (a:Int)(v:az):Prop:=(v.null=af/\v.n=0/\v.s=⟨#[]⟩)\/VK a v
def VC.may{v:az}(e:M=1\/M=2\/M=3)(a:VC M v):gT v M=af:=by
 rcases a with⟨b,c,d⟩|a;unfold gT;rw[b,c,d];simp[uF];exact AX e a
def VC.BD{v:az}(a:VC M v):BL v:=by
 rcases a with⟨b,c,d⟩|a;exact⟨aa,aa⟩;exact⟨a.lo,a.hi⟩
def Dt{d:List az}(c:∀b∈d,VC M b):∀b∈there d,VK M b:=by
 intro b a;unfold there at a;rw[List.mem_filter] at a;rcases c b a.1 with⟨e,_⟩|c;rw[e] at a;simp at a;exact c
def J0:∀(c b:List az),(∀a∈c,VC M a)->(∀a∈b,VC M a)->c.map fX=b.map fX->there c=there b->c=b:=by
 intro c
 induction c with
 |nil=>intro b _ _ g _;simp at g;exact bA g
 |cons a w x=>
  intro b t u h s;cases b with
  |nil=>simp at h
  |cons e k=>
   simp only[tV,vN] at h;have y:a.null=e.null:=by
    have:=h.1;unfold fX at this;cases f:a.null<;>cases d:e.null<;>simp[f,d] at this<;>rfl
   have v:=λg=>x k (λl j=>t l (by simp[j])) (λl j=>u l (by simp[j])) h.2 g;cases f:a.null with
   |true=>
    have d:e.null=af:=bh;have i:there w=there k:=by simpa [there,f,d] using s
    rw[v i];congr 1;rcases t a aF with⟨m,n,o⟩|c;rcases u e aF with⟨p,q,r⟩|b;cases a;cases e;simp at m n o p q r;simp[m,n,o,p,q,r];rw[b.there] at d;cases d;rw[c.there] at f;cases f
   |false=>
    have d:e.null=ai:=bh;have i:a=e/\there w=there k:=by simpa [there,f,d] using s
    rw[i.1,v i.2]
def iw (b:List Int):Nat:=I (b.filter λa=>a !=0)
def G7{a:List az}:I (there a)=iw (a.map fX):=by
 unfold there iw
 induction a with
 |nil=>rfl
 |cons d e c=>
  cases b:d.null with
  |true=>simp[b,fX];simpa [fX] using c
  |false=>simp[b,fX];simpa [fX] using c
def Cq(b:List az):iU (b.map fX):=by
 intro d a;obtain⟨c,_,rfl⟩:=kA.1 a;unfold fX
 split
 exact aq Y;exact an Y
def Ro{k e:Int}{s:ByteArray}{p cn:Nat}{l:List az}(m:I l=cn)(g:∀c∈l,VC k c)
 (h:aQ (bytesOf s) p (eK (l.map fX))) (u1:∀a:List Int,I a=cn->iU a->aQ (bytesOf s) p (eK a)->a=l.map fX)
 (i:aQ (bytesOf s) (p+I (eK (l.map fX))) (jE k e (there l))) (u2:∀a:List az,I a=iw (l.map fX)->(∀c∈a,VK k c)->aQ (bytesOf s) (p+I (eK (l.map fX))) (jE k e a)->a=there l):
 aQ (bytesOf s) p (g5 k e l)/\∀a:List az,I a=cn->(∀c∈a,VC k c)->aQ (bytesOf s) p (g5 k e a)->a=l:=by
 refine⟨by unfold g5;rw[dn];exact⟨h,i⟩,?_⟩;intro a j f b;unfold g5 at b;rw[dn] at b;have d:=u1 (a.map fX) bh (Cq a) b.1;rw[d] at b;exact J0 a l f g d (u2 (there a) (by rw[G7,d]) (Dt f) b.2)
def nF(b:List az)(a:az):bZ b++[ak a.null,z9 a.n,au a.s]=bZ (b++[a]):=by rw[yA,yB]
def Lh(a:Int)(z:a=1\/a=2\/a=3)(s:ByteArray)(e c g:Nat)(al:s.size<=aS)(aM:g<=100)(aC:c<=s.size)(r:w.heap[e]? =K (bR s c)):
 bn 173 #[(aZ e),z9 a,z9 g] w λj p=>Kp e w p/\
  ((∃(b:List az) (v:F),j=aR v/\I b=g/\(∀d∈b,VK a d)/\aQ (bytesOf s) c (dJ a b)/\(∀f:List az,I f=g->(∀d∈f,VK a d)->aQ (bytesOf s) c (dJ a f)->f=b)/\c+I (dJ a b)<=s.size/\
    p.heap[e]? =K (bR s (c+I (dJ a b)))/\aT p (U w.heap) 59 3 v (I b) (bZ b))\/
   (∃o,j=gO (g3 o)/\∀f:List az,I f=g->(∀d∈f,VK a d)->¬aQ (bytesOf s) c (dJ a f))):=by
 have⟨H,y,aH,G,aJ⟩:=eU aE.nh;have C:=bC r
 skip
 go_enter aE.func173,Tryz.ntmps173;go_wp2_with (at_make;refine wpList_make_own _ Y _ _ 43 Y (U w.heap) 59 H _ 3 aE.underlying43 y aH G bM bM _ g Y Y Y (jG aJ) gy (aV _) ?_;intro J ar u);have M:X (Kp e w J):=(Kp.refl e w).grown u aF;have R:X (J.heap[e]? =K (bR s c)):=by show _=_;rw[u.block e C aF];exact r
 go_loopw [7,11] (λaL n wr=>∃b:List az,n=n9 (I b)/\aL=aI (U w.heap) (I b) g/\jN (dJ a) (VK a) (bytesOf s) c g b/\c+I (dJ a b)<=s.size/\wr.heap[e]? =K (bR s (c+I (dJ a b)))/\
  aT wr (U w.heap) 59 3 (aI (U w.heap) (I b) g) (I b) (bZ b)/\Kp e w wr) (λ_ n _=>g-bS (bw n))
 exact⟨[],rfl,rfl,jN.zero Y,by simpa [dJ] using aC,by simpa [dJ] using R.o,ar,M.o⟩;obtain⟨b,rfl,rfl,h,B,t,A,k⟩:=hrel
 skip
 by_cases m:I b<g;go_wp2_with fail;refine bL (CV a z e (c+I (dJ a b)) s _ al B t) ?_;rintro j q ⟨l,⟨d,rfl,E,D,aj,ae⟩|⟨o,rfl,am⟩⟩;have i:=ap (k.trans l);have aw:=l.own A C;have P:X (jN (dJ a) (VK a) (bytesOf s) c g (b++[d])):=h.more (e:=λ_ v=>cZ a v) (um a) m E D (λa0 aG aD=>wE z aG E aD D);have S:X (q.heap[e]? =K (bR s (c+I (dJ a (b++[d]))))):=by
  show _=_;rw[um,cN,<-gF];exact ae
 have O:X (c+I (dJ a (b++[d]))<=s.size):=by
  show _<=_;rw[um,cN,<-gF];exact aj
 have aY:=i.o.size;go_wp2_with (at_builtin;refine r7 _ Y _ _ 43 Y (U w.heap) 59 H 3 aE.underlying43 y G (U w.heap) (I b) g _ Y (aw.alloc _) ⟨U q.heap,0,Z⟩ 1 1 [ak d.null,z9 d.n,au d.s] Y Y (by exact lR _) (lS d) (by omega) ?_;intro L ay x);have N:X (Kp e w L):=(i.o.alloc _).grown x aF;have T:X (L.heap[e]? =K (bR s (c+I (dJ a (b++[d]))))):=by
  show _=_;rw[x.block e bO bO,e6 q _ e aa];exact S.o
 rw[nF] at ay;go_wp2
 go_roundw
 exact⟨b++[d],aF,aF,P.o,O.o,T.o,bh,N.o⟩;simp[bw];omega;have Q:X (∀f:List az,I f=g->(∀d∈f,VK a d)->¬aQ (bytesOf s) c (dJ a f)):=λf ad ao=>h.fail (e:=λ_ v=>cZ a v) (um a) m am f ad ao;have i:=ap (k.trans l);go_wp2;exact⟨rfl,i.o,an ⟨o,rfl,Q.o⟩⟩;have⟨W,ab⟩:=h.done m;have V:=ap h.st
 skip
 go_wp2;go_ret;exact⟨k,aq ⟨b,_,rfl,W,h.x7,V.o,ab,B,t,A⟩⟩
def mX (a b:Int):az:=⟨ai,dr (a+b),⟨#[]⟩⟩
def MS:VK 1 (mX M qA):=⟨rfl,(uB _).1,(uB _).2,λ_=>rfl,λa=>aa,λa=>aa⟩
def I_(a:Int){v:az}(b:VK 1 v):bc (zz (dr ((mX a v.n).n-a)))=cZ 1 v:=by
 show bc (zz (dr (dr (a+v.n)-a)))=bc (zz v.n);rw[aa3 b.lo b.hi]
def Xa{s:ByteArray}(aJ:s.size<=aS)(a9:k<=100)(a3:m<=s.size)(g:w.heap[n]? =K (bR s m)):
 bn 170 #[(aZ n),z9 k] w λj u=>Kp n w u/\
  ((∃(a:List az) (v:F),j=aR v/\I a=k/\(∀b∈a,VK 1 b)/\aQ (bytesOf s) m (fw 0 a)/\(∀c:List az,I c=k->(∀b∈c,VK 1 b)->aQ (bytesOf s) m (fw 0 c)->c=a)/\m+I (fw 0 a)<=s.size/\
    u.heap[n]? =K (bR s (m+I (fw 0 a)))/\aT u (U w.heap) 59 3 v (I a) (bZ a))\/
   (∃t,j=gO (g3 t)/\∀c:List az,I c=k->(∀b∈c,VK 1 b)->¬aQ (bytesOf s) m (fw 0 c))):=by
 have⟨N,E,a6,M,a7⟩:=eU aE.nh;have J:=bC g;have ab:=ap g;have ba:∀(ao z ar:F) (w:ag),(Instr.field 59 (cw #[ao,z,ar]) 1).run (aM av) w=b6 z w:=λ_ _ _ _=>by first|rfl|kernel_rfl
 have i:=ap (EA 0);go_enter aE.func170,Tryz.ntmps170;go_wp2_with (at_make;refine wpList_make_own _ Y _ _ 43 Y (U w.heap) 59 N _ 3 aE.underlying43 E a6 M bM bM _ k Y Y Y (jG a7) gy (aV _) ?_;intro O a0 C);have Q:X (Kp n w O):=(Kp.refl n w).grown C aF;have ad:X (O.heap[n]? =K (bR s m)):=by show _=_;rw[C.block n J aF];exact ab.o
 go_loopw [5,6,10] (λa8 h r wr=>∃a:List az,r=n9 (I a)/\h=z9 (fQ 0 a)/\a8=aI (U w.heap) (I a) k/\jN (fw 0) (VK 1) (bytesOf s) m k a/\m+I (fw 0 a)<=s.size/\wr.heap[n]? =K (bR s (m+I (fw 0 a)))/\
  aT wr (U w.heap) 59 3 (aI (U w.heap) (I a) k) (I a) (bZ a)/\Kp n w wr) (λ_ _ r _=>k-bS (bw r))
 exact⟨[],rfl,rfl,rfl,jN.zero Y,by simpa [fw] using a3,by simpa [fw] using ad.o,a0,Q.o⟩;obtain⟨a,rfl,rfl,rfl,d,H,B,G,l⟩:=hrel
 skip
 by_cases p:I a<k;go_wp2_with fail;refine bL (CV 1 (aq Y) n (m+I (fw 0 a)) s _ aJ H B) ?_;rintro j x ⟨o,⟨b,rfl,a5,bb,aH,aD⟩|⟨t,rfl,aL⟩⟩;have f:=ap (l.trans o);have a1:=o.own G J;have aG:=I_ (fQ 0 a) a5;have V:X (jN (fw 0) (VK 1) (bytesOf s) m k (a++[mX (fQ 0 a) b.n])):=
  d.more (e:=λa v=>bc (zz (dr (v.n-fQ 0 a)))) i.o p MS (by grind) (λe L q=>IU L MS q (by grind))
 have y:X (I (fw 0 (a++[mX (fQ 0 a) b.n]))=I (fw 0 a)+I (cZ 1 b)):=by
  show _=_;rw[i.o,cN,aG]
 have ae:X (x.heap[n]? =K (bR s (m+I (fw 0 (a++[mX (fQ 0 a) b.n]))))):=by
  show _=_;rw[y.o,<-gF];exact aD
 have S:X (m+I (fw 0 (a++[mX (fQ 0 a) b.n]))<=s.size):=by
  show _<=_;rw[y.o,<-gF];exact aH
 have T:X (fQ 0 (a++[mX (fQ 0 a) b.n])=dr (fQ 0 a+b.n)):=E8 _;have am:X (∀v,v=[ak ai,z9 (dr (fQ 0 a+b.n)),au ⟨#[]⟩]->bZ a++v=bZ (a++[mX (fQ 0 a) b.n])):=by
  intro v a4;rw[a4,<-nF];rfl
 have bd:=f.o.size;generalize mX (fQ 0 a) b.n=e at*;generalize fQ 0 a=h at*;generalize b.n=A at*;go_wp2_with (at_builtin;refine r7 _ Y _ _ 43 Y (U w.heap) 59 N 3 aE.underlying43 E M (U w.heap) (I a) k _ Y (a1.alloc _) ⟨U x.heap,0,Z⟩ 1 1 [ak ai,z9 (dr (h+A)),au ⟨#[]⟩] Y Y (by exact lR _) (lS ⟨ai,dr (h+A),⟨#[]⟩⟩) aa ?_;intro P a2 D);have R:X (Kp n w P):=(f.o.alloc _).grown D aF;have aj:X (P.heap[n]? =K (bR s (m+I (fw 0 (a++[e]))))):=by
  show _=_;rw[D.block n bO bO,e6 x _ n aa];exact ae.o
 rw[am.o _ Y] at a2;go_wp2
 go_roundw
 exact⟨a++[e],aF,by rw[T.o],aF,V.o,S.o,aj.o,bh,R.o⟩;simp[bw];omega;have W:X (∀c:List az,I c=k->(∀b∈c,VK 1 b)->¬aQ (bytesOf s) m (fw 0 c)):=λc aC aY=>d.fail (e:=λa v=>bc (zz (dr (v.n-fQ 0 a)))) i.o p (λe L q=>aL ⟨ai,dr (e.n-fQ 0 a),⟨#[]⟩⟩ ⟨rfl,(uB _).1,(uB _).2,λ_=>rfl,λg=>aa,λg=>aa⟩ q) c aC aY;have f:=ap (l.trans o);go_wp2;exact⟨rfl,f.o,an ⟨t,rfl,W.o⟩⟩;have⟨aw,ay⟩:=d.done p;have al:=ap d.st
 skip
 go_wp2;go_ret;exact⟨l,aq ⟨a,_,rfl,aw,d.x7,al.o,ay,H,B,G⟩⟩
def rF (a:Int):az:=⟨ai,a,⟨#[]⟩⟩
def aaA(M:I qY<=100)(B:iC w x qY):
 bn 172 #[x] w λq l=>aD w l/\∃v,q=aR v/\aT l (U w.heap) 59 3 v (I qY) (bZ (qY.map rF)):=by
 have⟨j,g,C,i,D⟩:=eU aE.nh;obtain⟨H,f,k,J,rfl,r,s,t⟩:=B
 skip
 go_enter aE.func172,Tryz.ntmps172;go_wp2_with (at_make;refine wpList_make_own _ Y _ _ 43 Y (U w.heap) 59 j _ 3 aE.underlying43 g C i bM bM _ (I qY) Y Y Y (jG D) gy (aV _) ?_;intro E z u);have n:X (aD w E):=iB (bU _ _) u (aV _) aF
 go_loopw [3,11] (λx e wr=>∃a:Nat,a<=I qY/\e=n9 a/\x=aI (U w.heap) a (I qY)/\aT wr (U w.heap) 59 3 (aI (U w.heap) a (I qY)) a (bZ ((qY.take a).map rF))/\aD w wr) (λ_ e _=>I qY-bS (bw e))
 exact⟨0,cE _,rfl,rfl,by simpa [bZ] using z,n.o⟩;obtain⟨a,L,rfl,rfl,d,b⟩:=hrel;have A:=b.size
 skip
 by_cases c:a<I qY
 .obtain rfl:=r aa;have K:aJ wr f (k+a) (z9 (aX qY a 0)):=aB (bq b (p:=⟨f,k+a,Z⟩) (s aa)) (t a c);have p:X (bZ ((qY.take a).map rF)++[ak ai,z9 (aX qY a 0),au ⟨#[]⟩]=bZ ((qY.take (a+1)).map rF)):=by
   show _=_;rw[gh c,gY,sg,<-nF,lM c];rfl
  generalize aX qY a 0=m at*;go_wp2_with (at_builtin;refine r7 _ Y _ _ 43 Y (U w.heap) 59 j 3 aE.underlying43 g i (U w.heap) a (I qY) _ Y (d.alloc _) ⟨U wr.heap,0,Z⟩ 1 1 [ak ai,z9 m,au ⟨#[]⟩] Y Y (by exact lR _) (lS ⟨ai,m,⟨#[]⟩⟩) aa ?_;intro G h y);have o:X (aD w G):=iB (b.alloc A _) y bO aF;rw[p.o] at h;go_wp2
  go_roundw
  exact⟨a+1,aa,by go_num,rfl,h,o.o⟩;simp[bw];omega
 obtain rfl:a=I qY:=aa;rw[iZ] at d;go_wp2;go_ret;exact⟨b,_,rfl,d⟩
def Fs(a:List Int):iw a<=I a:=List.length_filter_le _ _
def Cz(c:iU qY)(a:n<I qY):((iw (qY.take (n+1)):Nat):Int)=(iw (qY.take n):Nat)+aX qY n 0:=by
 rw[gh a,lM a];unfold iw;rw[List.filter_append,cN];rcases c _ (c8 a) with b|b<;>simp[b]
def Ru(i:F)(b:List Int)(c:ag)(A:I b<=100)(f:iU b)(s:iC c i b):
 bn 166 #[i] c λo t=>o=aR (z9 ((iw b:Nat):Int))/\t=c:=by
 obtain⟨u,v,C,w,rfl,p,x,e⟩:=s;have j:=ap e;have l:X (∀a,a<I b->((iw (b.take (a+1)):Nat):Int)=(iw (b.take a):Nat)+aX b a 0):=λa g=>Cz f g;have k:X (∀a,iw (b.take a)<=a):=λa=>by have:=Fs (b.take a);rw[m7] at this;omega
 clear e f;go_enter aE.func166,Tryz.ntmps166;go_wp2_with fail
 go_loopw [3,8] (λn d wr=>∃a:Nat,a<=I b/\d=n9 a/\n=z9 ((iw (b.take a):Nat):Int)/\wr=c) (λ_ d _=>I b-bS (bw d))
 exact⟨0,cE _,rfl,by simp[iw],rfl⟩;obtain⟨a,g,rfl,rfl,rfl⟩:=hrel;by_cases h:a<I b;obtain rfl:=p aa;have y:=j.o a h;have q:=l.o a h;have z:=k.o (a+1);generalize aX b a 0=E at*;generalize iw (b.take a)=B at*;generalize r:iw (b.take (a+1))=D at*;have m:=ap r;go_wp2
 go_roundw
 exact⟨a+1,aa,by go_num,by rw[m.o,q],by trivial⟩;simp[bw];omega;obtain rfl:a=I b:=aa;rw[iZ];go_wp2;go_ret;exact⟨rfl,rfl⟩
end Ec
namespace Ec
open Go.RowKit Pk
def rY (b:List bF)(c:List Int):Prop:=I b=I c/\∀a,(d:a<I b)->eW b[a].kind (aX c a 0)=af
def OK(b:List bF)(d:List Int)(i:ag)(W:I b<=aS)(Y:I d<=aS)(O:o7 i v b)(Q:iC i x d):
 bn 57 #[x,v] i λL ad=>∃s,L=aR (ak s)/\(s=af↔rY b d)/\aD i ad:=by
 obtain⟨aj,al,aF,am,rfl,az,h⟩:=O;obtain⟨ar,m,n,ao,rfl,N,T,o⟩:=Q;unfold aS at W Y;by_cases p:I b=I d
 .have S:((I d:Int) !=(I b:Int))=ai:=by simp[p]
  have r:=ap p;have D:=ap h;have A:=ap o;go_enter aE.func57,Tryz.ntmps57;go_wp2_with fail
  go_loopw [14] (λc wr=>∃a:Nat,a<=I b/\c=z9 a/\(∀c,(e:c<I b)->c<a->eW b[c].kind (aX d c 0)=af)/\aD i wr) (λc _=>I b-bS (bw c))
  exact⟨0,cE _,rfl,λaQ _ e=>aa,bU _ _⟩;obtain⟨a,aC,rfl,u,g⟩:=hrel;have z:=g.size
  skip
  by_cases l:a<I b
  .have h:=D.o.below g;obtain rfl:=h.addr aa;have V:a<I d:=by rw[<-r.o];exact l
   obtain rfl:=N aa;have y:=T aa;have aG:=h.c0 a l;have aH:=h.c1 a l;have ab:aJ wr m (n+a) (z9 (aX d a 0)):=(bq g (p:=⟨m,n+a,Z⟩) y).trans (A.o a V);have P:=cL y z;have E:X (eW b[a].kind (aX d a 0)=ai->¬rY b d):=λe o=>by
    have:=o.2 a l;rw[e] at this;cases this
   have H:X (eW b[a].kind (aX d a 0)=af->∀c,(e:c<I b)->c<a+1->eW b[c].kind (aX d c 0)=af):=λe c R ay=>by
    by_cases M:c=a;subst M;exact e;exact u c R aa
   generalize b[a]=f at*;generalize aX d a 0=t at*;go_upto_region 6 with fail;have⟨aI,aL⟩:=Nk wr (au f.name) (z9 f.kind) 63;have w:aD wr (wr.alloc (ax #[au f.name,z9 f.kind] 63)):=(bU _ _).alloc (aV _) _;have aM:=(bq w (p:=⟨m,n+a,Z⟩) P).trans ab;have q:=ap (g.trans (w.mono z));generalize wr.alloc (ax #[au f.name,z9 f.kind] 63)=ae at*;generalize U wr.heap=aw at*;have j:=λK=>Jz f.kind t K;cases k:eW f.kind t
   .have G:=ap (E.o k);rw[k] at j;go_quiet ((go_at_call 83;exact vG (j _)));go_wp2;go_ret;exact aq ⟨rfl,G.o,below_drewN q.o _⟩
   have J:=ap (H.o k);rw[k] at j;go_quiet ((go_at_call 83;exact vG (j _)));go_wp2
   go_roundw
   exact⟨a+1,by omega,by go_num,J.o,below_drewN q.o _⟩;simp[bw];omega
  have C:X (rY b d):=⟨r.o,λc e=>u c e aa⟩
  skip
  go_wp2;go_ret;exact⟨af,rfl,by simp only[true_iff];exact C.o,g⟩
 .have S:((I d:Int) !=(I b:Int))=af:=by simp;omega
  have B:X (¬rY b d):=λe=>p e.1;go_enter aE.func57,Tryz.ntmps57;go_wp2
  all_goals go_ret
  all_goals exact⟨ai,rfl,by simp only[fA,false_iff];exact B.o,bU _ _⟩
def R9(b:List bF)(d:List Int)(h:ag)(R:I b<=aS)(S:I d<=aS)(K:o7 h v b)(M:iC h x d):
 bn 103 #[v,x] h λG T=>∃o,G=aR (ak o)/\(o=af↔rY b d)/\aD h T:=by
 obtain⟨U,V,am,W,rfl,ae,g⟩:=K;obtain⟨ab,p,r,Y,rfl,J,P,k⟩:=M;unfold aS at R S;by_cases l:I b=I d
 .have O:((I b:Int) !=(I d:Int))=ai:=by simp[l]
  have n:=ap l;have z:=ap g;have u:=ap k;clear g l k;go_enter aE.func103,Tryz.ntmps103;go_wp2_with fail
  go_loopw [5] (λc wr=>∃a:Nat,a<=I b/\c=z9 a/\(∀c,(e:c<I b)->c<a->eW b[c].kind (aX d c 0)=af)/\aD h wr) (λc _=>I b-bS (bw c))
  exact⟨0,cE _,rfl,λar _ e=>aa,bU _ _⟩;obtain⟨a,aj,rfl,s,f⟩:=hrel
  skip
  by_cases m:a<I b;have g:=z.o.below f;obtain rfl:=g.addr aa;have Q:a<I d:=by rw[<-n.o];exact m
  obtain rfl:=J aa;have L:=P aa;have ao:=g.c1 a m;have al:aJ wr p (r+a) (z9 (aX d a 0)):=aB (bq f (p:=⟨p,r+a,Z⟩) L) (u.o a Q);have A:X (eW b[a].kind (aX d a 0)=ai->¬rY b d):=λe k=>by
   have:=k.2 a m;rw[e] at this;cases this
  have C:X (eW b[a].kind (aX d a 0)=af->∀c,(e:c<I b)->c<a+1->eW b[c].kind (aX d c 0)=af):=λe c N ad=>by
   by_cases H:c=a;subst H;exact e;exact s c N aa
  generalize b[a]=t at*;generalize aX d a 0=q at*;have i:=λE=>SA t.kind q E;cases j:eW t.kind q;have B:=ap (A.o j);rw[j] at i;go_wp2_with fail;go_quiet ((go_at_call 132;exact vG (i _)));go_wp2;go_ret;exact⟨ai,rfl,by simp only[fA,false_iff];exact B.o,below_drewN f _⟩;have D:=ap (C.o j);rw[j] at i;go_wp2_with fail;go_quiet ((go_at_call 132;exact vG (i _)));go_wp2
  go_roundw
  exact⟨a+1,aa,by go_num,D.o,below_drewN f _⟩;simp[bw];omega;have y:X (rY b d):=⟨n.o,λc e=>s c e aa⟩
  skip
  go_wp2;go_ret;exact⟨af,rfl,by simp only[true_iff];exact y.o,f⟩
 .have O:((I b:Int) !=(I d:Int))=af:=by simp;omega
  have w:X (¬rY b d):=λe=>l e.1;go_enter aE.func103,Tryz.ntmps103;go_wp2
  all_goals go_ret
  all_goals exact⟨ai,rfl,by simp only[fA,false_iff];exact w.o,bU _ _⟩
def M9(a:ag)(b c d:F)(e:aK):aA (cD a (ax #[b,c,d] e)) ⟨U a.heap,0,Z⟩=K b/\aA (cD a (ax #[b,c,d] e)) ⟨U a.heap,1,Z⟩=K c/\aA (cD a (ax #[b,c,d] e)) ⟨U a.heap,2,Z⟩=K d:=by
 refine⟨?_,?_,?_⟩<;>simp
def iC.lower(h:iC w v qY)(c:aD w u):iC u v qY:=by
 obtain⟨f,a,e,g,rfl,j,b,k⟩:=h;exact⟨f,a,e,g,rfl,j,λi=>cL (b i) c.size,λd l=>aB (bq c (p:=⟨a,e+d,Z⟩) (b aa)) (k d l)⟩
end Ec
namespace Ec
open Go.RowKit Pk Pm
structure fc where
 text:ByteArray
 bV:ia
structure Bd where
 rows:Nat
 chunks:List fc
def pO{i:Type}(f:i->List F)(s:Nat)(j:∀h,I (f h)=s)(d:List i):∀a (c:a<I d) b e,(f d[a])[b]? =K e->(d.flatMap f)[a*s+b]? =K e:=by
 induction d with
 |nil=>intro a c;simp at c
 |cons h m k=>
  intro a c b e g;rw[lD];cases a with
  |zero=>
   have l:b<I (f h):=by
    simp only[n5] at g;exact(fq.1 g).1
   rw[ru (by omega)];simpa using g
  |succ a=>
   have:=k a (by simpa using c) b e (by grind);rw[pG (by grind),j,show(a+1)*s+b-s=a*s+b by grind];exact this
structure BH{α:Type}(w:ag)(f:α->List F)(s:Nat)(ao:Option aN)(b off:Nat)(l:List α):Prop where
 addr:0<I l->ao=K ⟨b,off,Z⟩
 lt:0<I l->b<U w.heap
 c:∀j (h:j<I l) i u,(f l[j])[i]? =K u->aA w ⟨b,off+j*s+i,Z⟩=K u
def BH.below{g:Type}{f:g->List F}{s:Nat}{e:List g}(a:BH w f s O n m e)(b:aD w u):BH u f s O n m e:=
 ⟨a.addr,λh=>cL (a.lt h) b.size,λd i c k j=>aB (bq b (p:=⟨n,m+d*s+c,Z⟩) (a.lt aa)) (a.c d i c k j)⟩
def vD {c:Type}(h:ag)(f:c->List F)(s:Nat)(v:F)(b:List c):Prop:=∃a d g e,v=ah a (I b) e/\BH h f s a d g b
def vD.gC{e:Type}{f:e->List F}{s g:Nat}{b:List e}(k:∀p,I (f p)=s)(a:aT w g Qc s v (I b) (b.flatMap f)):vD w f s v b:=by
 rcases a.2 with⟨rfl,i⟩|⟨c,h,q,rfl,r,x,y,t,u,z⟩;have:b=[]:=tU i;subst this;exact⟨Z,0,0,0,rfl,⟨λa=>by simp at a,λa=>by simp at a,λd a=>by simp at a⟩⟩;have j:=a.cells (g:=c) Y;refine⟨K ⟨c,0,Z⟩,c,0,h,rfl,⟨λ_=>rfl,λ_=>(a.lt c Y).2,?_⟩⟩;intro d l n o m;have:=j _ _ (pO f s k b d l n o m);simpa [lU] using this
def mP (a:fc):List F:=[au a.text,ak a.bV.there,ak a.bV.least.null,z9 a.bV.least.n,au a.bV.least.s,ak a.bV.most.null,z9 a.bV.most.n,au a.bV.most.s]
def sB (a:List fc):List F:=a.flatMap mP
def TM(a:fc):I (mP a)=8:=rfl
def ud (a:Bd×F):List F:=[n9 a.1.rows,a.2]
def xN (a:List (Bd×F)):List F:=a.flatMap ud
def IQ(a:Bd×F):I (ud a)=2:=rfl
structure o6(w:ag)(bse9:Nat)(v:F)(L:List (Bd×F)):Prop where
 own:aT w bse9 139 2 v (I L) (xN L)
 each:∀p∈L,aT w bse9 143 8 p.2 (I p.1.chunks) (sB p.1.chunks)
def gw (b:Int)(a:ia):List Nat:=if a.there then[1]++(cZ b a.least++cZ b a.most) else[0]
def xL (b:List bF)(c:List Int)(a:Nat):List Nat:=bc (aX b a ⟨⟨#[]⟩,0⟩).name.size++(bytesOf (aX b a ⟨⟨#[]⟩,0⟩).name++[byteOf (aX b a ⟨⟨#[]⟩,0⟩).kind,byteOf (aX c a 0)])
def ng (a:List bF)(b:List Int)(c:Nat):List Nat:=(eH c).flatMap (xL a b)
def II{a:List bF}:ng a qY (n+1)=ng a qY n++xL a qY n:=by
 unfold ng;rw[List.range_succ,oI,pF]
def x9 (c:List bF)(b:List fc)(a:Nat):List Nat:=bc (aX b a ⟨⟨#[]⟩,hY⟩).text.size++gw (aX c a ⟨⟨#[]⟩,0⟩).kind (aX b a ⟨⟨#[]⟩,hY⟩).bV
def ul (a:List bF)(b:List fc)(c:Nat):List Nat:=(eH c).flatMap (x9 a b)
def Vx{a:List bF}{b:List fc}:ul a b (n+1)=ul a b n++x9 a b n:=by
 unfold ul;rw[List.range_succ,oI,pF]
def jZ (b:List bF)(a:Bd):List Nat:=bc a.rows++ul b a.chunks (I a.chunks)
def oe (b:List bF)(a:List Bd):List Nat:=a.flatMap (jZ b)
def iS (a:Nat):List Nat:=[a%256,a/256%256,a/65536%256,a/16777216%256]
def fy (b:List fc):List Nat:=b.flatMap λa=>bytesOf a.text
def G6(b:List fc)(a:fc):fy (b++[a])=fy b++bytesOf a.text:=by
 unfold fy;rw[oI,pF]
def fi (b:List Bd):List Nat:=b.flatMap λa=>fy a.chunks
def Eg(b:List Bd)(a:Bd):fi (b++[a])=fi b++fy a.chunks:=by
 unfold fi;rw[oI,pF]
def nl:List Nat:=[83,84,82,65]
def dA.k4{o:cj}(d:jj (w.alloc o) u (bB v))(c:bB v=K m\/m=(w.alloc o).heap.size):dA w u v (aI m n cap):=by
 refine((dA.refl w v).alloc o).trans ⟨d,λe b=>?_⟩;simp[bB] at b;subst b;rcases c with a|a;exact aq a;exact an aa
def gG(c:aT w n Qc m v k S):∃b a,v=ah b k a:=by
 rcases c.2 with⟨rfl,rfl⟩|⟨e,a,d,rfl,-⟩;exact⟨Z,0,rfl⟩;exact⟨_,a,rfl⟩
def FD(c:aT w n Qc m v k S)(b:bB v=K i):∃a,w.heap[i]? =K (ax a Qc (0,0)):=by
 rcases c.2 with⟨rfl,-⟩|⟨f,e,a,rfl,-,d,-⟩;simp[bB] at b;simp[bB] at b;subst b;exact⟨a,d⟩
def ew(b:aT w n Qc m v k S)(c:w.heap[i]? =K (ax C Qd (0,0)))(e:Qd≠Qc):K i≠bB v:=by
 intro d;have⟨f,a⟩:=FD b (bA d);rw[c] at a;simp at a;exact e a.2
def l7(c:aT w n Qc k v j S)(d:aT w m Qd i x a J)(f:Qc≠Qd):Apart v x:=by
 cases b:bB v with
 |none=>exact aq b
 |some h=>
  right
  rw[b];have⟨g,e⟩:=FD c b;exact ew d e f
def R7(e:ag)(d:fc):∀(a:Nat) (c:F),(mP d)[a]? =K c->aA (cD e (ax (cX (mP d)) Qc)) ((⟨U e.heap,0,Z⟩:aN).add a)=K c:=by
 intro a c b;have f:a<8:=by
  have:=(fq.1 b).1;simpa [mP] using this
 have:a=0\/a=1\/a=2\/a=3\/a=4\/a=5\/a=6\/a=7:=aa;rcases this with rfl|rfl|rfl|rfl|rfl|rfl|rfl|rfl<;>(simp[mP] at b;subst b;simp[o9,mP])
def R8{c:fc}:∀b∈mP c,nM b=af:=by
 intro b a;simp[mP] at a;rcases a with rfl|rfl|rfl|rfl|rfl|rfl|rfl|rfl<;>rfl
def aE.Tv:((aM av).info? 143).map (λa=>(jL a,a.size,ji a))=K (K (cw #[au ⟨#[]⟩,ak ai,ak ai,z9 0,au ⟨#[]⟩,ak ai,z9 0,au ⟨#[]⟩]),8,88):=bl
end Ec
namespace Un
open Go.RowKit
section
variable {P:aW}{J:Array cq}{Q:Exit->bK->ag->Prop}{R:Region.Mode}{S:ag->Prop}{u:Nat}
def Any (P:aW)(R:Region.Mode)(J:Array cq)(Q:Exit->bK->ag->Prop)(S:ag->Prop)(u:Nat):Nat->Array Bool->bK->ag->Prop
 |0,listed,a,b=>gd R J listed=[]/\Q e4 a b
 |n+1,listed,a,b=>(gd R J listed=[]->Q e4 a b)/\
  ∀c∈gd R J listed,wpOp P J Q c (λe d=>(ek (cF listed c af) u af=ai->S d)/\Any P R J Q S u n (cF listed c af) e d) a b
theorem HZ:∀(n:Nat) (listed:Array Bool) (b:bK) (c:ag),Any P R J Q S u n listed b c->wpAny P R J Q n listed b c
 |0,_,_,_,a=>a
 |n+1,_,_,_,a=>⟨a.1,λf e=>wpOp_mono (λd g h=>HZ n _ d g h.2) (a.2 f e)⟩
def waits(R:Region.Mode)(J:Array cq)(u b:Nat):Bool:=
 match J[u]? with
 |some c=>c.after.any λa=>iN R a&&a.on==b
 |none=>ai
def Fi{listed:Array Bool}(d:waits R J u n=af)(e:ek listed n af=ai):u∉gd R J listed:=by
 intro j;obtain⟨-,k,i,g⟩:=mem_ready.1 j;unfold waits at d;rw[i] at d;have⟨f,h,c⟩:=Array.any_eq_true'.1 d;simp only[ez,beq_iff_eq] at c;have a:=g f h c.1;rw[c.2] at a;rcases ij n (U listed) with b|b;simp[b] at e a;rw[e] at a;cases a;simp[o5 b] at a
def first(w:J[n]? =K Qr)(D:∀(a:Nat) (I:cq) k j,J[a]? =K I->I.op≠.select k j)(am:waits R J u n=af)(ad:u≠n)
 (O:∀z c e,Q (iL z) (bG c Qr.dst v) e->Q (iL z) c e):
 ∀(o:Nat) (listed:Array Bool) (c:bK) (e:ag),
  (∀a g,J[a]? =K g->a≠n->ek listed a af=ai->(∀b∈ri g,iN R b=af->b.on≠n)->Qr.apart J g=af)->
  n∈gd R J listed->ek listed u af=ai->YieldsIf P J S Qr v c->S e->
  Any P R J Q S u o (cF listed n af) (bG c Qr.dst v) e->Any P R J Q S u (o+1) listed c e:=by
 intro o
 induction o with
 |zero=>
  intro listed c e _ y E r l i;refine⟨λM=>bh,λa m=>?_⟩;by_cases d:a=n;subst d;exact r.wpOp w l ⟨λ_=>l,i⟩;have:=ready_mono m d;rw[i.1] at this;cases this
 |succ o ao=>
  intro listed c e A y E r l i;refine⟨λM=>bh,λa m=>?_⟩;by_cases d:a=n;subst d;exact r.wpOp w l ⟨λ_=>l,i⟩;have t:=(mem_ready.1 y).1;have Z:a≠u:=λb=>Fi am t (b▸m);have f:=i.2 a (ready_mono m d);have⟨C,g,x,T⟩:=mem_ready.1 m;have aj:∀b∈ri g,iN R b=af->b.on≠n:=λb W V X=>by
   have f:=T b W V;rw[X] at f;rcases ij n (U listed) with s|s;simp[s] at t f;rw[t] at f;cases f;simp[o5 s] at f
  have N:=wpOp_putIf x (A a g x d C aj) (λk j=>D n Qr k j w) (λk j=>D a g k j x) O r f;have Y:∀h p,J[h]? =K p->h≠n->ek (cF listed a af) h af=ai->
   (∀b∈ri p,iN R b=af->b.on≠n)->Qr.apart J p=af:=λh p aa ab H ae=>by
   refine A h p aa ab ?_ ae;by_cases B:a=h;subst B;exact C;rw[getD_set_ne af B] at H;exact H
  have al:ek (cF listed a af) u af=ai:=k8;have G:ek (cF (cF listed n af) a af) u af=ai:=by rw[getD_set_ne af Z,getD_set_ne af ad.symm];exact E
  refine wpOp_mono (λL ap q=>⟨λ_=>q.2.1 G,ao (cF listed a af) L ap Y (ready_mono y (Ne.symm d)) al q.1 (q.2.1 G) ?_⟩) N;rw[Array.setIfInBounds_comm _ _ d];exact q.2.2
def Sd(t:J[n]? =K Qr)(G:∀(a:Nat) (L:cq) l k,J[a]? =K L->L.op≠.select l k)(w:u≠n)
 (O:∀A e f,Q (iL A) (bG e Qr.dst v) f->Q (iL A) e f):
 ∀(m:Nat) (listed:Array Bool) (e:bK) (f:ag),
  (∀a h,J[a]? =K h->a≠n->ek listed a af=ai->(∀c∈ri h,iN R c=af->c.on≠n)->Qr.apart J h=af)->
  n∈gd R J listed->(ek listed u af=ai->S f)->YieldsIf P J (λ_=>True) Qr v e->
  Any P R J Q S u m (cF listed n af) (bG e Qr.dst v) f->Any P R J Q S u (m+1) listed e f:=by
 intro m
 induction m with
 |zero=>
  intro listed e f _ y z r j;refine⟨λb=>bh,λa q=>?_⟩;by_cases d:a=n;subst d;exact r.wpOp t trivial ⟨λb=>z (by rw[getD_set_ne af w.symm] at b;exact b),j⟩;have:=ready_mono q d;rw[j.1] at this;cases this
 |succ m ae=>
  intro listed e f C y z r j;refine⟨λb=>bh,λa q=>?_⟩;by_cases d:a=n;subst d;exact r.wpOp t trivial ⟨λb=>z (by rw[getD_set_ne af w.symm] at b;exact b),j⟩;have B:=(mem_ready.1 y).1;have g:=j.2 a (ready_mono q d);have⟨E,h,x,T⟩:=mem_ready.1 q;have ad:∀c∈ri h,iN R c=af->c.on≠n:=λc W V X=>by
   have g:=T c W V;rw[X] at g;rcases ij n (U listed) with s|s;simp[s] at B g;rw[B] at g;cases g;simp[o5 s] at g
  have N:=wpOp_putIf x (C a h x d E ad) (λl k=>G n Qr l k t) (λl k=>G a h l k x) O r g;have Y:∀i o,J[i]? =K o->i≠n->ek (cF listed a af) i af=ai->
   (∀c∈ri o,iN R c=af->c.on≠n)->Qr.apart J o=af:=λi o Z aa I ab=>by
   refine C i o Z aa ?_ ab;by_cases D:a=i;subst D;exact E;rw[getD_set_ne af D] at I;exact I
  have H:ek (cF (cF listed n af) a af) u af=ek (cF listed a af) u af:=by
   rw[Array.setIfInBounds_comm _ _ (Ne.symm d),getD_set_ne af w.symm]
  refine wpOp_mono (λM aj p=>⟨λb=>p.2.1 (aB H b),ae (cF listed a af) M aj Y (ready_mono y (Ne.symm d)) (λb=>p.2.1 (aB H b)) p.1 ?_⟩) N;rw[Array.setIfInBounds_comm _ _ d];exact p.2.2
def take{listed:Array Bool}(b:J[i]? =K Qr)
 (j:Region.noSelect J=af) (f:Region.free R J listed i=af) (h:iP (gd R J listed) i=af) (l:waits R J u i=af) (g:(u==i)=ai) (k:ek listed u af=ai)
 (d:∀a qS w,Q (iL a) (bG qS Qr.dst v) w->Q (iL a) qS w) (hy:YieldsIf P J S Qr v qS) (e:S w)
 (c:Any P R J Q S u n (cF listed i af) (bG qS Qr.dst v) w):Any P R J Q S u (n+1) listed qS w:=
 first b (Region.noSelect_spec j) l (cM g) d n listed qS w (Region.free_spec b f) (cM h) k hy e c
def pick{listed:Array Bool}(b:J[n]? =K Qr)
 (g:Region.noSelect J=af) (f:Region.free R J listed n=af) (i:iP (gd R J listed) n=af) (h:(u==n)=ai)
 (d:∀a qS w,Q (iL a) (bG qS Qr.dst v) w->Q (iL a) qS w) (hy:YieldsIf P J (λ_=>True) Qr v qS) (e:S w)
 (c:Any P R J Q S u m (cF listed n af) (bG qS Qr.dst v) w):Any P R J Q S u (m+1) listed qS w:=
 Sd b (Region.noSelect_spec g) bh d m listed qS w (Region.free_spec b f) bh (λ_=>e) hy c
def one{listed:Array Bool}(k:gd R J listed=[i])(j:J[i]? =K Qr)
 (e:∀a:bK->ag->Prop,X (∀c b,(ek (cF listed i af) u af=ai->S b)->Any P R J Q S u n (cF listed i af) c b->a c b)->if eF Qr (eg J qS.tmps)=af then Oper.wp P Qr qS w a Q else a (bG qS Qr.dst cI) w):
 Any P R J Q S u (n+1) listed qS w:=by
 refine⟨λl=>bh,λm d=>?_⟩;rw[k] at d;simp at d;subst d;exact wpOp_step j λa h=>e a (λc b f g=>h c b ⟨f,g⟩)
def pair{listed:Array Bool}(o:gd R J listed=[i,j])(l:J[i]? =K Qr)(m:J[j]? =K Qs)
 (h:∀a:bK->ag->Prop,X (∀c b,(ek (cF listed i af) u af=ai->S b)->Any P R J Q S u n (cF listed i af) c b->a c b)->if eF Qr (eg J qS.tmps)=af then Oper.wp P Qr qS w a Q else a (bG qS Qr.dst cI) w)
 (k:∀a:bK->ag->Prop,X (∀c b,(ek (cF listed j af) u af=ai->S b)->Any P R J Q S u n (cF listed j af) c b->a c b)->if eF Qs (eg J qS.tmps)=af then Oper.wp P Qs qS w a Q else a (bG qS Qs.dst cI) w):
 Any P R J Q S u (n+1) listed qS w:=by
 refine⟨λp=>bh,λq g=>?_⟩;rw[o] at g;simp at g;rcases g with rfl|rfl;exact wpOp_step l λa f=>h a (λc b d e=>f c b ⟨d,e⟩);exact wpOp_step m λa f=>k a (λc b d e=>f c b ⟨d,e⟩)
theorem done{listed:Array Bool}(b:gd R J listed=[])(a:Q e4 qS w):∀c,Any P R J Q S u c listed qS w
 |0=>⟨b,a⟩
 |_+1=>⟨λ_=>a,by rw[b];simp⟩
def OX{id:Nat}(S:ag->Prop)(u:Nat)(b:P.follows n4=af)
 (a:Any P ed J Q S u (U J) (jh (U J) ai) qS w.drew):(gu id J af).wp P Q qS w:=
 wp_region_any b (HZ _ _ _ _ a)
def Ht (R:Region.Mode)(J:Array cq)(L:List Nat)(b:Nat):Bool:=dM L λa=>waits R J a b||L.any λc=>waits R J a c
def Sy(z:J[n]? =K Qr)(N:∀(a:Nat) (V:cq) o m,J[a]? =K V->V.op≠.select o m)(aE:Ht R J l n=af)(A:u∈l)(ay:n∉l)
 (ab:∀G c f,Q (iL G) (bG c Qr.dst v) f->Q (iL G) c f):
 ∀(q:Nat) (listed:Array Bool) (c:bK) (f:ag),
  (∀a i,J[a]? =K i->a≠n->ek listed a af=ai->(∀b∈ri i,iN R b=af->b.on≠n)->Qr.apart J i=af)->
  n∈gd R J listed->(∀g∈l,ek listed g af=ai)->YieldsIf P J S Qr v c->S f->
  Any P R J Q S u q (cF listed n af) (bG c Qr.dst v) f->Any P R J Q S u (q+1) listed c f:=by
 intro q
 induction q with
 |zero=>
  intro listed c f _ D E t p k;refine⟨λX=>bh,λa j=>?_⟩;by_cases d:a=n;subst d;exact t.wpOp z p ⟨λ_=>p,k⟩;have:=ready_mono j d;rw[k.1] at this;cases this
 |succ q aF=>
  intro listed c f H D E t p k;refine⟨λX=>bh,λa j=>?_⟩;by_cases d:a=n;subst d;exact t.wpOp z p ⟨λ_=>p,k⟩;have x:=(mem_ready.1 D).1;have ao:a∉l:=λap=>by
   have Z:=fD.1 aE a ap;rcases Bool.or_eq_true_iff.1 Z with y|y;exact Fi y x j;have⟨e,B,aa⟩:=xk.1 y;exact Fi aa (E e B) j
  have ar:∀g∈l,a≠g:=λg I b=>ao (b▸I);have h:=k.2 a (ready_mono j d);have⟨M,i,C,ad⟩:=mem_ready.1 j;have aC:∀b∈ri i,iN R b=af->b.on≠n:=λb aj ae al=>by
   have h:=ad b aj ae;rw[al] at h;rcases ij n (U listed) with w|w;simp[w] at x h;rw[x] at h;cases h;simp[o5 w] at h
  have Y:=wpOp_putIf C (H a i C d M aC) (λo m=>N n Qr o m z) (λo m=>N a i o m C) ab t h;have am:∀e r,J[e]? =K r->e≠n->ek (cF listed a af) e af=ai->
   (∀b∈ri r,iN R b=af->b.on≠n)->Qr.apart J r=af:=λe r B aw T az=>by
   refine H e r B aw ?_ az;by_cases L:a=e;subst L;exact M;rw[getD_set_ne af L] at T;exact T
  have aD:∀g∈l,ek (cF listed a af) g af=ai:=λg I=>k8;have O:ek (cF (cF listed n af) a af) u af=ai:=by rw[getD_set_ne af (ar u A),getD_set_ne af (show n≠u from λb=>ay (b▸A))];exact E u A
  refine wpOp_mono (λW aG s=>⟨λ_=>s.2.1 O,aF (cF listed a af) W aG am (ready_mono D (Ne.symm d)) aD s.1 (s.2.1 O) ?_⟩) Y;rw[Array.setIfInBounds_comm _ _ d];exact s.2.2
def iu{listed:Array Bool}(c:J[n]? =K Qr)
 (h:Region.noSelect J=af) (g:Region.free R J listed n=af) (p:iP (gd R J listed) n=af) (i:Ht R J l n=af) (k:iP l u=af) (o:iP l n=ai) (q:(dM l λb=>ek listed b af==ai)=af)
 (e:∀a qS w,Q (iL a) (bG qS Qr.dst v) w->Q (iL a) qS w) (hy:YieldsIf P J S Qr v qS) (f:S w)
 (d:Any P R J Q S u m (cF listed n af) (bG qS Qr.dst v) w):Any P R J Q S u (m+1) listed qS w:=
 Sy c (Region.noSelect_spec h) i bh bh e m listed qS w (Region.free_spec c g) bh (λb j=>bh) hy f d
def fE (R:Region.Mode)(J:Array cq)(u:Nat)(listed:Array Bool)(a:Nat)(c:Array F)(d:Bool):Bool:=
 Region.noSelect J&&Region.free R J listed a&&iP (gd R J listed) a && !(u==a)&&match J[a]? with
  |some b=>eF b (eg J c)==d
  |none=>ai
def Eo{listed:Array Bool}(b:J[n]? =K Qr)(a:fE R J u listed n C qV=af):Region.noSelect J=af/\Region.free R J listed n=af/\iP (gd R J listed) n=af/\(u==n)=ai/\eF Qr (eg J C)=qV:=by
 unfold fE at a;rw[b] at a;simp only[ez,Bool.not_eq_true',beq_iff_eq] at a;exact⟨a.1.1.1.1,a.1.1.1.2,a.1.1.2,a.1.2,a.2⟩
def FR(e:X (∀b a (QX:Nat) v c,Q (iL b) (bG a (K QX) v) c->Q (iL b) a c)):∀b a c,Q (iL b) (bG a QX v) c->Q (iL b) a c:=λb a c d=>by
 cases QX with
 |none=>exact d
 |some QX=>exact e.o b a QX v c d
def pk(b:Nat){listed:Array Bool}(f:Any P R J Q S u n (cF listed b af) (bG qS Qr.dst v) w)(c:J[b]? =K Qr:=by rfl)(h:fE R J u listed b qS.tmps af=af:=by kernel_rfl)(d:X (∀a qS (e:Nat) v w,Q (iL a) (bG qS (K e) v) w->Q (iL a) qS w):=by assumption)(g:S w:=by assumption)
 (hy:∀w,(bT (bz qS) Qr).run P w=b6 (eT v) w:=by intro w;go_simp;try with_reducible rfl):Any P R J Q S u (n+1) listed qS w:=
 have a:=Eo c h
 pick c a.1 a.2.1 a.2.2.1 a.2.2.2.1 (FR d) (aq ⟨a.2.2.2.2,λw _=>hy w⟩) g f
def sk{listed:Array Bool}(e:Any P R J Q S u m (cF listed n af) (bG qS Qr.dst cI) w)(b:J[n]? =K Qr:=by rfl)(g:fE R J u listed n qS.tmps ai=af:=by kernel_rfl)(c:X (∀a qS (d:Nat) v w,Q (iL a) (bG qS (K d) v) w->Q (iL a) qS w):=by assumption)(f:S w:=by assumption):Any P R J Q S u (m+1) listed qS w:=
 have a:=Eo b g
 pick b a.1 a.2.1 a.2.2.1 a.2.2.2.1 (FR c) (an ⟨a.2.2.2.2,rfl⟩) f e
def ld(d:List Nat)(c:Nat){listed:Array Bool}(j:Any P R J Q S u n (cF listed c af) (bG qS Qr.dst v) w)(f:J[c]? =K Qr:=by rfl)(b:(fE R J u listed c qS.tmps af&&Ht R J d c&&iP d u && !d.contains c&&dM d λi=>ek listed i af==ai)=af:=by kernel_rfl)(g:X (∀a qS (h:Nat) v w,Q (iL a) (bG qS (K h) v) w->Q (iL a) qS w):=by assumption)(k:S w:=by assumption)
 (hy:∀w,S w->(bT (bz qS) Qr).run P w=b6 (eT v) w:=by intro w e;(try dsimp only at e);(repeat obtain⟨_,e⟩:=e);go_simp;try with_reducible rfl):Any P R J Q S u (n+1) listed qS w:=by
 simp only[ez,Bool.not_eq_true'] at b;have a:=Eo f b.1.1.1.1;exact iu f a.1 a.2.1 a.2.2.1 b.1.1.1.2 b.1.1.2 b.1.2 b.2 (FR g) (aq ⟨a.2.2.2.2,hy⟩) k j
def on(a:Nat){listed:Array Bool}
 (g:∀b:bK->ag->Prop,X (∀d c,(ek (cF listed a af) u af=ai->S c)->Any P R J Q S u n (cF listed a af) d c->b d c)->Oper.wp P Qr qS w b Q) (f:gd R J listed=[a]:=by kernel_rfl) (e:J[a]? =K Qr:=by rfl) (i:eF Qr (eg J qS.tmps)=af:=by kernel_rfl):Any P R J Q S u (n+1) listed qS w:=
 one f e λb h=>by grind
def open_{id:Nat}(S:ag->Prop)(u:Nat)(e:∀a qS (b:Nat) v w,Q (iL a) (bG qS (K b) v) w->Q (iL a) qS w)
 (c:X (∀a qS (b:Nat) v w,Q (iL a) (bG qS (K b) v) w->Q (iL a) qS w)->Any P ed J Q S u (U J) (jh (U J) ai) qS w.drew) (d:P.follows n4=af:=by kernel_rfl):(gu id J af).wp P Q qS w:=OX S u d (c e)
end
end Un
namespace Ec
open Go.RowKit Pk Pm
def o6.below{a:List (Bd×F)}(b:o6 w n v a)(c:aD w u):o6 u n v a:=
 ⟨eM b.own c,λe d=>eM (b.each e d) c⟩
def o6.put{d:List (Bd×F)}(a:o6 w n v d)(e:w.heap[m]? =K (ax C Qc (0,0)))(h:Qc≠139)(i:Qc≠143)(b:Nat)(c:F):o6 (bg w ⟨m,b,Z⟩ c) n v d:=
 ⟨fK a.own (eJ w m b c) (an (ew a.own e h).symm),λg f=>fK (a.each g f) (eJ w m b c) (an (ew (a.each g f) e i).symm)⟩
def o6.snoc{c:List (Bd×F)}(d:o6 w n v c)(j:dA w u v x){b:Bd}(k:aT w n 143 8 y (I b.chunks) (sB b.chunks))
 (l:aT u n 139 2 x (I (c++[(b,y)])) (xN (c++[(b,y)]))):o6 u n x (c++[(b,y)]):=by
 refine⟨l,λm a=>?_⟩;have f:∀{h:F} {g:Nat} {i:List F},aT w n 143 8 h g i->aT u n 143 8 h g i:=λe=>
  ju e j (l7 e d.own ay)
 rcases eG.1 a with a|a;exact f (d.each m a);simp at a;subst a;exact f k
def aaq(a:ag){b:Bd}:∀(c:Nat) (d:F),(ud (b,v))[c]? =K d->aA (cD a (ax (cX (ud (b,v))) Qc)) ((⟨U a.heap,0,Z⟩:aN).add c)=K d:=
 World.news_of_block (jY a _)
def aE.Tu:((aM av).info? 139).map (λa=>(jL a,a.size,ji a))=K (K (cw #[z9 0,aH]),2,32):=bl
def sQ(a:Nat):I (bc a)<=10:=by unfold bc;exact sP 10 a
def Pa(b:Int)(a:ia)(c:bf a.least.s<=32)(d:bf a.most.s<=32):I (gw b a)<=85:=by
 have e:=ya b a.least c;have f:=ya b a.most d;unfold gw
 split
 .simp only[cN,pI,yZ];omega
 .simp
def ER{d:Type}(f:d->List Nat)(m:Nat)(a:List d)(c:∀b∈a,I (f b)<=m):I (a.flatMap f)<=I a*m:=by
 induction a with
 |nil=>simp
 |cons b k g=>
  rw[lD,cN,pI,Nat.succ_mul];have i:=c b (by simp);have j:=g (λh e=>c h (by simp[e]));omega
def Rb{a:List bF}(d:∀c∈a,bf c.name<=16)(b:n<I a):I (xL a qY n)<=28:=by
 have e:=sQ (aX a n ⟨⟨#[]⟩,0⟩).name.size;have f:=d _ (by rw[ep,dH b];exact c8 b:aX a n ⟨⟨#[]⟩,0⟩∈a);unfold xL;rw[cN,cN,cJ];simp only[pI,yZ];omega
def IG{a:List bF}{es:List Int}(d:∀c∈a,bf c.name<=16)(b:Nat)(f:b<=I a):I (ng a es b)<=b*28:=by
 have:=ER (xL a es) 28 (eH b) (λg e=>Rb d (by grind));simpa [ng] using this
def wU(a:w.heap[n]? =K (ax #[v,x] Qc (0,0))):aA w ⟨n,0,Z⟩=K v/\aA w ⟨n,1,Z⟩=K x:=by
 refine⟨?_,?_⟩<;>simp[aA,a]
def Ni(a:ag):∀(b:Nat) (c:F),[v,x][b]? =K c->aA (cD a (ax #[v,x] Qc)) ((⟨U a.heap,0,Z⟩:aN).add b)=K c:=
 World.news_of_block (jY a _)
def aaK(a:Nat):0<I (bc a):=by
 unfold bc jR
 split<;>simp
def PT(a:fE 0 (l.take n)=Z):fE 0 l=Z:=by rw[Er l n,a];rfl
def PS(b:fE 0 (l.take n)=K m)(c:k<m):fE 0 l≠K k:=by
 rw[Er l n,b];intro a;have:=Ep (show fE m (l.drop n)=K k from a);omega
def PR(s:ByteArray)(j o e:Nat)(a:List Nat)(S:e<=100)(R:I a<=100)(U:∀d∈a,d<65536)(G:iC w v (k3 a))(r:w.heap[j]? =K (bR s o)):
 bn 178 #[(aZ j),v,z9 e] w λi p=>p=w/\((i=aR (cC #[])/\fE 0 a=K e)\/(∃d,i=gO (g3 d)/\fE 0 a≠K e)):=by
 obtain⟨L,A,H,M,rfl,t,B,u⟩:=G;have x:I (k3 a)=I a:=by simp[k3]
 rw[x] at t B ⊢;have z:X (∀h,(C:h<I a)->aJ w A (H+h) (n9 (a[h]))):=λh C=>by
  have:=u h aa;rw[lM aa] at this;simpa [k3] using this
 clear u x;go_enter aE.func178,Tryz.ntmps178;go_wp2_with fail
 go_loopw [6,11] (λJ n wr=>∃c b:Nat,c<=I a/\n=n9 c/\J=n9 b/\b<=e/\fE 0 (a.take c)=K b/\wr=w) (λ_ n _=>I a-bS (bw n))
 exact⟨0,0,cE _,rfl,rfl,cE _,rfl,rfl⟩;obtain⟨c,b,Q,rfl,rfl,E,g,rfl⟩:=hrel;have q:=ap g;by_cases y:c<I a
 .obtain rfl:=t aa;have P:=z.o c y;have m:X (fE 0 (a.take (c+1))=if a[c]<b then K b else if a[c]=b then K (b+1) else Z):=PU y q.o;generalize a[c]=d at*;by_cases O:b<d\/e<=d
  .have k:X (fE 0 a≠K e):=by
    by_cases N:b<d;have f:=m.o;rw[if_neg aa,if_neg aa] at f;show _≠_;rw[PT f];simp;have f:=m.o;rw[if_neg aa,if_pos aa] at f;exact PS f aa
   go_wp2_with (go_at_call 97;refine bL (lN j o s _ r) ?_;rintro i p ⟨rfl,rfl⟩)
   all_goals exact⟨rfl,rfl,an ⟨_,rfl,k.o⟩⟩
  by_cases D:d=b;subst D;have l:X (fE 0 (a.take (c+1))=K (d+1)):=bh;go_wp2
  go_roundw
  exact⟨c+1,d+1,aa,by go_num,by go_num,aa,l.o,by trivial⟩;simp[bw];omega;have l:X (fE 0 (a.take (c+1))=K b):=by
   have f:=m.o;rw[if_pos aa] at f;exact f
  have T:((d:Int)==(b:Int))=ai:=bO;go_wp2
  go_roundw
  exact⟨c+1,b,aa,by go_num,rfl,E,l.o,by trivial⟩;simp[bw];omega
 obtain rfl:c=I a:=aa;have g:=q.o;rw[iZ] at g;by_cases V:b<e;have k:X (fE 0 a≠K e):=by
  show _≠_;rw[g];simp;omega
 go_wp2_with (go_at_call 97;refine bL (lN j o s _ r) ?_;rintro i p ⟨rfl,rfl⟩);exact⟨rfl,rfl,an ⟨_,rfl,k.o⟩⟩;obtain rfl:b=e:=aa;go_wp2;go_end0;exact⟨rfl,aq ⟨rfl,g⟩⟩
def zB{s:ByteArray}{b:List az}(q:m<=100)(hL:I b=m)(l:∀c∈b,VK M c)(d:aQ (bytesOf s) n (gi M b)):
 ∃(a:List az) (e:List Nat),I a<=m/\(∀c∈a,VK M c)/\a.Nodup/\I e=m/\fE 0 e=K (I a)/\aQ (bytesOf s) n (bc (I a))/\aQ (bytesOf s) (n+I (bc (I a))) (dJ M a)/\
  aQ (bytesOf s) (n+I (bc (I a))+I (dJ M a)) (iH (wid (I a)) e):=by
 have⟨g,h,p⟩:=EB b ⟨ai,0,⟨#[]⟩⟩;have⟨i,j,k,f⟩:=wi b (I b) (aV _);rw[iZ] at i j k f;unfold gi at d;rw[dn,dn] at d;exact⟨(dfold b).1,(dfold b).2,aa,λc o=>l c (f c o),g,aa,h,d.1,d.2.1,d.2.2⟩
def Xc(d:Int)(aJ:d=1\/d=2\/d=3)(s:ByteArray)(h f j:Nat)(aY:s.size<=aS)(G:j<=100)(bo:f<=s.size)(aw:w.heap[h]? =K (bR s f)):
 bn 176 #[(aZ h),z9 d,z9 j] w λk C=>Kp h w C/\
  ((∃(a:List az) (v:F),k=aR v/\I a<=j/\(∀e∈a,VK d e)/\a.Nodup/\aQ (bytesOf s) f (bc (I a))/\aQ (bytesOf s) (f+I (bc (I a))) (dJ d a)/\
    (∀D:List az,I D=I a->(∀e∈D,VK d e)->aQ (bytesOf s) (f+I (bc (I a))) (dJ d D)->D=a)/\f+I (bc (I a))+I (dJ d a)<=s.size/\
    C.heap[h]? =K (bR s (f+I (bc (I a))+I (dJ d a)))/\aT C (U w.heap) 59 3 v (I a) (bZ a))\/
   (∃B,k=gO (g3 B)/\∀c:List az,I c=j->(∀e∈c,VK d e)->¬aQ (bytesOf s) f (gi d c))):=by
 have b2:=bC aw;have b0:= @run_makeMap (aM av)
 skip
 go_enter aE.func176,Tryz.ntmps176;go_wp2_with fail;refine bL (wv h f s aY bo aw) ?_;rintro k cc ⟨T,⟨g,rfl,W,J,bj,aC⟩|⟨B,rfl,Z⟩⟩;have M:=ap T;have a2:=T.size;by_cases bJ:j<g;have m:X (∀c:List az,I c=j->(∀e∈c,VK d e)->¬aQ (bytesOf s) f (gi d c)):=by
  intro c p q r;have⟨a,ab,P,z,E,Q,R,n,o,S⟩:=zB G p q r;have:=jS aa (cB W) n J;omega
 go_wp2_with (go_at_call 97;refine bL (lN h _ s _ aC) ?_;rintro k C ⟨rfl,rfl⟩);exact⟨rfl,M.o,an ⟨_,rfl,m.o⟩⟩
 .go_wp2_with fail;refine bL (Lh d aJ s h (f+I (bc g)) g aY (by omega) bj aC) ?_;rintro k i ⟨ay,⟨a,v,rfl,be,aI,br,a3,bk,aG,a0⟩|⟨B,rfl,Z⟩⟩
  .subst be;have y:=ap (M.o.trans ay);have a5:=ap (j6 a0 a2);obtain⟨bx,bD,b4,bE,rfl,x⟩:=jr.gC a0;have a7:=ap x;have u:=World.ownsMap_made i (aM av) 59 (plainElem (H:=Unit) (aM av) 3);have b3:=y.o.size;go_wp2_with fail
   go_loopw [28] (λL wr=>∃(b g:Nat) (D:DataW Unit),b<=I a/\g<=b/\L=n9 b/\(a.take b).Nodup/\wr.ownsMap (aM av) 59 (plainElem (H:=Unit) (aM av) 3) (U i.heap) g D/\Knows D (a.take b)/\aD i wr) (λL _=>I a-bS (bw L))
   exact⟨0,0,.map [],cE _,aV _,rfl,aF,u,cM Knows.empty,(bU _ _).alloc (aV _) _⟩;obtain⟨b,g,D,bV,b1,rfl,H,u,aL,l⟩:=hrel;have a1:U i.heap<=U wr.heap:=l.size;have a2:U i.heap+1<=U wr.heap:=cB u.lt;have ae:X (a.take b).Nodup:=H;by_cases t:b<I a;have x:=a7.o.below l;obtain rfl:=x.addr (by omega);have b7:=x.c0 b t;have ca:=x.c1 b t;have cb:=x.c2 b t;have O:X (jb a[b]):=(aI _ (c8 t)).ok aJ;have V:=E5 a[b] O.o;have ad:=aL.has a[b] O.o;have aj:X (I (a.take b)=b):=bh;have al:=ap (gh t);by_cases A:idx (a.take b) a[b]<I (a.take b)
   .have m:X (∀c:List az,I c=j->(∀e∈c,VK d e)->¬aQ (bytesOf s) f (gi d c)):=by
     intro c p q r;have⟨a8,ab,P,z,E,Q,R,n,o,S⟩:=zB G p q r;have ao:=jS aa (by have:=W;omega) n J;rw[ao] at o;have a9:=a3 a8 ao z o;subst a9;have bl:=(AT).1 A;have⟨L,bP,ar⟩:=m6 bl;rw[rz] at ar;have bH:=aj.o;have:=Fg E aa t ar;omega
    rw[decide_eq_true A] at ad;generalize a[b]=e at*;go_wp2_with (first
     |(at_lookup;refine wpList_lookup_own_ok_int _ Y _ _ 229 Y 59 3 bM Co aE.underlying229 aE.underlying3 NK (U i.heap) g D Y (u.alloc _) _ _ Y V ?_;intro am bb bs)
     |(go_at_call 97;refine bL (lN h _ s _ (by rw[e6 _ _ h (by omega),cS l h (by omega)];exact aG)) ?_;rintro k C ⟨rfl,rfl⟩))
    exact⟨rfl,y.o.trans (Kp.iT (l.alloc a1 _)),an ⟨_,rfl,m.o⟩⟩
   rw[decide_eq_false A] at ad;have N:X (a.take (b+1)).Nodup:=by
    show List.Nodup _;rw[al.o,List.nodup_append];refine⟨ae.o,by simp,?_⟩;intro bv ba am aH k;simp at aH;subst aH;subst k;exact A ((AT).2 ba)
   have a6:X (Knows (D.put (kl a[b]) (.lit (.int bM (b:Int)))) (a.take (b+1))):=by
    have:=aL.put a[b] O.o A;rw[aj.o] at this;show Knows _ _;rw[al.o];exact this
   have bY:K (U wr.heap)≠K (U i.heap):=bO;have bI:∀a4:cj,(wr.alloc a4).heap.size=U wr.heap+1:=λa4=>aF;generalize a[b]=e at*;go_wp2_with (first
    |(at_lookup;refine wpList_lookup_own_ok_int _ Y _ _ 229 Y 59 3 bM Co aE.underlying229 aE.underlying3 NK (U i.heap) g D Y (u.alloc _) _ _ Y V ?_;intro am bb bs)
    |(at_mapUpdate;refine wpList_mapUpdate_own _ Y _ _ _ 229 Y 59 3 Co aE.underlying229 _ (U i.heap) g D Y (u.alloc _) ?_ _ _ _ Y Y V _ [] (plainElem_int aE.underlying3 (wf_i64 (by omega) (by omega))) ?_;(unfold aS;omega);intro bu bm bi))
   have bd:aD i bu:=iB (l.alloc a1 _) bi bh (λbF bN=>bh);refine⟨⟨b+1,g+1,_,aa,aa,aF,N.o,bm,a6.o,bd⟩,by simp[bw];omega⟩;obtain rfl:b=I a:=aa;have H:=ae.o;rw[iZ] at H;have N:X a.Nodup:=H;go_wp2;go_ret;exact⟨y.o.trans (Kp.iT l),aq ⟨a,_,rfl,aa,aI,N.o,J,br,a3,bk,b5 (cS l h (by omega)) aG,eM a5.o l⟩⟩
  have m:X (∀c:List az,I c=j->(∀e∈c,VK d e)->¬aQ (bytesOf s) f (gi d c)):=by
   intro c p q r;have⟨a,ab,P,z,E,Q,R,n,o,S⟩:=zB G p q r;have:=jS (by omega) (cB W) n J;rw[this] at o;exact Z a this z o
  have y:=ap (M.o.trans ay);go_wp2;exact⟨rfl,y.o,an ⟨B,rfl,m.o⟩⟩
 have m:X (∀c:List az,I c=j->(∀e∈c,VK d e)->¬aQ (bytesOf s) f (gi d c)):=by
  intro c p q r;have⟨a,ab,P,z,E,Q,R,n,o,S⟩:=zB G p q r;exact Z (I a) aa n
 go_wp2;exact⟨rfl,T,an ⟨B,rfl,m.o⟩⟩
def SH(a:List az){b:az}(c:n<I a):aX a n b=a[n]:=bh
def Xb(a4:M=1\/M=2\/M=3){s:ByteArray}(a5:s.size<=aS)(E:k<=100)(a8:m<=s.size)(aY:w.heap[n]? =K (bR s m)):
 bn 171 #[(aZ n),z9 M,z9 k] w λj r=>Kp n w r/\
  ((∃(i:List az) (v:F),j=aR v/\I i=k/\(∀d∈i,VK M d)/\aQ (bytesOf s) m (gi M i)/\(∀f:List az,I f=k->(∀d∈f,VK M d)->aQ (bytesOf s) m (gi M f)->f=i)/\m+I (gi M i)<=s.size/\
    r.heap[n]? =K (bR s (m+I (gi M i)))/\aT r (U w.heap) 59 3 v (I i) (bZ i))\/
   (∃e,j=gO (g3 e)/\∀f:List az,I f=k->(∀d∈f,VK M d)->¬aQ (bytesOf s) m (gi M f))):=by
 have⟨bi,l,cG,a9,cM⟩:=eU aE.nh;have cs:=bC aY
 skip
 go_enter aE.func171,Tryz.ntmps171;go_wp2_with fail;refine bL (Xc M a4 s n m k a5 E a8 aY) ?_;rintro j bk ⟨a1,⟨c,v,rfl,cf,cd,cl,ao,cu,ar,G,ca,a6⟩|⟨e,rfl,H⟩⟩
 .have aC:=ap a1;have bD:X c.Nodup:=cl;have bE:=ap a6;obtain⟨dd,df,rfl⟩:=tw a6;generalize C:m+I (bc (I c))+I (dJ M c)=g at*;have bN:X (∀w,bn 158 #[n9 (I c)] w λj r=>j=aR (z9 (wid (I c)))/\r=w):=λw=>aaU (I c) aa w;have cB:=Aq (I c);go_wp2_with (go_at_call 158;refine bL (bN.o _) ?_;rintro j r ⟨rfl,O⟩;rw[O]);refine bL (Xg s n g (wid (I c)) k a5 (by omega) E G ca) ?_;rintro j h ⟨ad,⟨rfl,J,a2,cn⟩|⟨e,rfl,H⟩⟩
  .have bH:X (aQ (bytesOf s) g (iH (wid (I c)) (D (wid (I c)) (gV s g) k))):=Vu s g k G J;have bI:X (∀b:List Nat,I b=k->(∀d∈b,d<2^wid (I c))->aQ (bytesOf s) g (iH (wid (I c)) b)->b=D (wid (I c)) (gV s g) k):=by
    intro b B a0 b4;have:=(zS s g _ b G a0 b4).2;rw[B] at this;exact bA this
   have q:I (D (wid (I c)) (gV s g) k)=k:=w8;have cp:∀e∈D (wid (I c)) (gV s g) k,e<65536:=λe u=>by
    have B:=Av e u;have a0:2^wid (I c)<=2^7:=n7 aa cB;omega
   generalize D (wid (I c)) (gV s g) k=b at*;have ci:I (k3 b)=k:=by rw[<-q];simp[k3]
   have R:X (iC h (aI (U bk.heap) k k) (k3 b)):=iC.gC (b5 ci cn);have y:=ap (aC.o.trans ad);have bF:=ap (ad.own bE.o cs);have cx:=y.o.size;generalize b7:g+(k*wid (I c)+7)/8=aH at*;go_wp2_with fail;refine bL (PR s n aH (I c) b (by omega) (by rw[q];omega) cp R.o a2) ?_;rintro j r ⟨O,⟨rfl,L⟩|⟨e,rfl,H⟩⟩
   .rw[O];have bo:X _:=R1 a4 (s:=s) (p:=m) (cn:=k) (n:=I c) (d:=c) (ps:=b) ⟨ai,0,⟨#[]⟩⟩ E cf Y cd bD.o q L ao cu (b5 C bH.o) ar (b5 C G);have bx:X (∀a,(l:a<I b)->b[a]<I c):=λa l=>zx L _ (c8 l);have aG:=ap (jr.gC bF.o);obtain⟨c6,P,Q,c7,bd,ba,bb,ay⟩:=R.o;simp only[lX] at bd;obtain⟨cP,be,cQ⟩:=bd;rw[<-be] at ba bb ay;have bs:X (∀a,(l:a<I b)->aJ h P (Q+a) (n9 (b[a]))):=λa l=>by
     have B:=ay a (by rw[<-q];exact l);rw[lM aa] at B;simpa [k3] using B
    have br:X (0<k->(K (⟨U bk.heap,0,Z⟩:aN))=K ⟨P,Q,Z⟩):=λc3=>bh;obtain⟨c0,c1,c9,c2,bj,cA⟩:=aG.o;simp only[lX] at bj;obtain⟨rfl,_,rfl⟩:=bj;clear ba ay aG R cP be cQ;go_wp2_with (at_make;refine wpList_make_own _ Y _ _ 43 Y (U h.heap) 59 bi _ 3 aE.underlying43 l cG a9 bM bM _ k Y Y Y (jG cM) gy (aV _) ?_;intro cY co cg);have bl:X (aD h cY):=iB (bU _ _) cg (aV _) aF
    go_loopw [9,31] (λcV aw wr=>∃a:Nat,a<=k/\aw=n9 a/\cV=aI (U h.heap) a k/\aT wr (U h.heap) 59 3 (aI (U h.heap) a k) a (bZ ((b.take a).map λe=>aX c e ⟨ai,0,⟨#[]⟩⟩))/\aD h wr) (λ_ aw _=>k-bS (bw aw))
    exact⟨0,cE _,rfl,rfl,by simpa [bZ] using co,bl.o⟩;obtain⟨a,c4,rfl,rfl,al,t⟩:=hrel;have cv:=t.size
    skip
    by_cases ck:a<k
    .have aj:a<I b:=by rw[q];exact ck
     have u:=bx.o a aj;have a3:=br.o aa;have L:aJ wr P (Q+a) (n9 (b[a])):=(bq t (p:=⟨P,Q+a,Z⟩) (bb aa)).trans (bs.o a aj);have N:=cA.below t;obtain rfl:=N.addr aa;have da:=N.c0 b[a] u;have db:=N.c1 b[a] u;have dc:=N.c2 b[a] u;have bJ:X (∀d:az,c[b[a]]=d->bZ ((b.take a).map λe=>aX c e ⟨ai,0,⟨#[]⟩⟩)++[ak d.null,z9 d.n,au d.s]=bZ ((b.take (a+1)).map λe=>aX c e ⟨ai,0,⟨#[]⟩⟩)):=by
      intro d x;rw[gh aj,gY,sg,<-nF,SH c u,x]
     simp only[kU,r3] at a3;have⟨cb,cc,_⟩:=a3;subst cb;subst cc;rw[e7] at L;generalize x:c[b[a]]=d at*;have bP:=bJ.o d Y;generalize b[a]=e at*;go_wp2_with (at_builtin;refine r7 _ Y _ _ 43 Y (U h.heap) 59 bi 3 aE.underlying43 l a9 (U h.heap) a k _ Y (al.alloc _) ⟨U wr.heap,0,Z⟩ 1 1 [ak d.null,z9 d.n,au d.s] Y Y (by exact lR _) (lS d) (by omega) ?_;intro cZ a7 ch);have bm:X (aD h cZ):=iB (t.alloc cv _) ch bO aF;rw[bP] at a7;go_wp2
     go_roundw
     exact⟨a+1,aa,by go_num,rfl,a7,bm.o⟩;simp[bw];omega
    obtain rfl:a=k:=aa;have cy:b.take a=b:=ja (jG q);rw[cy] at al;have⟨aL,bV,bY,aM,b0⟩:=bo.o;have bu:X (m+I (gi M (b.map λe=>aX c e ⟨ai,0,⟨#[]⟩⟩))=aH):=by
     show _=_;rw[bY,cN,cN,wD,q,<-gF,<-gF,C,b7]
    have bv:X (m+I (gi M (b.map λe=>aX c e ⟨ai,0,⟨#[]⟩⟩))<=s.size):=by
     have:=oX aM (by rw[cJ];exact a8);rwa [cJ] at this
    generalize c5:(b.map λe=>aX c e ⟨ai,0,⟨#[]⟩⟩)=i at*;go_wp2;go_ret;exact⟨y.o.trans (Kp.iT t),aq ⟨i,_,rfl,aL,bV,aM,b0,bv.o,by rw[bu.o,cS t n aa];exact a2,b5 aL (j6 al cx)⟩⟩
   have S:X (∀f:List az,I f=k->(∀d∈f,VK M d)->¬aQ (bytesOf s) m (gi M f)):=by
    intro f ae J am;have⟨T,cW,b2,V,b3,W,o,ab,A,p⟩:=zB E ae J am;have z:=jS aa aa ab ao;rw[z] at A p o;rw[(ar T z V A),C] at p;have b1:=bI.o cW W (λd x=>Ap (by omega) d (zx o d x)) p;rw[b1] at o;exact H o
   rw[O];go_wp2;exact⟨rfl,y.o,an ⟨e,rfl,S.o⟩⟩
  have S:X (∀f:List az,I f=k->(∀d∈f,VK M d)->¬aQ (bytesOf s) m (gi M f)):=by
   intro f ae J am;have⟨T,b,b2,V,b3,W,o,ab,A,p⟩:=zB E ae J am;have z:=jS aa aa ab ao;rw[z] at A p o;rw[(ar T z V A),C] at p;have:=(zS s g (wid (I c)) b G (λd x=>Ap (by omega) d (zx o d x)) p).1;rw[W] at this;exact H this
  have y:=ap (aC.o.trans ad);go_wp2;exact⟨rfl,y.o,an ⟨e,rfl,S.o⟩⟩
 skip
 skip
 go_wp2;exact⟨rfl,a1,an ⟨e,rfl,H⟩⟩
def Ig(a:List az)(f:∀b∈a,VK 2 b):(a.map az.n).map rF=a:=by
 rw[List.map_map]
 conv=>rhs;rw[<-List.map_id a]
 apply y4;intro b g;have c:=f b g;have d:=c.there;have e:=(c.s2 Y).2;cases b;simp at d e;simp[rF,d,e]
def Ea:(qY.map rF).map az.n=qY:=by
 rw[List.map_map]
 conv=>rhs;rw[<-List.map_id qY]
 rfl
def O0(a:iU qY):∀c∈qY.map rF,VK 2 c:=by
 intro c e;obtain⟨b,f,rfl⟩:=kA.1 e;have d:=a b f;exact⟨rfl,by show _<=b;omega,by show b<=_;omega,λa=>by omega,λ_=>⟨d,rfl⟩,λa=>by omega⟩
def Hl(b:List az)(c:∀a∈b,VK 2 a):iU (b.map az.n):=by
 intro f e;obtain⟨a,d,rfl⟩:=kA.1 e;exact((c a d).s2 Y).1
def Reads(s:ByteArray)(j d f:Nat)(g:Int)(c:List az->List Nat)(k:ag)(i:gL)(h:ag):Prop:=Kp j k h/\
 ((∃(b:List az) (v:F),i=aR v/\I b=f/\(∀e∈b,VK g e)/\aQ (bytesOf s) d (c b)/\(∀a:List az,I a=f->(∀e∈a,VK g e)->aQ (bytesOf s) d (c a)->a=b)/\d+I (c b)<=s.size/\
   h.heap[j]? =K (bR s (d+I (c b)))/\aT h (U k.heap) 59 3 v (I b) (bZ b))\/
  (∃l,i=gO (g3 l)/\∀a:List az,I a=f->(∀e∈a,VK g e)->¬aQ (bytesOf s) d (c a)))
def Xh(a x:Int)(y:eW a x=af)(s:ByteArray)(h g f:Nat)(q:s.size<=aS)(o:f<=100)(t:g<=s.size)(n:w.heap[h]? =K (bR s g)):
 bn 165 #[(aZ h),z9 a,z9 x,z9 f] w λd U=>Reads s h g f a (jE a x) w d U:=by
 have⟨B,J⟩:=B5 y;have W:=bC n
 skip
 rcases J with rfl|rfl|rfl|rfl
 .have c:∀b,jE a 0 b=dJ a b:=λb=>rfl;have m:X (jE a 0=dJ a):=funext c;go_enter aE.func165,Tryz.ntmps165;go_wp2_with fail;refine bL (Lh a B s h g f q o t n) ?_;intro d l j;have i:X (Reads s h g f a (jE a 0) w d l):=by
   show Reads _ _ _ _ _ _ _ _ _;rw[m.o];exact j
  rcases j with⟨k,⟨b,v,rfl,_⟩|⟨u,rfl,_⟩⟩;go_wp2;go_ret;exact i.o;go_wp2;exact⟨rfl,i.o⟩
 .have z:a=1:=by simp[eW] at y;omega
  subst z;have c:∀b,jE 1 1 b=fw 0 b:=λb=>rfl;have m:X (jE 1 1=fw 0):=funext c;go_enter aE.func165,Tryz.ntmps165;go_wp2_with fail;refine bL (Xa q o t n) ?_;intro d l j;have i:X (Reads s h g f 1 (jE 1 1) w d l):=by
   show Reads _ _ _ _ _ _ _ _ _;rw[m.o];exact j
  rcases j with⟨k,⟨b,v,rfl,_⟩|⟨u,rfl,_⟩⟩;go_wp2;go_ret;exact i.o;go_wp2;exact⟨rfl,i.o⟩
 .have c:∀b,jE a 2 b=gi a b:=λb=>rfl;have m:X (jE a 2=gi a):=funext c;go_enter aE.func165,Tryz.ntmps165;go_wp2_with fail;refine bL (Xb B q o t n) ?_;intro d l j;have i:X (Reads s h g f a (jE a 2) w d l):=by
   show Reads _ _ _ _ _ _ _ _ _;rw[m.o];exact j
  rcases j with⟨k,⟨b,v,rfl,_⟩|⟨u,rfl,_⟩⟩;go_wp2;go_ret;exact i.o;go_wp2;exact⟨rfl,i.o⟩
 .have z:a=2:=by simp[eW] at y;omega
  subst z;have c:∀b,jE 2 3 b=eK (b.map az.n):=λb=>rfl
  skip
  go_enter aE.func165,Tryz.ntmps165;go_wp2_with fail;refine bL (Li s h g f q o t n) ?_;rintro d l ⟨k,⟨V,v,rfl,C,S,P,R,L,H,N⟩|⟨u,rfl,M⟩⟩;have E:=ap k;have D:=ap (iC.gC N);have Q:=k.size;go_wp2_with fail;refine bL (aaA (by rw[C];exact o) D.o) ?_;rintro d Y ⟨A,T,rfl,O⟩
  skip
  go_wp2;go_ret;refine⟨E.o.trans (Kp.iT A),aq ⟨V.map rF,T,rfl,by rw[ee];exact C,O0 S,?_,?_,?_,?_,?_⟩⟩;rw[c,Ea];exact P;intro e G r p;rw[c] at p;rw[<-R (e.map az.n) bh (Hl e r) p,Ig e r];rw[c,Ea];exact L;rw[c,Ea,cS A h aa];exact H;rw[ee];exact j6 O Q;have F:X (∀e:List az,I e=f->(∀d∈e,VK 2 d)->¬aQ (bytesOf s) g (jE 2 3 e)):=by
   intro e G r p;rw[c] at p;exact M (e.map az.n) bh (Hl e r) p
  go_wp2;exact⟨rfl,k,an ⟨u,rfl,F.o⟩⟩
def sC:az:=⟨af,0,⟨#[]⟩⟩
structure sS(k:Int)(zs:List Int)(pres:List az)(j nx:Nat)(l:List az):Prop where
 lv:l.map fX=zs.take j
 th:there l=pres.take nx
 A2:nx=iw (zs.take j)
 ok:∀x∈l,VC k x
def U5(a:List Int)(b:Nat):iw (a.take b)<=iw a:=by
 unfold iw;exact((List.take_sublist b a).filter _).length_le
def M8{b:List az}{a:az}:there (b++[a])=if a.null then there b else there b++[a]:=by
 unfold there;rw[List.filter_append];cases c:a.null<;>simp[c]
def sS.null{f:List az}{e:List az}(a:sS M qY f n m e)(h:iU qY)(c:n<I qY)(d:aX qY n 0=0):sS M qY f (n+1) m (e++[sC]):=by
 have g:=Cz h c;rw[d] at g;refine⟨?_,?_,?_,?_⟩;rw[gY,a.lv,gh c,<-lM c,d];rfl;rw[M8];exact a.th;rw[a.A2];omega;intro j i;rcases eG.1 i with b|b;exact a.ok j b;simp at b;subst b;exact aq ⟨rfl,rfl,rfl⟩
def sS.lt{b:List az}{f:List az}(d:sS M qY b n m f)(c:iU qY)(a:n<I qY)(k:aX qY n 0≠0)(j:I b=iw qY):m<I b:=by
 have g:=Cz c a;have h:=U5 qY (n+1);have e:=c _ (c8 a);rw[<-lM a] at e;have i:=d.A2;omega
def sS.one{b:List az}{h:List az}(c:sS M qY b n m h)(g:iU qY)(a:n<I qY)(p:aX qY n 0≠0)(k:m<I b)(e:VK M b[m]):sS M qY b (n+1) (m+1) (h++[b[m]]):=by
 have i:=Cz g a;have j:=g _ (c8 a);rw[<-lM a] at j;have f:aX qY n 0=1:=aa;rw[f] at i;refine⟨?_,?_,?_,?_⟩;rw[gY,c.lv,gh a,<-lM a,f];congr 1;simp[fX,e.there];rw[M8,e.there,c.th,gh k];rfl;rw[c.A2];omega;intro o l;rcases eG.1 l with d|d;exact c.ok o d;simp at d;subst d;exact an e
def W8(bi:eW M qA=af){s:ByteArray}(aC:s.size<=aS)(be:k<=100)(bu:m<=s.size)(D:w.heap[n]? =K (bR s m)):
 bn 156 #[(aZ n),z9 M,z9 qA,z9 k] w λe r=>Kp n w r/\
  ((∃(b:List az) (v:F),e=aR v/\I b=k/\(∀e∈b,VC M e)/\aQ (bytesOf s) m (g5 M qA b)/\(∀c:List az,I c=k->(∀e∈c,VC M e)->aQ (bytesOf s) m (g5 M qA c)->c=b)/\m+I (g5 M qA b)<=s.size/\
    r.heap[n]? =K (bR s (m+I (g5 M qA b)))/\aT r (U w.heap) 59 3 v (I b) (bZ b))\/
   (∃y,e=gO (g3 y)/\∀c:List az,I c=k->(∀e∈c,VC M e)->¬aQ (bytesOf s) m (g5 M qA c))):=by
 have⟨ad,P,bV,T,bY⟩:=eU aE.nh;have bx:=bC D;have a7:=ap D;go_enter aE.func156,Tryz.ntmps156;go_wp2_with fail;refine bL (Li s n m k aC be bu a7.o) ?_;rintro e co ⟨ar,⟨d,v,rfl,q,a0,bD,aY,bk,bc,aH⟩|⟨y,rfl,R⟩⟩;have aj:=ap ar;have B:=ap a0;have a6:=ap (iC.gC aH);have bo:iw d<=100:=cB (Fs d);have a4:X (∀w,iC w v d->bn 166 #[v] w λqA r=>qA=aR (z9 ((iw d:Nat):Int))/\r=w):=λw D=>Ru v d w aa a0 D;go_wp2_with (go_at_call 166;refine bL (a4.o _ a6.o) ?_;rintro e r ⟨rfl,bN⟩;rw[bN]);refine bL (Xh M qA bi s n (m+I (eK d)) (iw d) aC bo bk bc) ?_;rintro e g ⟨N,⟨j,cn,rfl,aL,bv,bE,bI,bl,bd,br⟩|⟨y,rfl,R⟩⟩
 .have A:=ap (aj.o.trans N);obtain⟨cf,W,ab,cg,rfl,a1,a2,b1⟩:=iC.gC (N.own aH bx);obtain⟨b7,ca,ch,cb,rfl,bJ⟩:=jr.gC br;have bF:=A.o.size;have bm:m+I (eK d)+I (jE M qA j)<=s.size:=bl;rw[q] at a1 a2;have a5:X (∀a,a<k->aA g ⟨W,ab+a,Z⟩=K (z9 (aX d a 0))):=by
   have:=b1;rw[q] at this;exact this
  skip
  rw[q];go_wp2_with (at_make;refine wpList_make_own _ Y _ _ 43 Y (U g.heap) 59 ad _ 3 aE.underlying43 P bV T bM bM _ k Y Y Y (jG bY) gy (aV _) ?_;intro b4 bs bj);have a3:X (aD g b4):=iB (bU _ _) bj (aV _) aF
  go_loopw [11,12,28] (λb2 b3 V wr=>∃(a f:Nat) (b:List az),a<=k/\f<=a/\V=n9 a/\b3=n9 f/\b2=aI (U g.heap) a k/\sS M d j a f b/\aT wr (U g.heap) 59 3 (aI (U g.heap) a k) a (bZ b)/\aD g wr) (λ_ _ V _=>k-bS (bw V))
  exact⟨0,0,[],cE _,aV _,rfl,rfl,rfl,⟨rfl,rfl,rfl,λe bP=>by simp at bP⟩,by simpa [bZ] using bs,a3.o⟩;obtain⟨a,f,b,cc,cd,rfl,rfl,rfl,i,S,o⟩:=hrel;have aM:=o.size
  skip
  by_cases ay:a<k;have p:a<I d:=b5 q ay;obtain rfl:=a1 (by omega);have aw:aJ wr W (ab+a) (z9 (aX d a 0)):=(bq o (p:=⟨W,ab+a,Z⟩) (a2 aa)).trans (a5.o a ay);by_cases x:aX d a 0=0
  .have H:=ap (i.null B.o p x);rw[x] at aw;have L:X (bZ b++[ak af,z9 0,au ⟨#[]⟩]=bZ (b++[sC])):=nF b sC;clear x p;go_wp2_with (at_builtin;refine r7 _ Y _ _ 43 Y (U g.heap) 59 ad 3 aE.underlying43 P T (U g.heap) a k _ Y (S.alloc _) ⟨U wr.heap,0,Z⟩ 1 1 [ak af,z9 0,au ⟨#[]⟩] Y Y (by exact lR _) (lS sC) (by omega) ?_;intro ae u O);have G:X (aD g ae):=iB (o.alloc aM _) O bO aF;rw[L.o] at u;refine⟨⟨a+1,f,b++[sC],aa,aa,by go_num,rfl,rfl,H.o,u,G.o⟩,by simp[bw];omega⟩
  have t:=i.lt B.o p x aL;have b0:aX d a 0=1:=by
   have ba:=B.o _ (c8 p);rw[<-lM p] at ba;omega
  have H:=ap (i.one B.o p x t (bv _ (c8 t)));rw[b0] at aw;have E:=bJ.below o;obtain rfl:=E.addr (by omega);have ci:=E.c0 f t;have ck:=E.c1 f t;have cl:=E.c2 f t;have L:X (bZ b++[ak j[f].null,z9 j[f].n,au j[f].s]=bZ (b++[j[f]])):=nF b _;generalize j[f]=z at*;go_wp2_with (at_builtin;refine r7 _ Y _ _ 43 Y (U g.heap) 59 ad 3 aE.underlying43 P T (U g.heap) a k _ Y (S.alloc _) ⟨U wr.heap,0,Z⟩ 1 1 [ak z.null,z9 z.n,au z.s] Y Y (by exact lR _) (lS z) (by omega) ?_;intro ae u O);have G:X (aD g ae):=iB (o.alloc aM _) O bO aF;rw[L.o] at u;refine⟨⟨a+1,f+1,b++[z],aa,aa,by go_num,by go_num,rfl,H.o,u,G.o⟩,by simp[bw];omega⟩;obtain rfl:a=k:=by omega
  have bH:d.take a=d:=ja (jG q);have l:=i.lv;have C:=i.th;have am:=i.A2;rw[bH] at l am;rw[am,<-aL,iZ] at C;have Q:I b=a:=by rw[<-q,<-l,ee]
  have⟨a8,a9⟩:=Ro (k:=M) (e:=qA) (s:=s) (p:=m) (cn:=a) (l:=b) Q i.ok (b5 l bD) (b5 l aY) (by rw[l,C];exact bE) (by rw[l,C];exact bI);have al:X (m+I (g5 M qA b)=m+I (eK d)+I (jE M qA j)):=by
   show _=_;unfold g5;rw[cN,l,C,gF]
  go_wp2;go_ret;exact⟨A.o.trans (Kp.iT o),aq ⟨b,_,rfl,Q,i.ok,a8,a9,b5 al.o bm,by rw[al.o,cS o n (by omega)];exact bd,b5 Q (j6 S bF)⟩⟩
 have J:X (∀c:List az,I c=k->(∀e∈c,VC M e)->¬aQ (bytesOf s) m (g5 M qA c)):=by
  intro c bb aG h;unfold g5 at h;rw[dn] at h;have ao:=aY (c.map fX) bh (Cq c) h.1;rw[ao] at h;exact R (there c) (by rw[G7,ao]) (Dt aG) h.2
 have A:=ap (aj.o.trans N);go_wp2;exact⟨rfl,A.o,an ⟨y,rfl,J.o⟩⟩;have J:X (∀c:List az,I c=k->(∀e∈c,VC M e)->¬aQ (bytesOf s) m (g5 M qA c)):=by
  intro c bb aG h;unfold g5 at h;rw[dn] at h;exact R (c.map fX) bh (Cq c) h.1
 go_wp2;exact⟨rfl,ar,an ⟨y,rfl,J.o⟩⟩
end Ec
namespace Pk
open Go.RowKit Pm
def G8(b:ag)(a c d:cj):(cD (cD (cD b a) c) d).heap[U b.heap]? =K a:=by
 rw[e6 _ _ _ bO,e6 _ _ _ aF];exact kQ b a
def G9(a:ag)(b c d:cj):(cD (cD (cD a b) c) d).heap[U a.heap+1]? =K c:=by
 rw[e6 _ _ _ aF];have:=kQ (cD a b) c;rwa [show(cD a b).heap.size=U a.heap+1 from aF] at this
def He(a:ag)(b c d:cj):(cD (cD (cD a b) c) d).heap[U a.heap+1+1]? =K d:=by
 have:=kQ (cD (cD a b) c) d;rwa [show(cD (cD a b) c).heap.size=U a.heap+1+1 from aF] at this
end Pk
namespace Ec
open Go.RowKit Pk Pm
def oT{t:aK}(a:w.heap[n]? =K (ax #[v] t (0,0))):aA w ⟨n,0,Z⟩=K v/\cU w ⟨n,0,Z⟩=ai:=by
 constructor;simp[aA,a];simp[cU,a]
def A4(a:F)(b:w.heap[n]? =K (ax #[v] Qc (0,0))):(bg w ⟨n,0,Z⟩ a).heap[n]? =K (ax #[a] Qc (0,0)):=by
 rw[eE w n 0 _ _ _ b];rfl
def PC(b:List hJ)(a:ag)(f:aA a R=K v)(g:cU a R=ai)
 (d:aA (bg a R aH) qP=K x) (e:cU (bg a R aH) qP=ai):
 CallsD (aM av) 169 #[dG (K R),dG (K qP)] (kr ({v:=.iface Qc y,recovered:=ai}::b)) a λc i j=>
  c=aR (cC #[])/\i=kr ({v:=.iface Qc y,recovered:=af}::b)/\j=bg (bg a R aH) qP (ak ai):=by
 refine callsD_of_wpS aE.func169 Y λl k h=>?_;apply wpS_seq;apply wpS_region;simp[wpOpsS,go_sem,recoverD,h,Tryz.ntmps169,Exit.thenS];refine wpS_cond (t:=af) (by rfl) ?_;simp only[if_true];apply wpS_seq;apply wpS_region;simp[wpOpsS,go_sem,Exit.thenS];apply wpS_region;simp[wpOpsS,go_sem,f,g,d,e,bodyPostS,dx,Tryz.results169]
def PA(e d:aN):
 CallsD (aM av) 169 #[dG (K e),dG (K d)] jA w λb f g=>b=aR (cC #[])/\f=jA/\g=w:=by
 refine callsD_of_wpS aE.func169 Y λa h c=>?_;apply wpS_seq;apply wpS_region;simp[wpOpsS,go_sem,recoverD,c,Tryz.ntmps169,Exit.thenS];refine wpS_cond (t:=ai) (by rfl) ?_;simp only[fA,if_false];refine wpS_of_wp (wp_skip ?_);cases a;simp_all [bodyPostS,dx,Tryz.results169]
def Iy(hL:u.heap[U w.heap]? =K (ax #[v] Qc (0,0)))(c:u.heap[U w.heap+1]? =K (ax #[x] Qd (0,0))):
 CallsD (aM av) 169 #[(aZ (U w.heap)),(aZ (U w.heap+1))] (kr (g3 n)) u λb d e=>
  b=aR (cC #[])/\d=kr [{v:=.iface 205 (cw #[n9 n]),recovered:=af}]/\e=bg (bg u ⟨U w.heap,0,Z⟩ aH) ⟨U w.heap+1,0,Z⟩ (ak ai):=by
 have a:(bg u ⟨U w.heap,0,Z⟩ aH).heap[U w.heap+1]? =K (ax #[x] Qd (0,0)):=by
  rw[ef _ _ _ _ aF];exact c
 exact PC [] u (oT hL).1 (oT hL).2 (oT a).1 (oT a).2
def Hw(u1 u2:F)(hL:u.heap[U w.heap]? =K (ax #[v] Qc (0,0)))(e:u.heap[U w.heap+1]? =K (ax #[x] Qd (0,0)))(d:aD w u):
 let a:=(u.setCell ⟨U w.heap,0,Z⟩ u1).setCell ⟨U w.heap+1,0,Z⟩ u2
 (aA a) ⟨U w.heap,0,Z⟩=K u1/\aA a ⟨U w.heap+1,0,Z⟩=K u2/\aD w a:=by
 have b:=A4 u1 hL;have c:(u.setCell ⟨U w.heap,0,Z⟩ u1).heap[U w.heap+1]? =K (ax #[x] Qd (0,0)):=by
  rw[ef _ _ _ _ (by simp)];exact e
 refine⟨?_,(oT (A4 u2 c)).1,?_⟩;refine(oT (t:=Qc) ?_).1;rw[ef _ _ _ _ (by simp)];exact b;exact(d.setCell (aV _) _).setCell (Nat.le_succ _) _
def aaS{c1 c2 c3:F}{s:ByteArray}(O:s.size<=aS){z:Nat->List F->Nat->Prop}{N:Prop}
 (aj:∀(j:ag) (t:Nat),aD w j->t=U w.heap+1+1->j.heap[t]? =K (bR s 0)->bn 155 #[(aZ t),c1,c2,c3] j λe h=>Kp t j h/\
   ((∃v a g f,e=aR v/\h.heap[t]? =K (bR s f)/\f<=s.size/\aT h (U j.heap) n k v a g/\z a g f)\/(∃f,e=gO (g3 f)/\N))):
 bn 163 #[au s,.func (.func 155) #[] #[c1,c2,c3]] w λe h=>aD w h/\
  ((∃v a g,e=aR (cC #[v,ak af])/\aT h (U w.heap) n k v a g/\z a g s.size)\/(e=aR (cC #[aH,ak ai])/\(N\/∃a g f,z a g f/\f<s.size))):=by
 skip
 go_enter_defers aE.func163,Tryz.ntmps163
 go_wp2_with (go_at_call 65;refine(Fc s).mono ?_;rintro e h ⟨rfl,rfl⟩);have I:bD (((w.alloc (ax #[aH] 43)).alloc (ax #[ak ai] 4)).alloc (bR s 0)) (U w.heap) #[aH] 43:=G8 _ _ _ _;have H:bD (((w.alloc (ax #[aH] 43)).alloc (ax #[ak ai] 4)).alloc (bR s 0)) (U w.heap+1) #[ak ai] 4:=G9 _ _ _ _;have ae:(((w.alloc (ax #[aH] 43)).alloc (ax #[ak ai] 4)).alloc (bR s 0)).heap[U w.heap+1+1]? =K (bR s 0):=He _ _ _ _;have az:(((w.alloc (ax #[aH] 43)).alloc (ax #[ak ai] 4)).alloc (bR s 0)).heap.size=U w.heap+3:=aF;have A:aD w (((w.alloc (ax #[aH] 43)).alloc (ax #[ak ai] 4)).alloc (bR s 0)):=(((bU _ _).alloc (aV _) _).alloc aF _).alloc bO _;generalize (((w.alloc (ax #[aH] 43)).alloc (ax #[ak ai] 4)).alloc (bR s 0))=S at*;refine(aj S (U w.heap+1+1) A Y ae).mono ?_;rintro e d ⟨i,⟨v,a,g,f,rfl,L,aC,y,J⟩|⟨f,rfl,V⟩⟩;have r:bD d (U w.heap) #[aH] 43:=Kp.block i I aa;have q:bD d (U w.heap+1) #[ak ai] 4:=Kp.block i H aa;have B:aD w d:=fJ A ((i.below aa).mono aa);have C:bB v≠K (U w.heap)/\bB v≠K (U w.heap+1):=⟨λe=>by have:=(y.lt _ e).1;omega,λe=>by have:=(y.lt _ e).1;omega⟩;have⟨b,c,al⟩:=tw y;subst al;have R:X (aT d (U w.heap) n k (ah b a c) a g):=j6 y aa;have⟨ar,ay⟩:=oT r;have⟨ao,aw⟩:=oT q;have G:=ap r;have E:=ap q;have D:=ap B;by_cases M:f<s.size
 .go_wp2_with (go_at_call 93;refine(ED (U w.heap+1+1) f s O M (by rw[ef _ _ _ _ bO];exact L)).mono ?_;rintro e h ⟨rfl,m,rfl⟩);have x:bD (cT (d.setCell ⟨U w.heap,0,Z⟩ (ah b a c)) m) (U w.heap) #[ah b a c] 43:=A4 _ G.o;have u:bD (cT (d.setCell ⟨U w.heap,0,Z⟩ (ah b a c)) m) (U w.heap+1) #[ak ai] 4:=by
   show(d.setCell ⟨U w.heap,0,Z⟩ (ah b a c)).heap[U w.heap+1]? =_;rw[ef _ _ _ _ aF];exact E.o
  have T:=below_drewN (D.o.setCell (p:=⟨U w.heap,0,Z⟩) (aV _) (ah b a c)) m;generalize cT (d.setCell ⟨U w.heap,0,Z⟩ (ah b a c)) m=aG at*;have⟨l,o,p⟩:=Hw aH (ak ai) x u T;refine leaves_cons (f:=169) (args:= #[(aZ (U w.heap)),(aZ (U w.heap+1))]) aF (by simp[go_sem]) ?_;refine(Iy x u).mono ?_;rintro e P Q ⟨rfl,rfl,rfl⟩;simp[Leaves,settle,dx,Tryz.results163,go_sem,l,o];exact⟨p,an ⟨a,g,f,J,M⟩⟩
 .obtain rfl:f=s.size:=by omega
  go_wp2_with (go_at_call 93;refine(EE (U w.heap+1+1) s.size s O (by omega) (by rw[ef _ _ _ _ bO];exact L)).mono ?_;rintro e h ⟨rfl,m,rfl⟩);have x:bD (cT (d.setCell ⟨U w.heap,0,Z⟩ (ah b a c)) m) (U w.heap) #[ah b a c] 43:=A4 _ G.o;have u:bD (cT (d.setCell ⟨U w.heap,0,Z⟩ (ah b a c)) m) (U w.heap+1) #[ak ai] 4:=by
   show(d.setCell ⟨U w.heap,0,Z⟩ (ah b a c)).heap[U w.heap+1]? =_;rw[ef _ _ _ _ aF];exact E.o
  have W:aT (cT (d.setCell ⟨U w.heap,0,Z⟩ (ah b a c)) m) (U w.heap) n k (ah b a c) a g:=x8 (ownsRow_setCell_other R.o C.1 _) m;have ab:aT ((cT (d.setCell ⟨U w.heap,0,Z⟩ (ah b a c)) m).setCell ⟨U w.heap,0,Z⟩ (ah b a c)) (U w.heap) n k (ah b a c) a g:=ownsRow_setCell_other W C.1 _;have ad:aT (((cT (d.setCell ⟨U w.heap,0,Z⟩ (ah b a c)) m).setCell ⟨U w.heap,0,Z⟩ (ah b a c)).setCell ⟨U w.heap+1,0,Z⟩ (ak af)) (U w.heap) n k (ah b a c) a g:=ownsRow_setCell_other ab C.2 _;have⟨l,o,p⟩:=Hw (ah b a c) (ak af) x u (below_drewN (D.o.setCell (p:=⟨U w.heap,0,Z⟩) (aV _) (ah b a c)) m);generalize ((cT (d.setCell ⟨U w.heap,0,Z⟩ (ah b a c)) m).setCell ⟨U w.heap,0,Z⟩ (ah b a c)).setCell ⟨U w.heap+1,0,Z⟩ (ak af)=am at*;refine leaves_cons (f:=169) (args:= #[(aZ (U w.heap)),(aZ (U w.heap+1))]) aF (by simp[go_sem]) ?_;refine(PA ⟨U w.heap,0,Z⟩ ⟨U w.heap+1,0,Z⟩).mono ?_;rintro e P Q ⟨rfl,rfl,rfl⟩;simp[Leaves,settle,dx,Tryz.results163,go_sem,l,o];exact⟨p,a,g,ad,J⟩
 have r:bD d (U w.heap) #[aH] 43:=Kp.block i I aa;have q:bD d (U w.heap+1) #[ak ai] 4:=Kp.block i H aa;have B:aD w d:=fJ A ((i.below aa).mono aa);have⟨l,o,p⟩:=Hw aH (ak ai) r q B;refine leaves_cons (f:=169) (args:= #[(aZ (U w.heap)),(aZ (U w.heap+1))]) aF (by simp[go_sem]) ?_;refine(Iy r q).mono ?_;rintro e P Q ⟨rfl,rfl,rfl⟩;simp[Leaves,settle,dx,Tryz.results163,go_sem,l,o];exact⟨p,aq V⟩
def RR(t:eW M qA=af){s:ByteArray}(u:s.size<=aS)(r:m<=100)(p:w.heap[n]? =K (bR s 0))
 (hx:aJ w k 0 (z9 M)) (hy:aJ w i 0 (z9 qA)) (D:aJ w j 0 (z9 m)):
 bn 155 #[(aZ n),(aZ k),(aZ i),(aZ j)] w λf d=>Kp n w d/\
  ((∃v h l c,f=aR v/\d.heap[n]? =K (bR s c)/\c<=s.size/\aT d (U w.heap) 59 3 v h l/\
    (∃a:List az,h=m/\I a=m/\l=bZ a/\c=I (g5 M qA a)/\(∀k∈a,VC M k)/\aQ (bytesOf s) 0 (g5 M qA a)/\∀b:List az,I b=m->(∀k∈b,VC M k)->aQ (bytesOf s) 0 (g5 M qA b)->b=a))\/
   (∃c,f=gO (g3 c)/\∀b:List az,I b=m->(∀k∈b,VC M k)->¬aQ (bytesOf s) 0 (g5 M qA b))):=by
 skip
 go_enter aE.func155,Tryz.ntmps155;go_wp2_with fail;refine bL (W8 t u r (cE _) p) ?_;rintro f E ⟨e,⟨a,v,rfl,g,y,A,B,C,q,z⟩|⟨c,rfl,x⟩⟩;have o:=ap e;go_wp2;go_ret;refine⟨o.o,aq ⟨v,m,bZ a,I (g5 M qA a),rfl,cM q,aa,by rw[<-g];exact z,a,rfl,g,rfl,rfl,y,A,B⟩⟩
 skip
 go_wp2;exact⟨rfl,e,an ⟨c,rfl,x⟩⟩
def Xj{c1 c2 c3:F}{s:ByteArray}(p:s.size<=aS){h:Nat->List F->Nat->Prop}{N:Prop}
 (o:∀(f:ag) (g:Nat),aD w f->g=U w.heap+1+1->f.heap[g]? =K (bR s 0)->bn 155 #[(aZ g),c1,c2,c3] f λd e=>Kp g f e/\
   ((∃v a b c,d=aR v/\e.heap[g]? =K (bR s c)/\c<=s.size/\aT e (U f.heap) n m v a b/\h a b c)\/(∃c,d=gO (g3 c)/\N))):
 bn 154 #[au s,.func (.func 155) #[] #[c1,c2,c3]] w λd e=>aD w e/\
  ((∃v a b,d=aR (cC #[v,z9 0])/\aT e (U w.heap) n m v a b/\h a b s.size)\/(d=aR (cC #[aH,z9 3])/\(N\/∃a b c,h a b c/\c<s.size))):=by
 skip
 go_enter aE.func154,Tryz.ntmps154;go_wp2_with fail;refine bL (aaS p o) ?_;rintro d r ⟨i,⟨v,a,b,rfl,q,l⟩|⟨rfl,k⟩⟩;have j:=ap i;go_wp2;go_ret2;exact⟨j.o,aq ⟨v,a,b,rfl,q,l⟩⟩
 skip
 skip
 go_wp2;go_ret2;exact⟨i,an ⟨rfl,k⟩⟩
structure uE(s:ByteArray)(k e:Int)(cn:Nat)(l:List az):Prop where
 len:I l=cn
 ok:∀x∈l,VC k x
 eq:g5 k e l=bytesOf s
 mj:∀L:List az,I L=cn->(∀x∈L,VC k x)->aQ (bytesOf s) 0 (g5 k e L)->L=l
def p8 (s:ByteArray)(b d:Int)(c:Nat):Prop:=∀a:List az,I a=c->(∀e∈a,VC b e)->g5 b d a≠bytesOf s
def Rc(a c b:Int):j0 a c b≠0\/(j0 a c b=0/\eW c b=af/\∃d:Nat,a=(d:Int)/\d<=100):=by
 unfold j0;by_cases e:a<0\/100<a
 left;rw[if_pos e];omega
 rw[if_neg e];cases f:eW c b with
 |false=>left;simp
 |true=>right;exact⟨aF,rfl,bS a,aa,aa⟩
def Pd(a:ag)(b c d:cj):(cD (cD (cD a b) c) d).heap.size=U a.heap+3:=aF
def Ej(s:ByteArray)(b a e:Int)(c:ag)(B:s.size<=aS):
 bn 139 #[au s,z9 b,z9 a,z9 e] c λf j=>aD c j/\
  ((j0 e b a≠0/\f=aR (cC #[aH,z9 (j0 e b a)]))\/
   (∃d:Nat,e=(d:Int)/\d<=100/\j0 e b a=0/\eW b a=af/\((∃v g,f=aR (cC #[v,z9 0])/\aT j (U c.heap) 59 3 v (I g) (bZ g)/\uE s b a d g)\/(f=aR (cC #[aH,z9 3])/\p8 s b a d)))):=by
 have o:aD c (((c.alloc (ax #[z9 b] 3)).alloc (ax #[z9 a] 3)).alloc (ax #[z9 e] 3)):=(((bU _ _).alloc (aV _) _).alloc aF _).alloc bO _;have k:=PO e b a
 skip
 rcases Rc e b a with M|⟨n,r,d,rfl,q⟩
 .generalize j0 e b a=Q at*;go_enter aE.func139,Tryz.ntmps139;go_wp2_with (go_at_call 123;refine(k _).mono ?_;rintro E j ⟨rfl,rfl⟩);go_ret2;exact⟨o,aq ⟨M,rfl⟩⟩
 .rw[n] at k;have G:=(oT (G8 c (ax #[z9 b] 3 (0,0)) (ax #[z9 a] 3 (0,0)) (ax #[n9 d] 3 (0,0)))).1;have H:=(oT (G9 c (ax #[z9 b] 3 (0,0)) (ax #[z9 a] 3 (0,0)) (ax #[n9 d] 3 (0,0)))).1;have J:=(oT (He c (ax #[z9 b] 3 (0,0)) (ax #[z9 a] 3 (0,0)) (ax #[n9 d] 3 (0,0)))).1;have O:=Pd c (ax #[z9 b] 3) (ax #[z9 a] 3) (ax #[n9 d] 3);have R:=ap O;go_enter aE.func139,Tryz.ntmps139;go_wp2_with (go_at_call 123;refine(k _).mono ?_;rintro E j ⟨rfl,rfl⟩);generalize (((c.alloc (ax #[z9 b] 3)).alloc (ax #[z9 a] 3)).alloc (ax #[n9 d] 3))=S at*;refine(Xj B
   (λT E h Y L=>RR r B q L ((bq h (p:=⟨U c.heap,0,Z⟩) bh).trans G) ((bq h (p:=⟨U c.heap+1,0,Z⟩) bh).trans H) ((bq h (p:=⟨U c.heap+1+1,0,Z⟩) bh).trans J))).mono ?_
  rintro f y ⟨h,⟨v,x,P,rfl,N,g,rfl,u,rfl,C,i,D,w⟩|⟨rfl,p⟩⟩;have l:X (aD c y):=o.trans (h.mono aa);have F:X (aT y (U c.heap) 59 3 v (I g) (bZ g)):=by rw[u];exact j6 N aa
  have m:X (uE s b a x g):=⟨u,i,H_ D (by rw[cJ];omega),w⟩;go_wp2;go_ret2;exact⟨l.o,an ⟨x,rfl,q,n,r,aq ⟨v,g,rfl,F.o,m.o⟩⟩⟩;have l:X (aD c y):=o.trans (h.mono aa);have m:X (p8 s b a d):=by
   intro z A i t;rcases p with p|⟨x,P,ab,⟨g,rfl,u,rfl,C,W,D,w⟩,V⟩;exact p z A i (uw t);have K:=w z A i (uw t);subst K;rw[t,cJ] at C;omega
  go_wp2;go_ret2;exact⟨l.o,an ⟨d,rfl,q,n,r,an ⟨rfl,m.o⟩⟩⟩
def uA:∀a∈bc n,a<256:=aaJ n
def LP(c:List Int):∀b∈lQ f c,b<256:=by
 induction f generalizing c with
 |zero=>simp[lQ]
 |succ f e=>
  cases c with
  |nil=>simp[lQ]
  |cons h g=>
   intro b d;simp only[lQ] at d;rcases eG.1 d with a|a;exact uA b a;rcases eG.1 a with a|a;simp at a;rw[a];exact Ei;exact e _ b a
def FK{v:az}:∀b∈cZ M v,b<256:=by
 intro b a;unfold cZ at a
 split at a
 exact uA b a
 split at a
 simp at a;rw[a];exact Ei;rcases eG.1 a with c|c;exact uA b c;exact xH _ b c
def KC{d:List az}:∀a∈dJ M d,a<256:=by
 intro a b;unfold dJ at b;have⟨v,_,c⟩:=y5.1 b;exact FK a c
def RU(c:Int){e:List az}:∀a∈fw c e,a<256:=by
 induction e generalizing c with
 |nil=>simp[fw]
 |cons h g f=>
  intro a d;simp only[fw] at d;rcases eG.1 d with b|b;exact uA a b;exact f _ a b
def Rn(e d:Int)(f:List az):∀b∈g5 e d f,b<256:=by
 intro b c;unfold g5 at c;rcases eG.1 c with a|a;exact LP _ b a;unfold jE at a
 split at a
 exact RU _ b a
 split at a
 unfold gi at a;rcases eG.1 a with a|a;exact uA b a;rcases eG.1 a with a|a;exact KC b a;exact KA b a
 split at a
 exact LP _ b a;exact KC b a
def J4{b:List bF}(c:nH b):∀a∈b,bf a.name<=16:=by
 intro a d;obtain⟨f,e,rfl⟩:=m6 d;have:=(c.2.2 f e).1;simp[oO] at this;omega
def Nw:jb ⟨ai,0,⟨#[]⟩⟩:=⟨ay,ay,ay⟩
end Ec
namespace Ec
open Go.RowKit Pk
def C9(a:w.heap[n]? =K (ax C Qc (0,0))):pq w n 0 (dD C):=by
 intro c v b;rw[e7];simp only[aA,a];simpa using b
def LA(a:w.heap[n]? =K (ax C Qc (0,0))):w.there n 0 (U C):=by
 intro c b;rw[e7];refine⟨?_,?_⟩;simp[aA,a,b];simp[cU,a]
theorem Ie{a:Nat}{d:ag}{f:Nat}(h:a<=U d.heap)(g:a<=f):∀(j:List F) (c:Nat) (e:ag),dw a d e->dw a d (s4 e f c j)
 | [],_,_,b=>b
 |v::i,c,e,b=>Ie h g i (c+1) _ (kg b h g)
theorem Ed{d a:Nat}(e:a≠d):∀(g:List F) (b:Nat) (c:ag),(s4 c d b g).heap[a]? =c.heap[a]?
 | [],_,_=>rfl
 |v::f,b,c=>by
  rw[s4,Ed e f (b+1)];exact ef _ _ _ _ (cM e)
def KE{c:gL->ag->Prop}{b:Tmp}{a:TypeDesc}(k:r4 QI=#[.cell b Qc])(g:b8 Q=[])
 (m:Q.tmps.getD b cI=(aZ n)) (f:pq w n 0 S) (l:gb Qn Qc=K a) (h:a.isRow=af) (i:(Qn.info? Qc).map (·.size)=K (I S)) (d:c (aR (cw (cX S))) w):jM Qn QI c .ret Q w:=by
 refine bodyPost_ret (v:=cw (cX S)) ?_ g d;have e:=run_loadVar_mid w n 0 Qc S a f l h i;have j:Q.tmps[b]?.getD cI=(aZ n):=k8;simp[dx,k,j,asAddr,Sem.run_bind,Result.andThen,e]
end Ec
namespace Ec
open Go.RowKit Pk Pm
def p7 (b:Int)(a:ia):Prop:=a=hY\/(a.there=af/\VK b a.least/\VK b a.most/\¬ 0<gp a.least a.most)
def js (a:ia):Array F:= #[ak a.there,ak a.least.null,z9 a.least.n,au a.least.s,ak a.most.null,z9 a.most.n,au a.most.s]
theorem Kp.FT(d:U w.heap<=m):∀(f:List F) (a:Nat) (b:ag),Kp n w b->Kp n w (s4 b m a f)
 | [],_,_,c=>c
 |v::e,a,b,c=>Kp.FT d e (a+1) _ (c.grown (eJ b m a v) (λh g=>bh))
def L5{a:ia}(b:w.heap[n]? =K (ax (js a) Qc (0,0))):(aA w ⟨n,0,Z⟩=K (ak a.there)/\aA w ⟨n,1,Z⟩=K (ak a.least.null)/\aA w ⟨n,2,Z⟩=K (z9 a.least.n)/\aA w ⟨n,3,Z⟩=K (au a.least.s)/\aA w ⟨n,4,Z⟩=K (ak a.most.null)/\aA w ⟨n,5,Z⟩=K (z9 a.most.n)/\aA w ⟨n,6,Z⟩=K (au a.most.s))/\∀c,cU w ⟨n,c,Z⟩=ai:=by
 unfold js at b;refine⟨⟨?_,?_,?_,?_,?_,?_,?_⟩,λc=>by simp[cU,b]⟩<;>simp[aA,b]
def DK (h:ag)(e c:Nat)(s:ByteArray)(b:Int)(d:gL)(f:ag):Prop:=
 Kp e h f/\((∃a:ia,d=aR (Im a)/\p7 b a/\aQ (bytesOf s) c (gw b a)/\c+I (gw b a)<=bf s/\f.heap[e]? =K (bR s (c+I (gw b a))))\/
  (∃g,d=gO (g3 g)/\∀a:ia,p7 b a->¬aQ (bytesOf s) c (gw b a)))
def W7(a:Int)(E:a=1\/a=2\/a=3)(b c:Nat)(s:ByteArray)(f:ag)(aw:s.size<=aS)(ay:c<=s.size)(a0:f.heap[b]? =K (bR s c)):
 bn 131 #[(aZ b),z9 a] f (DK f b c s a):=by
 have b2:=bC a0;have bo:X ((f.alloc (ax (js hY) 141)).heap[b]? =K (bR s c)):=by
  show _=_;rw[e6 _ _ b b2];exact a0
 have aJ:X (Kp b f (f.alloc (ax (js hY) 141))):=(Kp.refl b f).alloc _;have b3:X (∀c,c<=s.size->∀aG,aQ (bytesOf s) c aG->c+I aG<=s.size):=λc ay aG e=>by have:=oX e (by rw[cJ];exact ay);rwa [cJ] at this
 go_enter aE.func131,Tryz.ntmps131;go_wp2_with fail;refine bL (Eb b c s aw ay bo.o) ?_;rintro l a8 ⟨al,⟨cl,rfl,j,G,a1,a3⟩|⟨r,rfl,x⟩⟩;rotate_left
 .have u:X (∀h:ia,p7 a h->¬aQ (bytesOf s) c (gw a h)):=λh j e=>by
   rcases j with rfl|⟨q,-⟩;exact x 0 (aq Y) e;unfold gw at e;rw[if_pos q] at e;exact x 1 (an Y) (dn.1 e).1
  have z:=ap (aJ.o.trans al);go_wp2;exact⟨rfl,z.o,an ⟨r,rfl,u.o⟩⟩
 .have z:=ap (aJ.o.trans al);have Q:X (bD a8 (U f.heap) (js hY) 141):=Kp.block al (kQ f _) aa;rcases j with rfl|rfl;have bx:=ap (LA Q.o);have Z:=ap (World.rangeAt_setCells_same _ _ _ _ bx.o);have⟨⟨bE,bF,bH,bI,bJ,bN,bO⟩,t⟩:=L5 Q.o;have ca:=t 0;have cb:=t 1;have cc:=t 2;have cd:=t 3;have cf:=t 4;have cg:=t 5;have ch:=t 6;have S:X (DK f b c s a (aR (cw (js hY).toList.toArray)) (s4 a8 (U f.heap) 0 (dD (js hY)))):=⟨Kp.FT (aV _) _ _ _ z.o,aq ⟨hY,rfl,aq Y,G,a3,(Ed aa _ _ _).trans a1⟩⟩;go_wp2;exact KE Tryz.results131 Y Y Z.o aE.underlying141 Y bl S.o
  .skip
   skip
   go_upto_region 3 with fail;have bk:X (∀g,g.heap[b]? =K (bR s (c+1))->bn 153 #[(aZ b),z9 a] g λl p=>Kp b g p/\((∃v:az,l=aR (cw (dF v))/\VK a v/\aQ (bytesOf s) (c+1) (cZ a v)/\c+1+I (cZ a v)<=s.size/\p.heap[b]? =K (bR s (c+1+I (cZ a v))))\/(∃r,l=gO (g3 r)/\∀v:az,VK a v->¬aQ (bytesOf s) (c+1) (cZ a v)))):=λg D=>CV a E b (c+1) s g aw a3 D;go_wp2_with fail;refine bL (bk.o _ a1) ?_;rintro l y ⟨am,⟨i,rfl,aF,aC,a4,a2⟩|⟨r,rfl,x⟩⟩;rotate_left
   .have u:X (∀h:ia,p7 a h->¬aQ (bytesOf s) c (gw a h)):=λh j e=>by
     rcases j with rfl|⟨q,w,-⟩;have:=ux G (show aQ (bytesOf s) c [0] from e) Y;simp at this;unfold gw at e;rw[if_pos q] at e;exact x _ w (dn.1 (dn.1 e).2).1
    have J:=ap (z.o.trans am);go_wp2;exact⟨rfl,J.o,an ⟨r,rfl,u.o⟩⟩
   .skip
    obtain⟨k,F⟩:∃k,k=c+1+I (cZ a i):=⟨_,rfl⟩;rw[<-F] at a4 a2;have J:=ap (z.o.trans am);have aH:X (bD y (U f.heap) (js hY) 141):=Kp.block am Q.o aa;have ci:=bC aH.o;have br:X ((y.alloc (ax (dF i) 59)).heap[b]? =K (bR s k)):=by
     show _=_;rw[e6 _ _ b (by omega)];exact a2
    have bm:X (∀g,g.heap[b]? =K (bR s k)->bn 153 #[(aZ b),z9 a] g λl p=>Kp b g p/\((∃v:az,l=aR (cw (dF v))/\VK a v/\aQ (bytesOf s) k (cZ a v)/\k+I (cZ a v)<=s.size/\p.heap[b]? =K (bR s (k+I (cZ a v))))\/(∃r,l=gO (g3 r)/\∀v:az,VK a v->¬aQ (bytesOf s) k (cZ a v)))):=λg D=>CV a E b k s g aw a4 D;go_upto_region 4 with fail;go_wp2_with fail;refine bL (bm.o _ br.o) ?_;rintro l m ⟨O,⟨d,rfl,a7,a6,b1,bZ⟩|⟨r,rfl,x⟩⟩;rotate_left
    .have u:X (∀h:ia,p7 a h->¬aQ (bytesOf s) c (gw a h)):=λh j e=>by
      rcases j with rfl|⟨q,w,C,-⟩;have:=ux G (show aQ (bytesOf s) c [0] from e) Y;simp at this;unfold gw at e;rw[if_pos q] at e;have⟨ao,j⟩:=dn.1 (dn.1 e).2;have:=wE E w aF ao aC;rw[this] at j;refine x _ C ?_;rw[F];exact j
     have T:X (Kp b f m):=(J.o.alloc _).trans O;go_wp2;exact⟨rfl,T.o,an ⟨r,rfl,u.o⟩⟩
    skip
    have T:X (Kp b f m):=(J.o.alloc _).trans O;have bh:X (bD m (U f.heap) (js hY) 141):=Kp.block O (alloc_old (by omega) aH.o) (by omega);have aM:X (bD m (U y.heap) (dF i) 59):=Kp.block O (jY y _) aa;have bv:X (∀h:ia,p7 a h->aQ (bytesOf s) c (gw a h)->h=⟨af,i,d⟩):=λh j e=>by
     rcases j with rfl|⟨q,w,C,-⟩;have:=ux G (show aQ (bytesOf s) c [0] from e) Y;simp at this;unfold gw at e;rw[if_pos q] at e;have⟨ao,j⟩:=dn.1 (dn.1 e).2;have aj:=wE E w aF ao aC;rw[aj,show c+[1].length+I (cZ a i)=k from bA F] at j;have aY:=wE E C a7 j a6;have⟨b7,b4,b5⟩:=h;simp only at q aj aY;subst q aj aY;rfl
    have bs:X (aQ (bytesOf s) c (gw a ⟨af,i,d⟩)):=by
     show aQ _ _ ([1]++(cZ a i++cZ a d));refine dn.2 ⟨G,dn.2 ⟨aC,?_⟩⟩;rw[show c+[1].length+I (cZ a i)=k from bA F];exact a6
    have ck:=bC aM.o;have R:X (∀g,bn 125 #[cw (dF i),cw (dF d)] g λl p=>l=aR (z9 (gp i d))/\aD g p):=λg=>Ev i d g;go_upto_region 5 with fail;have aI:X (Kp b f (m.alloc (ax (dF d) 59))):=T.o.alloc _;have L:X ((m.alloc (ax (dF d) 59)).heap[b]? =K (bR s (k+I (cZ a d)))):=alloc_old (by omega) bZ;have H:X (bD (m.alloc (ax (dF d) 59)) (U f.heap) (js hY) 141):=alloc_old (by omega) bh.o;have A:X (bD (m.alloc (ax (dF d) 59)) (U y.heap) (dF i) 59):=alloc_old (by omega) aM.o;have B:X (bD (m.alloc (ax (dF d) 59)) (U m.heap) (dF d) 59):=jY m _;generalize m.alloc (ax (dF d) 59)=cn at*;generalize U y.heap=M at*;generalize U m.heap=N at*;have⟨a9,ba,bb⟩:=wV A.o;have⟨bc,bd,be⟩:=wV B.o;have bi:X (∀g,g.heap[b]? =K (bR s (k+I (cZ a d)))->bn 97 #[(aZ b)] g λl p=>l=gO (g3 (k+I (cZ a d)))/\Kp b g p):=λg D=>bL (lN b _ s g D) (λl p ⟨w,C⟩=>⟨w,by subst C;exact Kp.refl b _⟩);obtain⟨ae,ar⟩:∃ae,ae=gp i d:=⟨_,rfl⟩;rw[<-ar] at R
    skip
    by_cases a5:0<ae
    .go_upto_region 6 with(go_at_call 125;refine bL (R.o _) ?_;rintro l n ⟨rfl,o⟩;have ab:X (bD n M (dF i) 59):=(cS o M (bC A.o)).trans A.o;have ad:X (bD n N (dF d) 59):=(cS o N (bC B.o)).trans B.o;have P:X (bD n (U f.heap) (js hY) 141):=(cS o _ (bC H.o)).trans H.o;have W:X (n.heap[b]? =K (bR s (k+I (cZ a d)))):=(cS o _ (bC L.o)).trans L.o;have V:=ap (aI.o.trans (Kp.iT o));have⟨a9,ba,bb⟩:=wV ab.o;have⟨bc,bd,be⟩:=wV ad.o);go_wp2_with fail;refine bL (bi.o _ W.o) ?_;rintro l co ⟨rfl,bY⟩;have u:X (∀h:ia,p7 a h->¬aQ (bytesOf s) c (gw a h)):=λh j e=>by
      have b0:=bv.o h j e;subst b0;rcases j with bP|⟨-,-,-,bV⟩;simp[hY] at bP;exact bV (by rw[ar] at a5;exact a5)
     have bj:=ap (V.o.trans bY);go_wp2;exact⟨rfl,bj.o,an ⟨_,rfl,u.o⟩⟩
    go_upto_region 7 with(go_at_call 125;refine bL (R.o _) ?_;rintro l n ⟨rfl,o⟩;have ab:X (bD n M (dF i) 59):=(cS o M (bC A.o)).trans A.o;have ad:X (bD n N (dF d) 59):=(cS o N (bC B.o)).trans B.o;have P:X (bD n (U f.heap) (js hY) 141):=(cS o _ (bC H.o)).trans H.o;have W:X (n.heap[b]? =K (bR s (k+I (cZ a d)))):=(cS o _ (bC L.o)).trans L.o;have V:=ap (aI.o.trans (Kp.iT o));have⟨a9,ba,bb⟩:=wV ab.o;have⟨bc,bd,be⟩:=wV ad.o);have⟨⟨bE,bF,bH,bI,bJ,bN,bO⟩,t⟩:=L5 P.o;have bu:X (n.there (U f.heap) 0 (js ⟨af,i,d⟩).size):=(show n.there (U f.heap) 0 7 from LA P.o);have Z:=ap (World.rangeAt_setCells_same _ _ _ _ bu.o);have aL:X (c+I (gw a ⟨af,i,d⟩)=k+I (cZ a d)):=by
     show c+I ([1]++(cZ a i++cZ a d))=_;have:=F;simp only[cN,rB];omega
    have S:X (DK f b c s a (aR (cw (js ⟨af,i,d⟩).toList.toArray)) (s4 n (U f.heap) 0 (dD (js ⟨af,i,d⟩)))):=⟨Kp.FT (aV _) _ _ _ V.o,aq ⟨⟨af,i,d⟩,rfl,an ⟨rfl,aF,a7,by rw[<-ar];omega⟩,bs.o,by rw[aL.o];exact b1,(Ed aa _ _ _).trans (by rw[aL.o];exact W.o)⟩⟩;go_wp2;exact KE Tryz.results131 Y Y Z.o aE.underlying141 Y bl S.o
def Za{s:ByteArray}(E:s.size<=65536):bn 98 #[au s] w λd z=>d=aR (au s)/\aD w z:=by
 by_cases h:s.size=0
 .obtain rfl:s=⟨#[]⟩:=Au (Array.eq_empty_of_size_eq_zero h);go_enter aE.func98,Tryz.ntmps98;go_wp2;go_ret;exact⟨rfl,bU _ _⟩
 .have⟨k,q,v,x,G⟩:=eU aE.EZ;have t:((aM av).info? 5).map (·.size)=K 1:=by rfl
  have o:rj (aM av) 5=1:=by rfl
  obtain⟨a,e⟩:∃a,a=px (bt .u8 0).cells (bS ((s.size:Nat):Int)*k.size):=⟨_,rfl⟩;have A:a.size=s.size:=by rw[e,size_madeCells,x];simp
  have D:∀c:ag,(yP 133 (n9 s.size) (n9 s.size)).run (aM av) c=b6 (aI (U c.heap) s.size s.size) (c.alloc (ax a 5)):=λc=>by
   have g:=run_make (P:=(aM av)) c 133 5 k (bt .u8 0) aE.underlying133 q v bM bM (s.size:Int) (s.size:Int) aa aa bh aa;rw[<-e] at g;simpa using g
  clear e;have p:=Lib.run_copy_row_string (P:=(aM av)) (w.alloc (ax a 5)) 133 9 3 5 (U w.heap) 0 s.size s.size s a 5 aE.underlying133 t (kQ w _) (aV _) aa;obtain⟨b,f⟩:∃b,b=cX (a.toList.take 0++Lib.byteCells (dD s.data)++a.toList.drop (0+s.size)):=⟨_,rfl⟩;rw[<-f] at p;have i:dD b=Lib.byteCells (dD s.data):=by
   rw[f,List.toList_toArray,List.take_zero,tW,yY bh,oH]
  have B:b.size=s.size:=by rw[<-Array.length_toList,i,Lib.byteCells_length,<-uH]
  have j:bD ((w.alloc (ax a 5)).setRow (U w.heap) b) (U w.heap) b 5:=setRow_heap _ _ a _ 5 (0,0) (kQ w _);have r:dD s.data≠[]:=λd=>h (by rw[uH,d];rfl);have l:=Lib.run_unsafeString_row (P:=(aM av)) ((w.alloc (ax a 5)).setRow (U w.heap) b) 206 3 9 5 aE.underlying206 o (U w.heap) b.size (by unfold World.shape?;rw[j]) (dD s.data) r (by rw[<-uH];omega) (by rw[<-uH];omega)
   (λy H u=>Lib.cells_of_row j b.size y _ (by rw[ja aF,i];simp[Lib.byteCells,u]))
  rw[<-uH] at l;clear f;go_enter aE.func98,Tryz.ntmps98;go_wp2;go_ret;have m:aD w (w.alloc (ax a 5)):=(bU _ w).alloc (aV _) _;have n:dw (U w.heap) (w.alloc (ax a 5)) ((w.alloc (ax a 5)).setRow (U w.heap) b):=⟨rfl,rfl,rfl,aF,λF C=>setRow_other _ _ _ _ aa⟩;exact⟨rfl,Lib.below_freeze (fJ m n) (p:=⟨U w.heap,0,Z⟩) (aV _) _⟩
def ID(s:ByteArray)(b:ag)(e:s.size<=65536):bn 66 #[au s] b λa c=>a=aR (au s)/\aD b c:=by
 go_enter aE.func66,Tryz.ntmps66;go_wp2_with fail;refine bL (Za e) ?_;rintro a c ⟨rfl,d⟩;go_wp2;go_ret;exact⟨rfl,d⟩
def Io(b a:Nat)(s:ByteArray)(i:bf s<=aS)(j:a<=bf s)(h:w.heap[b]? =K (bR s a)):
 bn 129 #[(aZ b)] w λd g=>Kp b w g/\((∃c:Nat,d=aR (bt .u8 (c:Int))/\c<256/\aQ (bytesOf s) a [c]/\a+1<=bf s/\g.heap[b]? =K (bR s (a+1)))\/
  (∃l,d=gO (g3 l)/\∀c:Nat,¬aQ (bytesOf s) a [c])):=by
 by_cases e:a<bf s;refine bL (BU b a s w i e h) ?_;rintro d g ⟨rfl,f,rfl⟩;exact⟨(Kp.refl b w).set 1 _ f,aq ⟨_,rfl,s[a].toNat_lt,mW.2 (uT s a e),e,vn h f⟩⟩
 .refine bL (BT b a s i e j h) ?_;rintro d g ⟨rfl,f,rfl⟩;refine⟨(Kp.refl b w).drewN f,an ⟨_,rfl,λc k=>?_⟩⟩;have:=oX k (by rw[cJ];exact j);rw[cJ] at this;simp at this;omega
def M3(b c a:Nat)(s:ByteArray)(k:bf s<=aS)(l:c<=bf s)(n:a<=2147483648)(g:w.heap[b]? =K (bR s c)):
 bn 128 #[(aZ b),n9 a] w λd f=>Kp b w f/\((∃i:ByteArray,d=aR (au i)/\bf i=a/\aQ (bytesOf s) c (bytesOf i)/\c+a<=bf s/\f.heap[b]? =K (bR s (c+a)))\/
  (∃o,d=gO (g3 o)/\∀j:List Nat,I j=a->¬aQ (bytesOf s) c j)):=by
 by_cases h:c+a<=bf s
 .refine bL (M2 b a s w k h g) ?_;rintro d f ⟨rfl,e,rfl⟩;refine⟨(Kp.refl b w).set 1 _ e,aq ⟨_,rfl,k8,?_,h,vn g e⟩⟩;rw[m9];exact List.take_prefix _ _
 .refine bL (M1 b a s k n h l g) ?_;rintro d f ⟨rfl,e,rfl⟩;refine⟨(Kp.refl b w).drewN e,an ⟨_,rfl,λj p m=>?_⟩⟩;have:=oX m (by rw[cJ];exact l);rw[cJ] at this;omega
def SB{e j:Type}{f c:e->List j}{a:List e}(d:∀b∈a,f b=c b):a.flatMap f=a.flatMap c:=by
 induction a with
 |nil=>rfl
 |cons b k h=>rw[lD,lD,d b aF,h (λi g=>d i (by simp[g]))]
def nY {c:Type}(d:Nat->c->Prop)(b:List c):Prop:=∀a (e:a<I b),d a b[a]
def nY.snoc{e:Type}{d:Nat->e->Prop}{a:List e}{f:e}(g:nY d a)(hx:d (I a) f):nY d (a++[f]):=by
 intro c h;rcases ij c (I a) with b|b;rw[List.getElem_append_left b];exact g c b;have:c=I a:=by simp at h;omega
 subst this;simpa using hx
def nY.at{b:Type}{c:Nat->b->Prop}{a f:List b}{d:b}(e:nY c (a++d::f)):c (I a) d:=by
 have:=e (I a) aF;simpa using this
structure Q2{α:Type}(E G:List α->List Nat)(ok:Nat->α->Prop)(B:List Nat)(p:Nat)(C:List Nat)(q cn:Nat)(l:List α):Prop where
 le:I l<=cn
 x7:nY ok l
 st:aQ B p (E l)
 sc:aQ C q (G l)
 mj:∀L:List α,I L=cn->nY ok L->aQ B p (E L)->aQ C q (G L)->∃m,L=l++m
def Q2.zero{b:Type}{a G:List b->List Nat}{g:Nat->b->Prop}(d:a []=[])(e:G []=[]):Q2 a G g l n L m k []:=
 ⟨cE _,λh f=>by simp at f,b5 d BA,b5 e BA,λc _ _ _ _=>⟨c,rfl⟩⟩
def Q2.next{e:Type}{f G:List e->List Nat}{j:Nat->e->Prop}{o p:List e->e->List Nat}{a:List e}(t:Q2 f G j l n L k i a)(q:∀a b,f (a++[b])=f a++o a b)(r:∀a b,G (a++[b])=G a++p a b)(w:I a<i)
 (d:List e) (hL:I d=i) (s:nY j d) (h:aQ l n (f d)) (g:aQ L k (G d)):∃b m,d=(a++[b])++m/\j (I a) b/\aQ l (n+I (f a)) (o a b)/\aQ L (k+I (G a)) (p a b):=by
 obtain⟨m,rfl⟩:=t.mj d hL s h g;cases m with
 |nil=>simp at hL;omega
 |cons b c=>
  have⟨x,u⟩:=GM q (a++[b]) c;have⟨y,v⟩:=GM r (a++[b]) c;refine⟨b,c,by simp,s.at,?_,?_⟩;rw[show a++b::c=a++[b]++c by simp,u,q,iD,dn,dn] at h;exact h.2.1;rw[show a++b::c=a++[b]++c by simp,v,r,iD,dn,dn] at g;exact g.2.1
def Q2.more{f:Type}{c G:List f->List Nat}{j:Nat->f->Prop}{e g:List f->f->List Nat}{a:List f}(h:Q2 c G j l n L k i a)(p:∀a b,c (a++[b])=c a++e a b)(q:∀a b,G (a++[b])=G a++g a b)(y:I a<i)
 {b:f} (hx:j (I a) b) (A:aQ l (n+I (c a)) (e a b)) (w:aQ L (k+I (G a)) (g a b)) (C:∀d,j (I a) d->aQ l (n+I (c a)) (e a d)->aQ L (k+I (G a)) (g a d)->d=b):Q2 c G j l n L k i (a++[b]):=by
 refine⟨bO,h.x7.snoc hx,by rw[p,dn];exact⟨h.st,A⟩,by rw[q,dn];exact⟨h.sc,w⟩,?_⟩;intro r v z B x;have⟨d,m,o,s,t,u⟩:=h.next p q y r v z B x;rw[C d s t u] at o;exact⟨m,o⟩
def Q2.fail{b:Type}{c G:List b->List Nat}{j:Nat->b->Prop}{e g:List b->b->List Nat}{a:List b}(o:Q2 c G j l n L k i a)(s:∀a f,c (a++[f])=c a++e a f)(t:∀a f,G (a++[f])=G a++g a f)(v:I a<i)
 (y:∀h,j (I a) h->aQ l (n+I (c a)) (e a h)->¬aQ L (k+I (G a)) (g a h)) (d:List b) (hL:I d=i) (w:nY j d) (x:aQ l n (c d)):¬aQ L k (G d):=by
 intro u;have⟨h,m,z,p,q,r⟩:=o.next s t v d hL w x u;exact y h p q r
def Q2.done{c:Type}{d G:List c->List Nat}{g:Nat->c->Prop}{b:List c}(e:Q2 d G g l n L k i b)(q:¬I b<i):
 I b=i/\(∀a:List c,I a=i->nY g a->aQ l n (d a)->aQ L k (G a)->a=b):=by
 have o:I b=i:=cB e.le;refine⟨o,?_⟩;intro a f h p j;obtain⟨m,rfl⟩:=e.mj a f h p j;rw[cN] at f;have:m=[]:=xm.1 aa;rw[this];simp
structure eL(r q:Nat)(w w':ag):Prop where
 os:w'.os=w.os
 tape:dV w'=dV w
 output:fS w'=fS w
 size:U w.heap<=U w'.heap
 block:∀i,i<U w.heap->i≠r->i≠q->w'.heap[i]? =w.heap[i]?
def eL.refl(c b:Nat)(a:ag):eL c b a a:=⟨rfl,rfl,rfl,aV _,λ_ _ _ _=>rfl⟩
def eL.trans(a:eL n m w u)(b:eL n m u W):eL n m w W:=
 ⟨aB b.os a.os,aB b.tape a.tape,aB b.output a.output,dj a.size b.size,λf e c d=>aB (b.block f (cL e a.size) c d) (a.block f e c d)⟩
def eL.sD(a:Kp n w u):eL n m w u:=⟨a.os,a.tape,a.output,a.size,λe d c _=>dz a e d (λb=>c (by cases b;rfl))⟩
def eL.Kf(a:Kp m w u):eL n m w u:=⟨a.os,a.tape,a.output,a.size,λe d _ c=>dz a e d (λb=>c (by cases b;rfl))⟩
def eL.iT(a:aD w u):eL r q w u:=⟨a.os,a.tape,a.output,a.size,λc b _ _=>cS a c b⟩
def eL.alloc(b:eL n m w u)(a:cj):eL n m w (cD u a):=b.trans (eL.sD (Kp.alloc (Kp.refl n u) a))
def eL.grown(a:eL n m w u)(b:jj u W QX)(i:∀c,QX=K c->U w.heap<=c):eL n m w W:=
 ⟨aB b.os a.os,aB b.tape a.tape,aB b.output a.output,dj a.size b.size,λe d f g=>aB (b.block e (cL d a.size) (λh=>bh)) (a.block e d f g)⟩
def eL.keep(d:eL n m w u)(a:w.heap[k]? =K Qk)(b:k≠n)(c:k≠m):u.heap[k]? =K Qk:=by
 rw[d.block k (bC a) b c];exact a
def eL.own(o:eL n m w u)(c:aT w k i j v a S)(q:n<k)(p:m<k):aT u k i j v a S:=by
 refine⟨c.1,?_⟩;rcases c.2 with h|⟨b,e,f,rfl,g,d,l⟩;exact aq h;refine an ⟨b,e,f,rfl,g,?_,l⟩;rw[o.block b (bC d) aa aa];exact d
def sv (b:List bF)(c:List fc)(a:fc):List Nat:=bc (bf a.text)++gw (aX b (I c) ⟨⟨#[]⟩,0⟩).kind a.bV
def sw (b:List bF)(a:List fc):List Nat:=ul b a (I a)
def Et(b:List bF)(a:List fc)(c:fc):sw b (a++[c])=sw b a++sv b a c:=by
 unfold sw;rw[cN,rB,Vx];have d:ul b (a++[c]) (I a)=ul b a (I a):=by
  unfold ul;refine SB (λg f=>?_);unfold x9;rw[ep,ru (n6.1 f),<-ep]
 have e:x9 b (a++[c]) (I a)=sv b a c:=by
  unfold x9 sv;rw[ep (l:=a++[c]),pG (aV _)];simp
 rw[d,e]
structure w6(cs:List bF)(i:Nat)(c:fc):Prop where
 n:bf c.text<2147483648
 b:p7 (aX cs i ⟨⟨#[]⟩,0⟩).kind c.bV
structure lT(cs:List bF)(b:Bd):Prop where
 lo:1<=b.rows
 hi:b.rows<=100
 len:I b.chunks=I cs
 each:nY (w6 cs) b.chunks
def Pb(m:M=1\/M=2\/M=3){b c:ia}(e:p7 M b)(f:p7 M c)(d:aQ l n (gw M b))(a:aQ l n (gw M c)):b=c:=by
 have o:∀{b c:ia},b=hY->c.there=af->aQ l n (gw M b)->aQ l n (gw M c)->False:=by
  rintro b c rfl x d a;unfold gw at a;rw[if_pos x] at a;have:=ux (show aQ l n [0] from d) (dn.1 a).1 Y;simp at this
 rcases e with e|⟨g,s,u,y⟩<;>rcases f with f|⟨h,t,w,z⟩;rw[e,f];exact fe (o e h d a);exact fe (o f g a d);unfold gw at d a;rw[if_pos g] at d;rw[if_pos h] at a;have⟨p,j⟩:=dn.1 (dn.1 d).2;have⟨q,r⟩:=dn.1 (dn.1 a).2;have i:=wE m s t p q;rw[i] at j;have k:=wE m u w j r;have⟨A,C,v⟩:=b;have⟨B,D,E⟩:=c;simp only at g h i k;rw[g,h,i,k]
def PW{a:List bF}{b:List fc}(s:(aX a (I b) ⟨⟨#[]⟩,0⟩).kind=1\/(aX a (I b) ⟨⟨#[]⟩,0⟩).kind=2\/(aX a (I b) ⟨⟨#[]⟩,0⟩).kind=3){c d:fc}(hx:w6 a (I b) c)(hy:w6 a (I b) d)(i:aQ l n (sv a b c))(j:aQ l n (sv a b d))(q:aQ L m (bytesOf c.text))(r:aQ L m (bytesOf d.text)):d=c:=by
 unfold sv at i j;have⟨k,o⟩:=dn.1 i;have⟨p,e⟩:=dn.1 j;have f:=jS (cB hy.n) (cB hx.n) p k;rw[f] at e;have g:=Pb s hy.b hx.b e o;have h:=xG (ux r q (by rw[cJ,cJ,f]));have⟨t,v⟩:=c;have⟨u,w⟩:=d;simp only at g h;rw[g,h]
def o7.gC{b:List bF}(a:aT w n 63 2 v (I b) (kX b)):o7 w v b:=by
 rcases a.2 with⟨rfl,i⟩|⟨e,h,k,rfl,l,p,j,m,o,q⟩;have:b=[]:=tU i;subst this;exact⟨Z,0,0,0,rfl,aV _,⟨λa=>by simp at a,λa=>by simp at a,λd a=>by simp at a,λd a=>by simp at a⟩⟩;have g:=a.cells (g:=e) Y;refine⟨K ⟨e,0,Z⟩,e,0,h,rfl,j,⟨λ_=>rfl,λ_=>(a.lt e Y).2,λd f=>?_,λd f=>?_⟩⟩;have:=g _ _ (pO (λc:bF=>[au c.name,bt bM c.kind]) 2 (λ_=>rfl) b d f 0 _ Y);simpa [lU] using this;have:=g _ _ (pO (λc:bF=>[au c.name,bt bM c.kind]) 2 (λ_=>rfl) b d f 1 _ Y);simpa [lU] using this
def gK (b:List Bd):Nat:=(b.map λa=>a.rows).sum
def XZ{b:List Bd}{a:Bd}:gK (b++[a])=gK b+a.rows:=by simp[gK]
def X3{a:List Bd}(b:n<I a):gK (a.take (n+1))=gK (a.take n)+a[n].rows:=by
 rw[gh b,XZ]
def LB(a:List Bd)(c:∀b∈a,b.rows<=100):gK a<=I a*100:=by
 induction a with
 |nil=>simp[gK]
 |cons b i f=>
  have h:=c b (by simp);have d:=f (λg e=>c g (by simp[e]));simp[gK] at d ⊢;omega
def Gr(a:List Bd)(c:∀b∈a,1<=b.rows):I a<=gK a:=by
 induction a with
 |nil=>simp[gK]
 |cons b i f=>
  have h:=c b (by simp);have d:=f (λg e=>c g (by simp[e]));simp[gK] at d ⊢;omega
def Ym{P:aW}(b:ag)(h y z i:aK)(d c f n:Nat)(e:aN)(g x s:Nat)(m:aK)(a:List F)(k:nL)
 (w:gb P h=K (.slice i)) (q:P.info? i=K k) (t:k.size=s) (p:b.heap[d]? =K (ax C m (0,0))) (r:I a=Nat.min g f*s)
 (u:∀l v,a[l]? =K v->aA b (e.add l)=K v) (A:c+I a<=C.size) (o:∀v∈a,nM v=af):
 (tO #[h,y] z #[.slice (K ⟨d,c,Z⟩) f n,.slice (K e) g x]).run P b=b6 (goInt (Nat.min g f)) (b.setRow d (cX (C.toList.take c++a++C.toList.drop (c+I a)))):=by
 have j:=run_loadCells_list (P:=P) b e a u;rw[r] at j;simp[tO,uL w,vF,vE,sizeOf,typeInfo,q,t,j,(run_storeCells_at P d c m a 0 C b p aa o)]
def Yn{P:aW}{a j l b:aK}{h:nL}(g:gb P a=K (.slice b))(d:P.info? b=K h)(f:Nat.min k n=0):
 (tO #[a,j] l #[.slice O n m,.slice QC k i]).run P w=b6 (goInt 0) w:=by
 have e:∀(c:aN),(loadCells c 0).run P w=b6 #[] w:=λc=>by rfl
 cases O<;>cases QC<;>simp[tO,uL g,vF,vE,sizeOf,typeInfo,d,f,storeCells,e]
def zeroV:az:=⟨ai,0,⟨#[]⟩⟩
def aaD{b:List az}:∀(a:Nat) (v:az),a<I b->(((bZ b).set (a*3) (ak v.null)).set (a*3+1) (z9 v.n)).set (a*3+2) (au v.s)=bZ (b.set a v):=by
 induction b with
 |nil=>intro a v c;simp at c
 |cons f e d=>
  intro a v c;cases a with
  |zero=>simp[Dw]
  |succ a=>
   have:=d a v (by simpa using c);rw[cr,Dw,Dw,<-this,show(a+1)*3=a*3+1+1+1 by omega];simp[cr]
def Iz{a b:List bF}:kX (a++b)=kX a++kX b:=by simp[kX]
def BW(b:List bF)(a:Nat)(c:a<I b):(kX b)[a*2]? =K (au b[a].name)/\(kX b)[a*2+1]? =K (bt bM b[a].kind):=
 ⟨pO _ 2 (λ_=>rfl) b a c 0 _ Y,pO _ 2 (λ_=>rfl) b a c 1 _ Y⟩
def aE.JG:((aM av).info? 63).map (λa=>(jL a,a.size,ji a))=K (K (cw #[au ⟨#[]⟩,z9 0]),2,24):=bl
def aE.JF:((aM av).info? 43).map (λa=>(jL a,a.size,ji a))=K (K aH,1,24):=bl
def lP (a:bF×Int):List Nat:=bc (bf a.1.name)++(bytesOf a.1.name++[byteOf a.1.kind,byteOf a.2])
def iI (a:List (bF×Int)):List Nat:=a.flatMap lP
def CG(a:List (bF×Int))(b:bF×Int):iI (a++[b])=iI a++lP b:=by
 unfold iI;rw[oI,pF]
def Vy(a:bF×Int):1<=I (lP a):=by unfold lP;simp;omega
def VB(a:List (bF×Int)):I a<=I (iI a):=by
 induction a with
 |nil=>simp
 |cons c d b=>
  have:=Vy c;unfold iI at b ⊢;rw[lD,cN,pI];omega
structure tc(y:bF×Int):Prop where
 n:bf y.1.name<2147483648
 k0:0<=y.1.kind
 k1:y.1.kind<256
 e0:0<=y.2
 e1:y.2<256
def BR(a:0<=M)(b:M<256):(byteOf M:Int)=M:=by unfold byteOf;omega
def FH{c v:Nat}{a:bF×Int}(hy:tc a)(e:v<2147483648)(d:aQ l c (bc v))(b:aQ l c (lP a)):bf a.1.name=v:=by
 unfold lP at b;exact jS (cB hy.n) aa (dn.1 b).1 d
def FI{b v:Nat}{a:bF×Int}(hy:tc a)(i:v<2147483648)(g:aQ l b (bc v))(hx:bf s=v)(h:aQ l (b+I (bc v)) (bytesOf s))(c:aQ l b (lP a)):a.1.name=s/\aQ l (b+I (bc v)+v) [byteOf a.1.kind,byteOf a.2]:=by
 have d:=FH hy i g c;unfold lP at c;have⟨f,e⟩:=dn.1 (dn.1 c).2;rw[d] at f e;have:=xG (ux f h (by rw[cJ,cJ,d,hx]));rw[cJ,d] at e;exact⟨this,e⟩
def Vz{b v f c:Nat}{a:bF×Int}(hy:tc a)(t:v<2147483648)(o:aQ l b (bc v))(hx:bf s=v)(p:aQ l (b+I (bc v)) (bytesOf s))(q:aQ l (b+I (bc v)+v) [f])(r:aQ l (b+I (bc v)+v+1) [c])(j:aQ l b (lP a)):a=(⟨s,(f:Int)⟩,(c:Int)):=by
 have⟨i,k⟩:=FI hy t o hx p j;have⟨m,n⟩:=uv.1 k;have g:byteOf a.1.kind=f:=by have:=aB m.symm (mW.1 q);simpa using this
 have h:byteOf a.2=c:=by have:=(mW.1 n).symm.trans (mW.1 r);simpa using this
 have d:=BR hy.k0 hy.k1;have e:=BR hy.e0 hy.e1;have⟨⟨x,w⟩,u⟩:=a;simp only at i g h d e;rw[g] at d;rw[h] at e;rw[i,d,e]
def VA{c v b a:Nat}(f:aQ l c (bc v))(hx:bf s=v)(g:aQ l (c+I (bc v)) (bytesOf s))(h:aQ l (c+I (bc v)+v) [b])(i:aQ l (c+I (bc v)+v+1) [a])(j:b<256)(k:a<256):aQ l c (lP (⟨s,(b:Int)⟩,(a:Int)))/\I (lP (⟨s,(b:Int)⟩,(a:Int)))=I (bc v)+v+1+1:=by
 have d:byteOf (b:Int)=b:=by unfold byteOf;omega
 have e:byteOf (a:Int)=a:=by unfold byteOf;omega
 unfold lP;simp only[d,e,hx];refine⟨dn.2 ⟨f,dn.2 ⟨g,?_⟩⟩,by simp[cJ,hx];omega⟩;rw[cJ,hx];exact uv.2 ⟨mW.1 h,i⟩
def kV (a:List (bF×Int)):Prop:=nH (a.map bp)/\rY (a.map bp) (a.map eu)
def kV.each{a:List (bF×Int)}(f:kV a):(∀d∈a,tc d)/\I a<2147483648:=by
 have⟨⟨k,l,g⟩,m,h⟩:=f;refine⟨λd j=>?_,bh⟩;obtain⟨b,i,rfl⟩:=m6 j;have e:=(g b bh).1;have c:=h b bh;simp only[pH,oO,oo,ez,decide_eq_true_eq] at e;rw[show aX (a.map eu) b 0=a[b].2 by simp[i]] at c;simp only[pH,eW,oo,tL,ez,decide_eq_true_eq,beq_iff_eq] at c;exact⟨aa,aa,aa,aa,aa⟩
def kG (a:List (bF×Int)):List Nat:=bc (I a)++iI a
end Ec
namespace Ec
open Go.RowKit Pk
def P1{a b:List UInt8}(c:n<I a)(d:n<I b):mv (a.drop n) (b.drop n)=if a[n]<b[n] then -1 else if b[n]<a[n] then 1 else mv (a.drop (n+1)) (b.drop (n+1)):=by
 rw[pE c,pE d];rfl
def PZ{b a:List UInt8}(f:n<=I b)(g:n<=I a)(e:¬(n<I b/\n<I a)):(mv (b.drop n) (a.drop n)<0)↔I b<I a:=by
 by_cases d:n<I b;have c:I a<=n:=aa;rw[List.drop_eq_nil_of_le c,pE d];simp only[mv];omega;rw[List.drop_eq_nil_of_le aa];by_cases c:n<I a;rw[pE c];simp only[mv];omega;rw[List.drop_eq_nil_of_le (aa:I a<=n)];simp only[mv];omega
def IP{s:ByteArray}:I (dD s.data)=bf s:=by rfl
def IN(s:ByteArray)(a:Nat)(b:a<bf s)(c:a<I (dD s.data)):s.data.toList[a]=s[a]:=by rfl
def AV(a b:az)(d:ag)(hx:a.s.size<=aS)(hy:b.s.size<=aS):
 bn 72 #[cw #[ak a.null,z9 a.n,au a.s],cw #[ak b.null,z9 b.n,au b.s]] d λv F=>v=aR (ak (decide (gp a b<0)))/\dw (U d.heap) d F:=by
 unfold aS at hx hy;have k:dw (U d.heap) d (cD (cD d (ax #[ak a.null,z9 a.n,au a.s] 59)) (ax #[ak b.null,z9 b.n,au b.s] 59)):=BQ;by_cases l:a.n=b.n
 .have A:(a.n !=b.n)=ai:=by simp[l]
  have g:X (gp a b=mv (a.s.data.toList.drop 0) (b.s.data.toList.drop 0)):=by
   show gp a b=_;unfold gp;rw[if_neg aa,if_neg aa,s5,s5]
  clear l;go_enter aE.func72,Tryz.ntmps72;go_upto_region 1 with fail;have z:=Il d a b;generalize cD (cD d (ax #[ak a.null,z9 a.n,au a.s] 59)) (ax #[ak b.null,z9 b.n,au b.s] 59)=u at*;obtain⟨L,M,N,O⟩:=z;have s:=ap k;clear k;generalize U d.heap+1=x at*;generalize D:U d.heap=w at*
  skip
  go_wp2_with fail
  go_loopw [5] (λn wr=>∃c:Nat,c<=a.s.size/\c<=b.s.size/\n=n9 c/\gp a b=mv (a.s.data.toList.drop c) (b.s.data.toList.drop c)/\∃h,wr=cT u h) (λn _=>a.s.size-(bw n).toNat)
  exact⟨0,cE _,cE _,rfl,g.o,0,rfl⟩
  rename ag=>wr
  obtain⟨c,I,J,rfl,q,h,m⟩:=hrel;have t:=ap m;have P:aA wr ⟨w,2,Z⟩=K (au a.s):=k8;have Q:aA wr ⟨x,2,Z⟩=K (au b.s):=k8;have i:X (dw (U d.heap) d wr):=by
   show dw (U d.heap) d wr;rw[D,m];exact below_drewN s.o h
  clear m g;by_cases E:c<a.s.size/\c<b.s.size
  .have⟨r,G⟩:=E;have p:decide ((c:Int)<(a.s.size:Int))=af:=bO;have B:decide ((c:Int)<(b.s.size:Int))=af:=bO;have o:X (gp a b=if a.s[c]<b.s[c] then -1 else if b.s[c]<a.s[c] then 1 else mv (a.s.data.toList.drop (c+1)) (b.s.data.toList.drop (c+1))):=by
    show gp a b=_;rw[q,P1 (by simp_all) k8,IN a.s c r,IN b.s c G]
   skip
   by_cases j:a.s[c]=b.s[c]
   .have C:(((a.s[c].toNat:Nat):Int) !=((b.s[c].toNat:Nat):Int))=ai:=by rw[j];simp
    have f:X (gp a b=mv (a.s.data.toList.drop (c+1)) (b.s.data.toList.drop (c+1))):=by
     show gp a b=_;rw[o.o,j,if_neg (by rw[UInt8.lt_iff_toNat_lt];omega),if_neg (by rw[UInt8.lt_iff_toNat_lt];omega)]
    go_wp2_with fail;go_quiet (fail);go_wp2
    go_roundw
    case rel=>exact⟨c+1,aa,aa,by go_num,f.o,h+nq,by rw[t.o];exact r5 _ _ _⟩
    case measure=>simp[bw];omega
   have H:a.s[c].toNat≠b.s[c].toNat:=λy=>j (UInt8.toNat_inj.1 y);have C:(((a.s[c].toNat:Nat):Int) !=((b.s[c].toNat:Nat):Int))=af:=bO;have f:X (gp a b<0↔((a.s[c].toNat:Nat):Int)<((b.s[c].toNat:Nat):Int)):=by
    show _↔_;rw[o.o];by_cases e:a.s[c]<b.s[c];rw[if_pos e];rw[UInt8.lt_iff_toNat_lt] at e;constructor<;>intro _<;>omega;rw[if_neg e];rw[UInt8.lt_iff_toNat_lt] at e;rw[if_pos (by rw[UInt8.lt_iff_toNat_lt];omega)];constructor<;>intro _<;>omega
   go_wp2_with fail;go_quiet (fail);go_wp2_with fail;go_quiet (fail);go_wp2;go_ret;refine⟨tD ?_,below_drewN (below_drewN i.o _) _⟩;rw[rX];simp only[decide_eq_true_eq];rw[f.o];omega
  have f:X (gp a b<0↔(a.s.size:Int)<(b.s.size:Int)):=by
   show _↔_;rw[q,PZ k8 k8 (by simp_all),IP,IP];omega
  skip
  by_cases r:c<a.s.size;have p:decide (c<a.s.size)=af:=bO;have B:decide (c<b.s.size)=ai:=bO;go_wp2;go_ret;refine⟨tD ?_,i.o⟩;rw[rX];simp only[decide_eq_true_eq];rw[f.o];omega;have p:decide (c<a.s.size)=ai:=bO;go_wp2;go_ret;refine⟨tD ?_,i.o⟩;rw[rX];simp only[decide_eq_true_eq];rw[f.o];omega
 .have A:(a.n !=b.n)=af:=by simp[l]
  have g:X (gp a b<0↔a.n<b.n):=by
   show _↔_;unfold gp;by_cases e:a.n<b.n;rw[if_pos e];constructor<;>intro _<;>omega;rw[if_neg e,if_pos aa];constructor<;>intro _<;>omega
  go_enter aE.func72,Tryz.ntmps72;go_wp2;go_ret;refine⟨tD ?_,k⟩;rw[rX];simp only[decide_eq_true_eq];exact g.o.symm
end Ec
namespace Ec
open Go.RowKit Pk Pm
def UE:Array F:= #[z9 0,ak ai,ak ai,z9 0,au ⟨#[]⟩,ak ai,z9 0,au ⟨#[]⟩,au ⟨#[]⟩]
structure e8 where
 size:Nat
 bV:ia
 text:ByteArray
structure c9 where
 rows:Nat
 parts:List e8
def uj:e8:=⟨0,hY,⟨#[]⟩⟩
def eN (a:e8):List F:=[n9 a.size,ak a.bV.there,ak a.bV.least.null,z9 a.bV.least.n,au a.bV.least.s,ak a.bV.most.null,z9 a.bV.most.n,au a.bV.most.s,au a.text]
def Bn(a:e8):I (eN a)=9:=rfl
def ir (a:c9×F):List F:=[n9 a.1.rows,a.2]
def B4(a:c9×F):I (ir a)=2:=rfl
def vj (c:List bF)(b:List e8)(a:Nat):List Nat:=bc (aX b a uj).size++gw (aX c a ⟨⟨#[]⟩,0⟩).kind (aX b a uj).bV
def mg (a:List bF)(b:List e8)(c:Nat):List Nat:=(eH c).flatMap (vj a b)
def KH{a:List bF}{b:List e8}:mg a b (n+1)=mg a b n++vj a b n:=by
 unfold mg;rw[List.range_succ,oI,pF]
def ur (b:List bF)(a:c9):List Nat:=bc a.rows++mg b a.parts (I a.parts)
def gU (b:List bF)(a:List c9):List Nat:=a.flatMap (ur b)
def W0(c:List bF)(a:List c9)(b:Nat)(d:b<I a):gU c (a.take (b+1))=gU c (a.take b)++ur c a[b]:=by
 unfold gU;rw[gh d,oI,pF]
def zF (a:List bF)(c:List Int)(b:List c9):List Nat:=bc (I a)++(ng a c (I a)++(bc (I b)++gU a b))
structure xy(n:Nat)(b:c9):Prop where
 rows:b.rows<2147483648
 len:I b.parts=n
 size:∀c∈b.parts,c.size<2147483648
 least:∀c∈b.parts,jb c.bV.least
 most:∀c∈b.parts,jb c.bV.most
def VL{a:List e8}(b:n<I a):aX a n uj∈a:=by
 rw[ep,dH b];exact c8 b
def VI{a:c9}(c:xy n a)(b:List bF)(e:m<I a.parts):I (vj b a.parts m)<=95:=by
 have d:=VL e;have f:=sQ (aX a.parts m uj).size;have g:=Pa (aX b m ⟨⟨#[]⟩,0⟩).kind (aX a.parts m uj).bV (c.least _ d).sz (c.most _ d).sz;unfold vj;rw[cN];omega
def KG{a:c9}(d:xy n a)(c:List bF)(b:Nat)(f:b<=I a.parts):I (mg c a.parts b)<=b*95:=by
 have:=ER (vj c a.parts) 95 (eH b) (λg e=>VI d c (by have:=n6.1 e;omega));simpa [mg] using this
def WX{a:c9}(c:xy n a)(g:n<=8)(b:List bF):I (ur b a)<=770:=by
 have d:=KG c b (I a.parts) (aV _);have e:=sQ a.rows;have f:=c.len;unfold ur;rw[cN];omega
def WZ{bs:List c9}(c:∀a∈bs,xy n a)(e:n<=8)(b:List bF):I (gU b bs)<=I bs*770:=
 ER (ur b) 770 bs (λa d=>WX (c a d) e b)
def Og (c:ag)(e:F)(d:List c9):Prop:=∃a:List (c9×F),a.map bp=d/\vD c ir 2 e a/\∀b∈a,vD c eN 9 b.2 b.1.parts
def SF(a:w.heap[n]? =K (ax #[v,x,y,z] Qc (0,0))):aA w ⟨n,0,Z⟩=K v/\aA w ⟨n,1,Z⟩=K x/\aA w ⟨n,2,Z⟩=K y/\aA w ⟨n,3,Z⟩=K z:=by
 exact⟨by simp[aA,a],by simp[aA,a],by simp[aA,a],by simp[aA,a]⟩
def KF{b:e8}(a:w.heap[n]? =K (ax (cX (eN b)) Qc (0,0))):
 aA w ⟨n,0,Z⟩=K (bt bM (b.size:Int))/\aA w ⟨n,1,Z⟩=K (ak b.bV.there)/\aA w ⟨n,2,Z⟩=K (ak b.bV.least.null)/\aA w ⟨n,3,Z⟩=K (bt bM b.bV.least.n)/\aA w ⟨n,4,Z⟩=K (au b.bV.least.s)/\
  aA w ⟨n,5,Z⟩=K (ak b.bV.most.null)/\aA w ⟨n,6,Z⟩=K (bt bM b.bV.most.n)/\aA w ⟨n,7,Z⟩=K (au b.bV.most.s)/\aA w ⟨n,8,Z⟩=K (au b.text):=by
 unfold eN at a;exact⟨by simp[aA,a],by simp[aA,a],by simp[aA,a],by simp[aA,a],by simp[aA,a],by simp[aA,a],by simp[aA,a],by simp[aA,a],by simp[aA,a]⟩
def Rs(b:aJ w n 0 (bt .u8 (m:Int)))(c:aJ w n 1 (bt .u8 (k:Int))):
 (convert 133 9 (aI n 2 2)).run (aM av) w=b6 (au (strOf [m,k])) w:=
 run_convert_bytes_arg w 133 5 aE.underlying133 aE.underlying5 n 0 2 2 [(m:Int),(k:Int)] Y (λa d=>by
  have:a=0\/a=1:=by omega
  rcases this with rfl|rfl;simpa using b;simpa using c) 9 aE.underlying9
def Ic(a:aD w.drew u):aD w u:=(bU (U w.heap) w).drew.trans a
def BO(a:dw ((cD w (ax #[v,x] Qc)).drew).heap.size (cD w (ax #[v,x] Qc)).drew u):aJ u (U w.heap) 0 v/\aJ u (U w.heap) 1 x:=by
 have:=wU (jY w (ax #[v,x] Qc));exact⟨aB (bq a (p:=⟨U w.heap,0,Z⟩) (by simp)) this.1,aB (bq a (p:=⟨U w.heap,1,Z⟩) (by simp)) this.2⟩
def OB(a:dw (cD w (ax #[v] Qc)).heap.size (cD w (ax #[v] Qc)) u):aJ u (U w.heap) 0 v:=
 aB (bq a (p:=⟨U w.heap,0,Z⟩) (by simp)) (by simp)
def OC(b:aD w u)(a:aJ w n 0 v):aJ u n 0 v:=
 aB (bq b (p:=⟨n,0,Z⟩) (World.block_lt_of_cell? w _ a)) a
def SD(b:List bF)(t:List Int)(n:List c9)(q:Nat)(p:ag)(e3:I b<=8)(dB:I t=I b)(cp:∀j∈b,j.name.size<=16)(dE:∀j∈b,j.kind=1\/j.kind=2\/j.kind=3)(fX:I n<=2000)(dt:∀k∈n,xy (I b) k)
 (cn:p.heap[q]? =K (ax #[v,x,y,z] 113 (0,0))) (e8:o7 p v b) (fa:iC p x t) (e1:Og p y n):
 bn 105 #[(aZ q)] p λu N=>u=aR (au (strOf (zF b t n)))/\aD p N:=by
 have⟨B,cg,fd,dm⟩:=e1;obtain⟨df,a7,bl,eo,rfl,a9⟩:=fd;obtain⟨dg,o,bN,bH,rfl,fY,ao⟩:=e8;obtain⟨dl,A,C,az,rfl,dv,dy,dA⟩:=fa;have bs:X (uD p dg o bN b):=ao;have c1:X (0<I t->dl=K ⟨A,C,Z⟩):=dv;have b3:X (0<I t->A<U p.heap):=dy;have c2:X (∀cu,cu<I t->aA p ⟨A,C+cu,Z⟩=K (bt bM (aX t cu 0))):=dA;have d9:X (I t=I b):=dB;have b5:X (∀j∈b,j.name.size<=16):=cp;have ec:X (∀j∈b,j.kind=1\/j.kind=2\/j.kind=3):=dE;have cG:X (∀k∈n,xy (I b) k):=dt;have ei:X (B.map bp=n):=cg;have bv:X (I B=I n):=by show _=_;rw[<-cg,ee]
 have b4:X (BH p ir 2 df a7 bl B):=a9;have d8:X (∀dS∈B,vD p eN 9 dS.2 dS.1.parts):=dm;have f5:I B<=2000:=by have:=bv.o;omega
 have fc:q<U p.heap:=bC cn;have a4:X (∀a,aD p a->aA a ⟨q,0,Z⟩=K (ah dg (I b) bH)/\aA a ⟨q,1,Z⟩=K (ah dl (I t) az)/\aA a ⟨q,2,Z⟩=K (ah df (I B) eo)):=λa m=>by
  have:=SF ((cS m _ fc).trans cn);exact⟨this.1,this.2.1,this.2.2.1⟩
 have bk:X (∀(br:Nat) (a:ag),br<18446744073709551616->bn 133 #[bt .u64 (br:Int)] a λu N=>u=aR (au (strOf (bc br)))/\aD a N):=λbr a m=>An br a m;clear ao dv dy dA dB cp dE dt cg a9 dm cn;have⟨al,T,ap⟩:=a4.o p (bU _ _);have aF:lV.wrap (I b:Int)=(I b:Int):=by rw[wrap_u64];omega
 go_enter aE.func105,Tryz.ntmps105;go_wp2_with (go_at_call 133;refine(bk.o (I b) _ (by omega)).mono ?_;rintro u fG ⟨rfl,a0⟩);have cB:X (aD p fG):=a0;clear aF al T ap a0;have c7:X (strOf (bc (I b))=strOf (bc (I b)++ng b t 0)):=by show _=_;rw[show ng b t 0=[] from rfl,oH]
 go_loopw [3,4] (λs e wr=>∃f:Nat,f<=I b/\e=n9 f/\s=au (strOf (bc (I b)++ng b t f))/\aD p wr) (λ_ e _=>I b-bS (bw e))
 exact⟨0,cE _,rfl,by rw[c7.o],cB.o⟩;clear c7 cB;obtain⟨f,dC,rfl,rfl,E⟩:=hrel;have Q:X (aD p wr):=E;have⟨al,T,ap⟩:=a4.o wr E;have bo:U p.heap<=U wr.heap:=E.size;have f0:q<U wr.heap:=by omega
 by_cases ad:f<I b
 .have fh:f<I t:=by rw[d9.o];exact ad
  have ao:=bs.o.below E;obtain rfl:=ao.addr (by omega);obtain rfl:=c1.o (by omega);have bO:=ao.c0 f ad;have cv:=ao.c1 f ad;have bJ:A<U wr.heap:=cL (b3.o (by omega)) bo;have dk:aA wr ⟨A,C+f,Z⟩=K (z9 (aX t f 0)):=(bq E (p:=⟨A,C+f,Z⟩) (b3.o (by omega))).trans (c2.o f fh);have bi:X (strOf (bc (I b)++ng b t f)++strOf (bc b[f].name.size)++b[f].name++strOf [byteOf b[f].kind,byteOf (aX t f 0)]=strOf (bc (I b)++ng b t (f+1))):=by
   show _=_;rw[II];unfold xL;rw[ep (l:=b),dH ad];simp only[s9,nW,Dq,ByteArray.append_assoc]
  have cp:=b5.o b[f] (c8 ad);have dJ:(strOf (bc (I b)++ng b t f)).size<=300:=by
   have bI:=sQ (I b);have cd:=IG (es:=t) b5.o f dC;rw[jf,cN];omega
  have fg:(f:Int)<(I t:Int):=by omega
  have f4:(f:Int)<(I b:Int):=by omega
  generalize b[f]=j at*;generalize aX t f 0=M at*;generalize strOf (bc (I b)++ng b t f)=a6 at*;clear ao E;go_upto_region 6 with fail;have bm:(wr.alloc (ax #[au j.name,bt bM j.kind] 63)).heap[U wr.heap]? =K (ax #[au j.name,bt bM j.kind] 63 (0,0)):=jY _ _;have O:X (aD p (wr.alloc (ax #[au j.name,bt bM j.kind] 63))):=Q.o.alloc bo _;have ca:aA (wr.alloc (ax #[au j.name,z9 j.kind] 63)) ⟨A,C+f,Z⟩=K (z9 M):=(bq ((bU (U wr.heap) wr).alloc (aV _) _) (p:=⟨A,C+f,Z⟩) bJ).trans dk;have a8:U wr.heap<(wr.alloc (ax #[au j.name,z9 j.kind] 63)).heap.size:=by simp
  generalize wr.alloc (ax #[au j.name,z9 j.kind] 63)=ay at*;clear al T ap bO cv dk;have⟨al,T,ap⟩:=a4.o ay O.o;have⟨cx,cy⟩:=wU bm;have cb:q<U ay.heap:=by omega
  have cc:A<U ay.heap:=by omega
  generalize U wr.heap=H at*;have aF:vH.wrap j.kind=(byteOf j.kind:Int):=BS j.kind;have f9:vH.wrap M=(byteOf M:Int):=BS M;have gc:lV.wrap (j.name.size:Int)=(j.name.size:Int):=by rw[wrap_u64];omega
  have aa:X (∀a:ag,bn 133 #[bt .u64 (j.name.size:Int)] a λu N=>u=aR (au (strOf (bc j.name.size)))/\aD a N):=λa=>bk.o _ a (by omega);have fz:(strOf (bc j.name.size)).size<=10:=by rw[jf];exact sQ _
  have fB:(strOf [byteOf j.kind,byteOf M]).size=2:=by rw[jf];rfl
  have du:∀(a:ag) (ab:Nat),aA a ⟨ab,0,Z⟩=K (bt .u8 (byteOf j.kind:Int))->aA a ⟨ab,1,Z⟩=K (bt .u8 (byteOf M:Int))->(convert 133 9 (aI ab 2 2)).run (aM av) a=b6 (au (strOf [byteOf j.kind,byteOf M])) a:=λa ab m eK=>Rs m eK;generalize strOf (bc j.name.size)=V at*;generalize strOf [byteOf j.kind,byteOf M]=em at*;generalize byteOf j.kind=bZ at*;generalize byteOf M=b0 at*;have aC:¬ 9223372036854775807<a6.size+V.size:=by omega
  have fw:¬ 9223372036854775807<a6.size+V.size+j.name.size:=by omega
  have fx:¬ 9223372036854775807<a6.size+V.size+j.name.size+em.size:=by omega
  clear fB fz;refine Un.open_ (λa=>aA a ⟨H,0,Z⟩=K (au j.name)/\aA a ⟨H,1,Z⟩=K (bt bM j.kind)/\aA a ⟨q,1,Z⟩=K (ah (K ⟨A,C,Z⟩) (I t) az)/\aA a ⟨A,C+f,Z⟩=K (z9 M)) 24 (λ_ _ _ _ _ m=>m) λfu=>?_;have aY:(λa=>aA a ⟨H,0,Z⟩=K (au j.name)/\aA a ⟨H,1,Z⟩=K (bt bM j.kind)/\aA a ⟨q,1,Z⟩=K (ah (K ⟨A,C,Z⟩) (I t) az)/\aA a ⟨A,C+f,Z⟩=K (z9 M)) ay.drew:=by go_keep
  refine Un.pk 0 ?_;refine Un.pk 1 ?_;refine Un.ld [24] 2 ?_;refine Un.pk 3 ?_;refine Un.pk 4 ?_;refine Un.pk 7 ?_;refine Un.ld [24] 8 ?_;refine Un.pk 10 ?_;refine Un.ld [24] 11 ?_;refine Un.pk 12 ?_;refine Un.pk 13 ?_;refine Un.pk 14 ?_;refine Un.pk 15 ?_;refine Un.ld [24] 16 ?_;refine Un.pk 17 ?_;refine Un.pk 18 ?_;refine Un.ld [24] 19 ?_;refine Un.pk 20 ?_;try simp only[bG,cz,ct,cr]
  refine Un.pair (i:=5) (j:=21) (by kernel_rfl) Y Y (λg c=>?_) (λg c=>?_)
  .rw[if_pos (by rfl)];go_simp;go_at_call 133;refine(aa.o _).mono ?_;rintro u W ⟨rfl,G⟩;have D:=Ic G;have a3:X (aD ay W):=D;have aG:=(bq D (p:=⟨H,0,Z⟩) a8).trans cx;have aH:=(bq D (p:=⟨H,1,Z⟩) a8).trans cy;have aJ:=(bq D (p:=⟨q,1,Z⟩) cb).trans T;have aL:=(bq D (p:=⟨A,C+f,Z⟩) cc).trans ca;refine c.o _ _ (λ_=>⟨aG,aH,aJ,aL⟩) ?_;clear c g aY G D;have aY:(λa=>aA a ⟨H,0,Z⟩=K (au j.name)/\aA a ⟨H,1,Z⟩=K (bt bM j.kind)/\aA a ⟨q,1,Z⟩=K (ah (K ⟨A,C,Z⟩) (I t) az)/\aA a ⟨A,C+f,Z⟩=K (z9 M)) W:=⟨aG,aH,aJ,aL⟩;refine Un.pk 6 ?_;refine Un.pk 9 ?_;try simp only[bG,cz,ct,cr]
   refine Un.on 21 λg c=>?_;go_simp;have cf:(λa=>aA a ⟨H,0,Z⟩=K (au j.name)/\aA a ⟨H,1,Z⟩=K (bt bM j.kind)/\aA a ⟨q,1,Z⟩=K (ah (K ⟨A,C,Z⟩) (I t) az)/\aA a ⟨A,C+f,Z⟩=K (z9 M)) (W.alloc (ax #[bt .u8 (bZ:Int),bt .u8 (b0:Int)] 5)):=by go_keep
   refine c.o _ _ (λ_=>cf) ?_;clear c g;try simp only[bG,cz,ct,cr]
   refine Un.on 22 λg c=>?_;go_simp;refine c.o _ _ (λ_=>by assumption) ?_;clear c g;refine Un.pk 23 ?_;try simp only[bG,cz,ct,cr]
   refine Un.on 24 λg c=>?_;go_simp;refine c.o _ _ (λm=>absurd m (by decide)) ?_;clear c g;try simp only[bG,cz,ct,cr]
   refine Un.done (by kernel_rfl) ?_ _;try simp only[bG,cz,ct,cr]
   go_wp2_with fail
   go_roundw
   case rel=>exact⟨f+1,by omega,by go_num,by rw[bi.o],(O.o.trans (a3.o.mono O.o.size)).alloc (by have:=O.o.size;have:=a3.o.size;omega) _⟩
   case measure=>simp[bw];omega
  .rw[if_pos (by rfl)];go_simp;have cf:(λa=>aA a ⟨H,0,Z⟩=K (au j.name)/\aA a ⟨H,1,Z⟩=K (bt bM j.kind)/\aA a ⟨q,1,Z⟩=K (ah (K ⟨A,C,Z⟩) (I t) az)/\aA a ⟨A,C+f,Z⟩=K (z9 M)) ((ay.alloc (ax #[bt .u8 (bZ:Int),bt .u8 (b0:Int)] 5)).drew):=by go_keep
   refine c.o _ _ (λ_=>cf) ?_;clear c g;try simp only[bG,cz,ct,cr]
   refine Un.pair (i:=5) (j:=22) (by kernel_rfl) Y Y (λg c=>?_) (λg c=>?_)
   .rw[if_pos (by rfl)];go_simp;go_at_call 133;refine(aa.o _).mono ?_;rintro u W ⟨rfl,G⟩;have fE:=(BO G).1;have fF:=(BO G).2;have D:=uS G;have a3:X (aD ay W):=D;have aG:=(bq D (p:=⟨H,0,Z⟩) a8).trans cx;have aH:=(bq D (p:=⟨H,1,Z⟩) a8).trans cy;have aJ:=(bq D (p:=⟨q,1,Z⟩) cb).trans T;have aL:=(bq D (p:=⟨A,C+f,Z⟩) cc).trans ca;refine c.o _ _ (λ_=>⟨aG,aH,aJ,aL⟩) ?_;clear c g aY G D;have aY:(λa=>aA a ⟨H,0,Z⟩=K (au j.name)/\aA a ⟨H,1,Z⟩=K (bt bM j.kind)/\aA a ⟨q,1,Z⟩=K (ah (K ⟨A,C,Z⟩) (I t) az)/\aA a ⟨A,C+f,Z⟩=K (z9 M)) W:=⟨aG,aH,aJ,aL⟩;refine Un.pk 6 ?_;refine Un.pk 9 ?_;try simp only[bG,cz,ct,cr]
    refine Un.on 22 λg c=>?_;go_simp;refine c.o _ _ (λ_=>by assumption) ?_;clear c g;refine Un.pk 23 ?_;try simp only[bG,cz,ct,cr]
    refine Un.on 24 λg c=>?_;go_simp;refine c.o _ _ (λm=>absurd m (by decide)) ?_;clear c g;try simp only[bG,cz,ct,cr]
    refine Un.done (by kernel_rfl) ?_ _;try simp only[bG,cz,ct,cr]
    go_wp2_with fail
    go_roundw
    case rel=>exact⟨f+1,by omega,by go_num,by rw[bi.o],O.o.trans (a3.o.mono O.o.size)⟩
    case measure=>simp[bw];omega
   .rw[if_pos (by rfl)];go_simp;refine c.o _ _ (λ_=>by assumption) ?_;clear c g;try simp only[bG,cz,ct,cr]
    refine Un.on 5 λg c=>?_;go_simp;go_at_call 133;refine(aa.o _).mono ?_;rintro u W ⟨rfl,G⟩;have fE:=(BO G).1;have fF:=(BO G).2;have D:=uS G;have a3:X (aD ay W):=D;have aG:=(bq D (p:=⟨H,0,Z⟩) a8).trans cx;have aH:=(bq D (p:=⟨H,1,Z⟩) a8).trans cy;have aJ:=(bq D (p:=⟨q,1,Z⟩) cb).trans T;have aL:=(bq D (p:=⟨A,C+f,Z⟩) cc).trans ca;refine c.o _ _ (λ_=>⟨aG,aH,aJ,aL⟩) ?_;clear c g aY G D;have aY:(λa=>aA a ⟨H,0,Z⟩=K (au j.name)/\aA a ⟨H,1,Z⟩=K (bt bM j.kind)/\aA a ⟨q,1,Z⟩=K (ah (K ⟨A,C,Z⟩) (I t) az)/\aA a ⟨A,C+f,Z⟩=K (z9 M)) W:=⟨aG,aH,aJ,aL⟩;refine Un.pk 6 ?_;refine Un.pk 9 ?_;refine Un.pk 23 ?_;try simp only[bG,cz,ct,cr]
    refine Un.on 24 λg c=>?_;go_simp;refine c.o _ _ (λm=>absurd m (by decide)) ?_;clear c g;try simp only[bG,cz,ct,cr]
    refine Un.done (by kernel_rfl) ?_ _;try simp only[bG,cz,ct,cr]
    go_wp2_with fail
    go_roundw
    case rel=>exact⟨f+1,by omega,by go_num,by rw[bi.o],O.o.trans (a3.o.mono O.o.size)⟩
    case measure=>simp[bw];omega
 .obtain rfl:f=I b:=by omega
  have eb:X (strOf (zF b t n)=strOf (bc (I b)++ng b t (I b)++bc (I n)++gU b (n.take (I B)))):=by
   show _=_;rw[bv.o,iZ];unfold zF;simp only[iD]
  have dJ:I (bc (I b)++ng b t (I b))<=300:=by
   have bI:=sQ (I b);have cd:=IG (es:=t) b5.o (I b) (aV _);rw[cN];omega
  generalize bc (I b)++ng b t (I b)=pre at*;have bj:X (strOf pre++strOf (bc (I B))=strOf (pre++bc (I n)++gU b (n.take 0))):=by
   show _=_;rw[bv.o,show gU b (n.take 0)=[] from rfl,oH,nW]
  have f6:I (pre++bc (I n))<=310:=by have:=sQ (I n);rw[cN];omega
  have aF:lV.wrap (I B:Int)=(I B:Int):=by rw[wrap_u64];omega
  have aa:X (∀a:ag,bn 133 #[bt .u64 (I B:Int)] a λu N=>u=aR (au (strOf (bc (I B))))/\aD a N):=λa=>bk.o _ a (by omega);have aC:¬ 9223372036854775807<(strOf pre).size+(strOf (bc (I B))).size:=by
   have:=sQ (I B);rw[jf,jf];omega
  generalize strOf (bc (I B))=V at*;generalize strOf pre=a6 at*;clear E;go_upto_region 8 with(go_at_call 133;refine(aa.o _).mono ?_;rintro u W ⟨rfl,G⟩);have O:X (aD p W):=Q.o.trans (G.mono Q.o.size);clear G aF aC al T ap Q aa c1 b3 c2;generalize pre++bc (I n)=bb at*;go_wp2_with fail
  go_loopw [3,6] (λs e wr=>∃f:Nat,f<=I B/\e=n9 f/\s=au (strOf (bb++gU b (n.take f)))/\aD p wr) (λ_ e _=>I B-bS (bw e))
  exact⟨0,cE _,rfl,by rw[bj.o],O.o⟩
  rename ag=>bP
  clear O bj;obtain⟨f,dC,rfl,rfl,E⟩:=hrel;have Q:X (aD p bP):=E;have⟨al,T,ap⟩:=a4.o bP E;have bo:U p.heap<=U bP.heap:=E.size;by_cases ad:f<I B
  .have bJ:f<I n:=by rw[<-bv.o];exact ad
   have a9:=b4.o.below E;obtain rfl:=a9.addr (by omega);have cl:B[f].1=n[f]:=by
    have:=ei.o;have cd:(B.map bp)[f]'(by simpa using ad)=n[f]:=by simp only[this]
    simpa using cd
   have bO:aA bP ⟨a7,bl+f*2,Z⟩=K (bt bM (B[f].1.rows:Int)):=a9.c f ad 0 _ Y;have c4:X (vD p eN 9 B[f].2 n[f].parts):=by have:=d8.o B[f] (c8 ad);rw[cl] at this;exact this
   have aw:X (xy (I b) n[f]):=cG.o n[f] (c8 bJ);have bi:X (strOf (bb++gU b (n.take (f+1)))=strOf (bb++gU b (n.take f)++bc n[f].rows++mg b n[f].parts n[f].parts.length)):=by
    show _=_;rw[W0 b n f bJ];unfold ur;simp only[iD]
   have dJ:I (bb++gU b (n.take f))<=1540310:=by
    have bI:=WZ (bs:=n.take f) (λk ch=>cG.o k (xo ch)) e3 b;rw[cN];rw[m7] at bI;omega
   rw[cl] at bO;have⟨dR,ae,aj,dP,dI,P⟩:=c4.o;have d6:X (a7<U p.heap):=b4.o.lt (by omega);have ej:X (aA p ⟨a7,bl+f*2+1,Z⟩=K (ah dR n[f].parts.length dP)):=by
    have:=b4.o.c f ad 1 _ Y;rw[<-dI];exact this
   have eh:X (BH p eN 9 dR ae aj n[f].parts):=P;have fZ:n[f].parts.length<=8:=by have:=aw.o.len;omega
   have fv:=aw.o.rows;have fg:(f:Int)<(I B:Int):=by omega
   generalize ch:n[f]=k at*;generalize fk:bb++gU b (n.take f)=pre at*;clear a9 cl ch fk c4 P dI E;have bj:X (strOf pre++strOf (bc k.rows)=strOf (pre++bc k.rows++mg b k.parts 0)):=by
    show _=_;rw[show mg b k.parts 0=[] from rfl,oH,nW]
   have f7:I (pre++bc k.rows)<=1540320:=by have:=sQ k.rows;rw[cN];omega
   have aF:lV.wrap (k.rows:Int)=(k.rows:Int):=by rw[wrap_u64];omega
   have aa:X (∀a:ag,bn 133 #[bt .u64 (k.rows:Int)] a λu N=>u=aR (au (strOf (bc k.rows)))/\aD a N):=λa=>bk.o _ a (by omega);have aC:¬ 9223372036854775807<(strOf pre).size+(strOf (bc k.rows)).size:=by
    have:=sQ k.rows;rw[jf,jf];omega
   generalize strOf (bc k.rows)=V at*;generalize strOf pre=a6 at*;go_upto_region 12 with(go_at_call 133;refine(aa.o _).mono ?_;rintro u W ⟨rfl,G⟩);have O:X (aD p W):=Q.o.trans (G.mono Q.o.size);clear G aF aC al T ap Q aa bO fv;generalize pre++bc k.rows=ar at*;go_wp2_with fail
   go_loopw [3,7] (λs e wr=>∃cs:Nat,cs<=I b/\e=n9 cs/\s=au (strOf (ar++mg b k.parts cs))/\aD p wr) (λ_ e _=>I b-bS (bw e))
   exact⟨0,cE _,rfl,by rw[bj.o],O.o⟩
   rename ag=>J
   clear O bj;obtain⟨e,f1,rfl,rfl,E⟩:=hrel;have Q:X (aD p J):=E;have⟨al,T,ap⟩:=a4.o J E;have bo:U p.heap<=U J.heap:=E.size;by_cases co:e<I b
   .have S:e<I k.parts:=by have:=aw.o.len;omega
    have ao:=bs.o.below E;obtain rfl:=ao.addr (by omega);have P:=eh.o.below E;obtain rfl:=P.addr (by omega);have cv:aA J ⟨a7,bl+f*2+1,Z⟩=K (ah (K ⟨ae,aj,Z⟩) (I k.parts) dP):=(bq E (p:=⟨a7,bl+f*2+1,Z⟩) d6.o).trans ej.o;have fL:aA J ⟨ae,aj+e*9,Z⟩=K (bt bM (k.parts[e].size:Int)):=P.c e S 0 _ Y;have bZ:aA J ⟨ae,aj+e*9+1,Z⟩=K (ak k.parts[e].bV.there):=P.c e S 1 _ Y;have b0:aA J ⟨ae,aj+e*9+2,Z⟩=K (ak k.parts[e].bV.least.null):=P.c e S 2 _ Y;have fM:aA J ⟨ae,aj+e*9+3,Z⟩=K (bt bM k.parts[e].bV.least.n):=P.c e S 3 _ Y;have fN:aA J ⟨ae,aj+e*9+4,Z⟩=K (au k.parts[e].bV.least.s):=P.c e S 4 _ Y;have fO:aA J ⟨ae,aj+e*9+5,Z⟩=K (ak k.parts[e].bV.most.null):=P.c e S 5 _ Y;have fP:aA J ⟨ae,aj+e*9+6,Z⟩=K (bt bM k.parts[e].bV.most.n):=P.c e S 6 _ Y;have fQ:aA J ⟨ae,aj+e*9+7,Z⟩=K (au k.parts[e].bV.most.s):=P.c e S 7 _ Y;have fU:aA J ⟨ae,aj+e*9+8,Z⟩=K (au k.parts[e].text):=P.c e S 8 _ Y;have c5:X (ar++mg b k.parts (e+1)=ar++mg b k.parts e++bc k.parts[e].size++gw b[e].kind k.parts[e].bV):=by
     show _=_;rw[KH];unfold vj;rw[ep (l:=b),dH co,ep (l:=k.parts),dH S];simp
    have f8:I (ar++mg b k.parts e)<=1542000:=by
     have bI:=KG aw.o b e (by omega);rw[cN];omega
    have fy:=aw.o.size _ (c8 S);have db:X (jb k.parts[e].bV.least):=aw.o.least _ (c8 S);have dc:X (jb k.parts[e].bV.most):=aw.o.most _ (c8 S);have c3:X (b[e].kind=1\/b[e].kind=2\/b[e].kind=3):=ec.o _ (c8 co);have cY:X (o<U p.heap):=bs.o.lt (by omega);have el:X (aA p ⟨o,bN+e*2+1,Z⟩=K (bt bM b[e].kind)):=bs.o.c1 e co;have f2:(e:Int)<(I b:Int):=by omega
    have f3:(e:Int)<(I k.parts:Int):=by omega
    generalize k.parts[e]=l at*;generalize b[e].kind=r at*;generalize ar++mg b k.parts e=a2 at*;clear ao P E;have aF:lV.wrap (l.size:Int)=(l.size:Int):=by rw[wrap_u64];omega
    have aa:X (∀a:ag,bn 133 #[bt .u64 (l.size:Int)] a λu N=>u=aR (au (strOf (bc l.size)))/\aD a N):=λa=>bk.o _ a (by omega);have aC:¬ 9223372036854775807<(strOf a2).size+(strOf (bc l.size)).size:=by
     have:=sQ l.size;rw[jf,jf];omega
    have fi:I (a2++bc l.size)<=1542010:=by have:=sQ l.size;rw[cN];omega
    have da:X (strOf a2++strOf (bc l.size)=strOf (a2++bc l.size)):=bA (nW _);generalize strOf (bc l.size)=V at*;generalize strOf a2=a6 at*;go_upto_region 16 with fail;have bm:(J.alloc (ax (cX (eN l)) 128)).heap[U J.heap]? =K (ax (cX (eN l)) 128 (0,0)):=jY _ _;have a0:aD p (J.alloc (ax (cX (eN l)) 128)):=Q.o.alloc bo _;rw[show cX (eN l)=#[n9 l.size,ak l.bV.there,ak l.bV.least.null,z9 l.bV.least.n,au l.bV.least.s,ak l.bV.most.null,z9 l.bV.most.n,au l.bV.most.s,au l.text] from rfl] at a0 bm;generalize J.alloc (ax #[n9 l.size,ak l.bV.there,ak l.bV.least.null,z9 l.bV.least.n,au l.bV.least.s,ak l.bV.most.null,z9 l.bV.most.n,au l.bV.most.s,au l.text] 128)=dd at*;generalize U J.heap=d at*;have bu:X (dd.heap[d]? =K (ax (cX (eN l)) 128 (0,0))):=bm;clear fL bZ b0 fM fN fO fP fQ fU cv al T ap Q fy;have er:aA dd ⟨d,0,Z⟩=K (bt bM (l.size:Int)):=(KF bu.o).1;go_upto_region 17 with(go_at_call 133;refine(aa.o _).mono ?_;rintro u w ⟨rfl,a1⟩);have c0:X (w.heap[d]? =K (ax (cX (eN l)) 128 (0,0))):=(cS a1 _ (bC bu.o)).trans bu.o;have L:X (aD p w):=a0.trans (a1.mono a0.size);have dn:=da.o;rw[dn];have c6:X (ar++mg b k.parts (e+1)=a2++bc l.size++gw r l.bV):=c5.o;clear bm a0 a1 er bu aF aa aC da dn c5;generalize a2++bc l.size=aQ at*;obtain⟨-,fV,es,et,ew,ey,eC,eI,-⟩:=KF c0.o;have⟨al,T,ap⟩:=a4.o w L.o;have eJ:aA w ⟨o,bN+e*2+1,Z⟩=K (z9 r):=(bq L.o (p:=⟨o,bN+e*2+1,Z⟩) cY.o).trans el.o;have⟨Es,⟨eq,h,i⟩,fW⟩:=l;cases eq
    .have am:X (strOf aQ++strOf [0]=strOf (ar++mg b k.parts (e+1))):=by
      show _=_;rw[c6.o,<-nW];rfl
     have aC:¬ 9223372036854775807<(strOf aQ).size+(strOf [0]).size:=by
      rw[jf,jf];simp;omega
     have du:∀(a:ag) (ab:Nat),aA a ⟨ab,0,Z⟩=K (bt .u8 0)->(convert 133 9 (aI ab 1 1)).run (aM av) a=b6 (au (strOf [0])) a:=λa ab m=>zy m;generalize strOf [0]=bE at*;generalize strOf aQ=bx at*;have dK:U p.heap<=U w.heap:=L.o.size;go_wp2_with fail
     go_roundw
     case rel=>exact⟨e+1,by omega,by go_num,by rw[am.o],L.o.alloc dK _⟩
     case measure=>simp[bw];omega
    .have am:X (strOf aQ++strOf [1]++strOf (cZ r h)++strOf (cZ r i)=strOf (ar++mg b k.parts (e+1))):=by
      show _=_;rw[c6.o,<-nW,<-nW,<-nW];congr 1;show aQ++[1]++cZ r h++cZ r i=aQ++([1]++(cZ r h++cZ r i));simp only[iD]
     have dL:=ya r h db.o.sz;have dO:=ya r i dc.o.sz;have fl:(strOf (cZ r h)).size<=42:=by rw[jf];exact dL
     have fm:(strOf (cZ r i)).size<=42:=by rw[jf];exact dO
     have fo:(strOf [1]).size<=1:=by rw[jf];simp
     have ft:(strOf aQ).size<=1542010:=by rw[jf];exact fi
     have b7:X (∀a:ag,bn 134 #[cw (dF h),z9 r] a λu N=>u=aR (au (strOf (cZ r h)))/\aD a N):=λa=>CI h r a c3.o db.o;have a5:X (∀a:ag,bn 134 #[cw (dF i),z9 r] a λu N=>u=aR (au (strOf (cZ r i)))/\aD a N):=λa=>CI i r a c3.o dc.o;have du:∀(a:ag) (ab:Nat),aA a ⟨ab,0,Z⟩=K (bt .u8 1)->(convert 133 9 (ah (K ⟨ab,0,Z⟩) 1 1)).run (aM av) a=b6 (au (strOf [1])) a:=λa ab m=>zy m;generalize strOf [1]=bE at*;generalize strOf aQ=bx at*;generalize strOf (cZ r h)=cA at*;generalize strOf (cZ r i)=d4 at*;have aC:¬ 9223372036854775807<bx.size+bE.size:=by omega
     have fw:¬ 9223372036854775807<bx.size+bE.size+cA.size:=by omega
     have fx:¬ 9223372036854775807<bx.size+bE.size+cA.size+d4.size:=by omega
     clear dL dO fl fm fo ft;have dK:U p.heap<=U w.heap:=L.o.size;have ba:d<U w.heap:=bC c0.o;have fb:q<U w.heap:=by omega
     have e2:o<U w.heap:=by have:=cY.o;omega
     have R:X (∀a,aD w a->(λa=>aA a ⟨d,2,Z⟩=K (ak h.null)/\aA a ⟨d,3,Z⟩=K (bt bM h.n)/\aA a ⟨d,4,Z⟩=K (au h.s)/\aA a ⟨d,5,Z⟩=K (ak i.null)/\aA a ⟨d,6,Z⟩=K (bt bM i.n)/\aA a ⟨d,7,Z⟩=K (au i.s)/\aA a ⟨q,0,Z⟩=K (ah (K ⟨o,bN,Z⟩) (I b) bH)/\aA a ⟨o,bN+e*2+1,Z⟩=K (z9 r)) a):=λa m=>
      ⟨(bq m (p:=⟨d,2,Z⟩) ba).trans es,(bq m (p:=⟨d,3,Z⟩) ba).trans et,(bq m (p:=⟨d,4,Z⟩) ba).trans ew,(bq m (p:=⟨d,5,Z⟩) ba).trans ey,(bq m (p:=⟨d,6,Z⟩) ba).trans eC,(bq m (p:=⟨d,7,Z⟩) ba).trans eI,(bq m (p:=⟨q,0,Z⟩) fb).trans al,(bq m (p:=⟨o,bN+e*2+1,Z⟩) e2).trans eJ⟩
     go_upto_region 18 with fail;refine Un.open_ (λa=>aA a ⟨d,2,Z⟩=K (ak h.null)/\aA a ⟨d,3,Z⟩=K (bt bM h.n)/\aA a ⟨d,4,Z⟩=K (au h.s)/\aA a ⟨d,5,Z⟩=K (ak i.null)/\aA a ⟨d,6,Z⟩=K (bt bM i.n)/\aA a ⟨d,7,Z⟩=K (au i.s)/\aA a ⟨q,0,Z⟩=K (ah (K ⟨o,bN,Z⟩) (I b) bH)/\aA a ⟨o,bN+e*2+1,Z⟩=K (z9 r)) 28 (λ_ _ _ _ _ m=>m) λfu=>?_;have d5:X (aD w w.drew):=(bU _ _).drew;have aY:(λa=>aA a ⟨d,2,Z⟩=K (ak h.null)/\aA a ⟨d,3,Z⟩=K (bt bM h.n)/\aA a ⟨d,4,Z⟩=K (au h.s)/\aA a ⟨d,5,Z⟩=K (ak i.null)/\aA a ⟨d,6,Z⟩=K (bt bM i.n)/\aA a ⟨d,7,Z⟩=K (au i.s)/\aA a ⟨q,0,Z⟩=K (ah (K ⟨o,bN,Z⟩) (I b) bH)/\aA a ⟨o,bN+e*2+1,Z⟩=K (bt bM r)) w.drew:=R.o _ d5.o;refine Un.pk 0 ?_;refine Un.pk 4 ?_;refine Un.ld [28] 5 ?_;refine Un.pk 6 ?_;refine Un.pk 7 ?_;refine Un.pk 8 ?_;refine Un.ld [28] 9 ?_;refine Un.pk 10 ?_;refine Un.pk 11 ?_;refine Un.pk 12 ?_;refine Un.ld [28] 13 ?_;refine Un.pk 16 ?_;refine Un.ld [28] 17 ?_;refine Un.pk 18 ?_;refine Un.pk 19 ?_;refine Un.pk 20 ?_;refine Un.ld [28] 21 ?_;refine Un.pk 22 ?_;refine Un.pk 23 ?_;refine Un.pk 24 ?_;refine Un.ld [28] 25 ?_;try simp only[bG,cz,ct,cr]
     refine Un.pair (i:=1) (j:=14) (by kernel_rfl) Y Y (λg c=>?_) (λg c=>?_)
     .rw[if_pos (by rfl)];go_simp;have d7:X (aD w ((w.alloc (ax #[bt .u8 1] 5)).drew)):=((bU _ _).alloc (aV _) _).drew;have eL:(λa=>aA a ⟨d,2,Z⟩=K (ak h.null)/\aA a ⟨d,3,Z⟩=K (bt bM h.n)/\aA a ⟨d,4,Z⟩=K (au h.s)/\aA a ⟨d,5,Z⟩=K (ak i.null)/\aA a ⟨d,6,Z⟩=K (bt bM i.n)/\aA a ⟨d,7,Z⟩=K (au i.s)/\aA a ⟨q,0,Z⟩=K (ah (K ⟨o,bN,Z⟩) (I b) bH)/\aA a ⟨o,bN+e*2+1,Z⟩=K (bt bM r)) ((w.alloc (ax #[bt .u8 1] 5)).drew):=R.o _ d7.o;refine c.o _ _ (λ_=>eL) ?_;clear c g;try simp only[bG,cz,ct,cr]
      refine Un.pair (i:=2) (j:=14) (by kernel_rfl) Y Y (λg c=>?_) (λg c=>?_)
      .rw[if_pos (by rfl)];go_simp;refine c.o _ _ (λ_=>by assumption) ?_;clear c g;refine Un.pk 3 ?_;try simp only[bG,cz,ct,cr]
       refine Un.on 14 λg c=>?_;go_simp;go_at_call 134;refine(b7.o _).mono ?_;rintro u dX ⟨rfl,G⟩;have b2:X (aD w dX):=uS G;have eR:(λa=>aA a ⟨d,2,Z⟩=K (ak h.null)/\aA a ⟨d,3,Z⟩=K (bt bM h.n)/\aA a ⟨d,4,Z⟩=K (au h.s)/\aA a ⟨d,5,Z⟩=K (ak i.null)/\aA a ⟨d,6,Z⟩=K (bt bM i.n)/\aA a ⟨d,7,Z⟩=K (au i.s)/\aA a ⟨q,0,Z⟩=K (ah (K ⟨o,bN,Z⟩) (I b) bH)/\aA a ⟨o,bN+e*2+1,Z⟩=K (bt bM r)) dX:=R.o _ b2.o;refine c.o _ _ (λ_=>eR) ?_;clear c g G;refine Un.pk 15 ?_;try simp only[bG,cz,ct,cr]
       refine Un.on 26 λg c=>?_;go_simp;go_at_call 134;refine(a5.o _).mono ?_;rintro u dZ ⟨rfl,D⟩;have cP:X (aD w dZ):=b2.o.trans (D.mono b2.o.size);have eS:(λa=>aA a ⟨d,2,Z⟩=K (ak h.null)/\aA a ⟨d,3,Z⟩=K (bt bM h.n)/\aA a ⟨d,4,Z⟩=K (au h.s)/\aA a ⟨d,5,Z⟩=K (ak i.null)/\aA a ⟨d,6,Z⟩=K (bt bM i.n)/\aA a ⟨d,7,Z⟩=K (au i.s)/\aA a ⟨q,0,Z⟩=K (ah (K ⟨o,bN,Z⟩) (I b) bH)/\aA a ⟨o,bN+e*2+1,Z⟩=K (bt bM r)) dZ:=R.o _ cP.o;refine c.o _ _ (λ_=>eS) ?_;clear c g D;refine Un.pk 27 ?_;try simp only[bG,cz,ct,cr]
       refine Un.on 28 λg c=>?_;go_simp;refine c.o _ _ (λm=>absurd m (by decide)) ?_;clear c g;try simp only[bG,cz,ct,cr]
       refine Un.done (by kernel_rfl) ?_ _;try simp only[bG,cz,ct,cr]
       go_wp2_with fail
       go_roundw
       case rel=>exact⟨e+1,by omega,by go_num,by rw[am.o],L.o.trans (cP.o.mono L.o.size)⟩
       case measure=>simp[bw];omega
      .rw[if_pos (by rfl)];go_simp;go_at_call 134;refine(b7.o _).mono ?_;rintro u d0 ⟨rfl,ck⟩;have bd:X (aD w d0):=uS ck;have gf:=BN ck;have eV:(λa=>aA a ⟨d,2,Z⟩=K (ak h.null)/\aA a ⟨d,3,Z⟩=K (bt bM h.n)/\aA a ⟨d,4,Z⟩=K (au h.s)/\aA a ⟨d,5,Z⟩=K (ak i.null)/\aA a ⟨d,6,Z⟩=K (bt bM i.n)/\aA a ⟨d,7,Z⟩=K (au i.s)/\aA a ⟨q,0,Z⟩=K (ah (K ⟨o,bN,Z⟩) (I b) bH)/\aA a ⟨o,bN+e*2+1,Z⟩=K (bt bM r)) d0:=R.o _ bd.o;refine c.o _ _ (λ_=>eV) ?_;clear c g ck;try simp only[bG,cz,ct,cr]
       refine Un.pair (i:=2) (j:=26) (by kernel_rfl) Y Y (λg c=>?_) (λg c=>?_)
       .rw[if_pos (by rfl)];go_simp;refine c.o _ _ (λ_=>by assumption) ?_;clear c g;refine Un.pk 3 ?_;refine Un.pk 15 ?_;try simp only[bG,cz,ct,cr]
        refine Un.on 26 λg c=>?_;go_simp;go_at_call 134;refine(a5.o _).mono ?_;rintro u d1 ⟨rfl,dq⟩;have cQ:X (aD w d1):=bd.o.trans (dq.mono bd.o.size);have eW:(λa=>aA a ⟨d,2,Z⟩=K (ak h.null)/\aA a ⟨d,3,Z⟩=K (bt bM h.n)/\aA a ⟨d,4,Z⟩=K (au h.s)/\aA a ⟨d,5,Z⟩=K (ak i.null)/\aA a ⟨d,6,Z⟩=K (bt bM i.n)/\aA a ⟨d,7,Z⟩=K (au i.s)/\aA a ⟨q,0,Z⟩=K (ah (K ⟨o,bN,Z⟩) (I b) bH)/\aA a ⟨o,bN+e*2+1,Z⟩=K (bt bM r)) d1:=R.o _ cQ.o;refine c.o _ _ (λ_=>eW) ?_;clear c g dq;refine Un.pk 27 ?_;try simp only[bG,cz,ct,cr]
        refine Un.on 28 λg c=>?_;go_simp;refine c.o _ _ (λm=>absurd m (by decide)) ?_;clear c g;try simp only[bG,cz,ct,cr]
        refine Un.done (by kernel_rfl) ?_ _;try simp only[bG,cz,ct,cr]
        go_wp2_with fail
        go_roundw
        case rel=>exact⟨e+1,by omega,by go_num,by rw[am.o],L.o.trans (cQ.o.mono L.o.size)⟩
        case measure=>simp[bw];omega
       .rw[if_pos (by rfl)];go_simp;go_at_call 134;refine(a5.o _).mono ?_;rintro u d2 ⟨rfl,a1⟩;have cV:X (aD w d2):=bd.o.trans (a1.mono bd.o.size);have gg:=OC a1 ‹aA _ ⟨U w.heap,0,Z⟩=_›;have eX:(λa=>aA a ⟨d,2,Z⟩=K (ak h.null)/\aA a ⟨d,3,Z⟩=K (bt bM h.n)/\aA a ⟨d,4,Z⟩=K (au h.s)/\aA a ⟨d,5,Z⟩=K (ak i.null)/\aA a ⟨d,6,Z⟩=K (bt bM i.n)/\aA a ⟨d,7,Z⟩=K (au i.s)/\aA a ⟨q,0,Z⟩=K (ah (K ⟨o,bN,Z⟩) (I b) bH)/\aA a ⟨o,bN+e*2+1,Z⟩=K (bt bM r)) d2:=R.o _ cV.o;refine c.o _ _ (λ_=>eX) ?_;clear c g a1;try simp only[bG,cz,ct,cr]
        refine Un.on 2 λg c=>?_;go_simp;refine c.o _ _ (λ_=>by assumption) ?_;clear c g;refine Un.pk 3 ?_;refine Un.pk 15 ?_;refine Un.pk 27 ?_;try simp only[bG,cz,ct,cr]
        refine Un.on 28 λg c=>?_;go_simp;refine c.o _ _ (λm=>absurd m (by decide)) ?_;clear c g;try simp only[bG,cz,ct,cr]
        refine Un.done (by kernel_rfl) ?_ _;try simp only[bG,cz,ct,cr]
        go_wp2_with fail
        go_roundw
        case rel=>exact⟨e+1,by omega,by go_num,by rw[am.o],L.o.trans (cV.o.mono L.o.size)⟩
        case measure=>simp[bw];omega
     .rw[if_pos (by rfl)];go_simp;go_at_call 134;refine(b7.o _).mono ?_;rintro u bY ⟨rfl,ds⟩;have be:X (aD w bY):=Ic ds;have eY:(λa=>aA a ⟨d,2,Z⟩=K (ak h.null)/\aA a ⟨d,3,Z⟩=K (bt bM h.n)/\aA a ⟨d,4,Z⟩=K (au h.s)/\aA a ⟨d,5,Z⟩=K (ak i.null)/\aA a ⟨d,6,Z⟩=K (bt bM i.n)/\aA a ⟨d,7,Z⟩=K (au i.s)/\aA a ⟨q,0,Z⟩=K (ah (K ⟨o,bN,Z⟩) (I b) bH)/\aA a ⟨o,bN+e*2+1,Z⟩=K (bt bM r)) bY:=R.o _ be.o;refine c.o _ _ (λ_=>eY) ?_;clear c g ds;try simp only[bG,cz,ct,cr]
      refine Un.pair (i:=1) (j:=26) (by kernel_rfl) Y Y (λg c=>?_) (λg c=>?_)
      .rw[if_pos (by rfl)];go_simp;have bh:X (aD w (bY.alloc (ax #[bt .u8 1] 5))):=be.o.alloc be.o.size _;have eZ:(λa=>aA a ⟨d,2,Z⟩=K (ak h.null)/\aA a ⟨d,3,Z⟩=K (bt bM h.n)/\aA a ⟨d,4,Z⟩=K (au h.s)/\aA a ⟨d,5,Z⟩=K (ak i.null)/\aA a ⟨d,6,Z⟩=K (bt bM i.n)/\aA a ⟨d,7,Z⟩=K (au i.s)/\aA a ⟨q,0,Z⟩=K (ah (K ⟨o,bN,Z⟩) (I b) bH)/\aA a ⟨o,bN+e*2+1,Z⟩=K (bt bM r)) (bY.alloc (ax #[bt .u8 1] 5)):=R.o _ bh.o;refine c.o _ _ (λ_=>eZ) ?_;clear c g;try simp only[bG,cz,ct,cr]
       refine Un.pair (i:=2) (j:=26) (by kernel_rfl) Y Y (λg c=>?_) (λg c=>?_)
       .rw[if_pos (by rfl)];go_simp;refine c.o _ _ (λ_=>by assumption) ?_;clear c g;refine Un.pk 3 ?_;refine Un.pk 15 ?_;try simp only[bG,cz,ct,cr]
        refine Un.on 26 λg c=>?_;go_simp;go_at_call 134;refine(a5.o _).mono ?_;rintro u d3 ⟨rfl,bD⟩;have cW:X (aD w d3):=bh.o.trans (bD.mono bh.o.size);have e0:(λa=>aA a ⟨d,2,Z⟩=K (ak h.null)/\aA a ⟨d,3,Z⟩=K (bt bM h.n)/\aA a ⟨d,4,Z⟩=K (au h.s)/\aA a ⟨d,5,Z⟩=K (ak i.null)/\aA a ⟨d,6,Z⟩=K (bt bM i.n)/\aA a ⟨d,7,Z⟩=K (au i.s)/\aA a ⟨q,0,Z⟩=K (ah (K ⟨o,bN,Z⟩) (I b) bH)/\aA a ⟨o,bN+e*2+1,Z⟩=K (bt bM r)) d3:=R.o _ cW.o;refine c.o _ _ (λ_=>e0) ?_;clear c g bD;refine Un.pk 27 ?_;try simp only[bG,cz,ct,cr]
        refine Un.on 28 λg c=>?_;go_simp;refine c.o _ _ (λm=>absurd m (by decide)) ?_;clear c g;try simp only[bG,cz,ct,cr]
        refine Un.done (by kernel_rfl) ?_ _;try simp only[bG,cz,ct,cr]
        go_wp2_with fail
        go_roundw
        case rel=>exact⟨e+1,by omega,by go_num,by rw[am.o],L.o.trans (cW.o.mono L.o.size)⟩
        case measure=>simp[bw];omega
       .rw[if_pos (by rfl)];go_simp;go_at_call 134;refine(a5.o _).mono ?_;rintro u dT ⟨rfl,ci⟩;have cJ:X (aD w dT):=bh.o.trans (ci.mono bh.o.size);have ge:=OB ci;have eM:(λa=>aA a ⟨d,2,Z⟩=K (ak h.null)/\aA a ⟨d,3,Z⟩=K (bt bM h.n)/\aA a ⟨d,4,Z⟩=K (au h.s)/\aA a ⟨d,5,Z⟩=K (ak i.null)/\aA a ⟨d,6,Z⟩=K (bt bM i.n)/\aA a ⟨d,7,Z⟩=K (au i.s)/\aA a ⟨q,0,Z⟩=K (ah (K ⟨o,bN,Z⟩) (I b) bH)/\aA a ⟨o,bN+e*2+1,Z⟩=K (bt bM r)) dT:=R.o _ cJ.o;refine c.o _ _ (λ_=>eM) ?_;clear c g ci;try simp only[bG,cz,ct,cr]
        refine Un.on 2 λg c=>?_;go_simp;refine c.o _ _ (λ_=>by assumption) ?_;clear c g;refine Un.pk 3 ?_;refine Un.pk 15 ?_;refine Un.pk 27 ?_;try simp only[bG,cz,ct,cr]
        refine Un.on 28 λg c=>?_;go_simp;refine c.o _ _ (λm=>absurd m (by decide)) ?_;clear c g;try simp only[bG,cz,ct,cr]
        refine Un.done (by kernel_rfl) ?_ _;try simp only[bG,cz,ct,cr]
        go_wp2_with fail
        go_roundw
        case rel=>exact⟨e+1,by omega,by go_num,by rw[am.o],L.o.trans (cJ.o.mono L.o.size)⟩
        case measure=>simp[bw];omega
      .rw[if_pos (by rfl)];go_simp;go_at_call 134;refine(a5.o _).mono ?_;rintro u bR ⟨rfl,dp⟩;have b1:X (aD w bR):=be.o.trans (dp.mono be.o.size);have eP:(λa=>aA a ⟨d,2,Z⟩=K (ak h.null)/\aA a ⟨d,3,Z⟩=K (bt bM h.n)/\aA a ⟨d,4,Z⟩=K (au h.s)/\aA a ⟨d,5,Z⟩=K (ak i.null)/\aA a ⟨d,6,Z⟩=K (bt bM i.n)/\aA a ⟨d,7,Z⟩=K (au i.s)/\aA a ⟨q,0,Z⟩=K (ah (K ⟨o,bN,Z⟩) (I b) bH)/\aA a ⟨o,bN+e*2+1,Z⟩=K (bt bM r)) bR:=R.o _ b1.o;refine c.o _ _ (λ_=>eP) ?_;clear c g dp;try simp only[bG,cz,ct,cr]
       refine Un.on 1 λg c=>?_;go_simp;have cM:X (aD w (bR.alloc (ax #[bt .u8 1] 5))):=b1.o.alloc b1.o.size _;have eQ:(λa=>aA a ⟨d,2,Z⟩=K (ak h.null)/\aA a ⟨d,3,Z⟩=K (bt bM h.n)/\aA a ⟨d,4,Z⟩=K (au h.s)/\aA a ⟨d,5,Z⟩=K (ak i.null)/\aA a ⟨d,6,Z⟩=K (bt bM i.n)/\aA a ⟨d,7,Z⟩=K (au i.s)/\aA a ⟨q,0,Z⟩=K (ah (K ⟨o,bN,Z⟩) (I b) bH)/\aA a ⟨o,bN+e*2+1,Z⟩=K (bt bM r)) (bR.alloc (ax #[bt .u8 1] 5)):=R.o _ cM.o;refine c.o _ _ (λ_=>eQ) ?_;clear c g;try simp only[bG,cz,ct,cr]
       refine Un.on 2 λg c=>?_;go_simp;refine c.o _ _ (λ_=>by assumption) ?_;clear c g;refine Un.pk 3 ?_;refine Un.pk 15 ?_;refine Un.pk 27 ?_;try simp only[bG,cz,ct,cr]
       refine Un.on 28 λg c=>?_;go_simp;refine c.o _ _ (λm=>absurd m (by decide)) ?_;clear c g;try simp only[bG,cz,ct,cr]
       refine Un.done (by kernel_rfl) ?_ _;try simp only[bG,cz,ct,cr]
       go_wp2_with fail
       go_roundw
       case rel=>exact⟨e+1,by omega,by go_num,by rw[am.o],L.o.trans (cM.o.mono L.o.size)⟩
       case measure=>simp[bw];omega
   .obtain rfl:e=I b:=by omega
    have am:X (strOf (ar++mg b k.parts (I b))=strOf (bb++gU b (n.take (f+1)))):=by
     show _=_;rw[bi.o,aw.o.len]
    clear E;go_wp2_with fail
    go_roundw
    case rel=>exact⟨f+1,by omega,by go_num,by rw[am.o],Q.o⟩
    case measure=>simp[bw];omega
  obtain rfl:f=I B:=by omega
  clear E;go_wp2_with fail;go_ret;rw[eb.o];exact⟨rfl,Q.o⟩
end Ec
namespace Ec
open Go.RowKit Pk
def SY{b:List bF}(c:∀a,a<n->oE b a)(d:oE b n):∀a,a<n+1->oE b a:=bh
def Rm{a:List bF}(d:1<=I a)(e:I a<=8)(f:∀b,b<n->oE a b)(g:¬n<I a):nH a:=
 ⟨d,e,λb c=>f b aa c⟩
def IF(a:bF):oO a=af↔1<=bf a.name/\bf a.name<=16/\1<=a.kind/\a.kind<=3:=by
 simp[oO,oo];omega
def Rp(a:List bF)(m:ag)(aC:I a<=aS)(az:o7 m v a):
 bn 102 #[v] m λj aY=>∃M,j=aR (ak M)/\(M=af↔nH a)/\aD m aY:=by
 obtain⟨aZ,y,z,a4,rfl,a5,k⟩:=az;unfold aS at aC;by_cases r:1<=I a/\I a<=8
 .have⟨r,ay⟩:=r;have ad:=ap k;obtain rfl:=k.addr aa;have N:decide ((I a:Int)<1)=ai:=bO;have ao:decide (8<(I a:Int))=ai:=bO;go_enter aE.func102,Tryz.ntmps102;go_wp2_with fail
  go_loopw [3] (λg wr=>∃d:Nat,d<=I a/\g=z9 d/\(∀g,g<d->oE a g)/\aD m wr) (λg _=>I a-bS (bw g))
  exact⟨0,cE _,rfl,λf c=>aa,bU _ _⟩;obtain⟨d,a6,rfl,S,i⟩:=hrel;have a7:=i.size
  skip
  by_cases l:d<I a
  .have k:=ad.o.below i;have V:=k.c0 d l;have bb:=k.c1 d l;have G:X (oO a[d]=ai->¬nH a):=λc h=>by
    have:=(h.2.2 d l).1;rw[c] at this;cases this
   have H:X ((∃e,∃c:e<d,a[e].name=a[d].name)->¬nH a):=by
    rintro⟨e,c,j⟩ h;exact(h.2.2 d l).2 e c j
   have J:X (oO a[d]=af->(¬∃e,∃c:e<d,a[e].name=a[d].name)->∀g,g<d+1->oE a g):=λaw Q=>SY S (λ_=>⟨aw,λe T j=>Q ⟨e,T,j⟩⟩);have C:X (∀e,(c:e<I a)->aJ wr y (z+e*2) (au a[e].name)):=λe c=>k.c0 e c;generalize a9:a[d]=b at*
   skip
   by_cases h:1<=b.name.size/\b.name.size<=16/\1<=b.kind/\b.kind<=3
   .have Y:=ap ((IF b).2 h);have al:=ap (J.o Y.o);have⟨a0,a1,a2,a3⟩:=h;have O:decide ((b.name.size:Int)<1)=ai:=bO;have q:decide (16<(b.name.size:Int))=ai:=bO;have P:decide (b.kind<1)=ai:=bO;have ar:decide (3<b.kind)=ai:=bO;go_wp2_with fail
    go_loopw [4] (λe n=>∃f:Nat,f<=d/\e=n9 f/\(∀s,(c:s<I a)->s<f->a[s].name≠b.name)/\∃w,n=cT wr w) (λe _=>d-bS (bw e))
    exact⟨0,cE _,rfl,λf _ c=>aa,0,rfl⟩
    rename ag=>n
    obtain⟨f,a8,rfl,U,w,t⟩:=hrel;have o:=ap U;have B:X (aD m n):=by rw[t];exact below_drewN i w
    have aj:=ap t;have bc:aA n ⟨y,z+d*2,Z⟩=K (au b.name):=k8;have x:X (∀c:f<I a,aJ n y (z+f*2) (au a[f].name)):=λc=>by rw[t];exact C.o f c
    clear U t;by_cases aG:f<d
    .have aH:f<I a:=by omega
     have bd:=x.o aH;have L:X (a[f].name=b.name->¬nH a):=λc=>H.o ⟨f,aG,c⟩;have E:X (a[f].name≠b.name->∀s,(c:s<I a)->s<f+1->a[s].name≠b.name):=λc s aF Q=>by
      by_cases q:s=f
      .subst q;exact c
      .exact o.o s aF aa
     clear x o;generalize a[f]=A at*;by_cases u:A.name=b.name
     .have am:=ap (L.o u);have aI:(jI A.name==jI b.name)=af:=bh;clear L E u V;go_wp2_with fail;go_quiet (fail);go_wp2;go_ret;exact⟨ai,rfl,by simp only[fA,false_iff];exact am.o,below_drewN B.o _⟩
     .have ae:=ap (E.o u);have aI:(jI A.name==jI b.name)=ai:=by rw[beq_eq_false_iff_ne];exact λc=>u (toList_inj c)
      go_wp2_with fail;go_quiet (fail);go_wp2
      go_roundw
      case rel=>exact⟨f+1,aa,by go_num,ae.o,w+nq,by rw[aj.o];exact r5 _ _ _⟩
      case measure=>simp[bw];omega
    .have W:X (∀g,g<d+1->oE a g):=al.o (by
      rintro⟨e,T,j⟩;exact o.o e (by omega) aa j)
     clear x o V;go_wp2
     go_roundw
     case rel=>exact⟨d+1,aa,by go_num,W.o,B.o⟩
     case measure=>simp[bw];omega
   .have p:X (¬nH a):=G.o (by rw[Bool.eq_false_iff];exact λc=>h ((IF b).1 c));have D:=ap h;clear G H J h C;by_cases aL:b.name.size<1
    .have O:decide ((b.name.size:Int)<1)=af:=by simp;omega
     go_wp2
     all_goals go_ret
     all_goals exact⟨ai,rfl,by simp only[fA,false_iff];exact p.o,i⟩
    have O:decide ((b.name.size:Int)<1)=ai:=bO;by_cases aM:16<b.name.size
    .have q:decide (16<(b.name.size:Int))=af:=by simp;omega
     go_wp2
     all_goals go_ret
     all_goals exact⟨ai,rfl,by simp only[fA,false_iff];exact p.o,i⟩
    have q:decide (16<(b.name.size:Int))=ai:=bO;by_cases aQ:b.kind<1
    .have P:decide (b.kind<1)=af:=by simp;omega
     go_wp2
     all_goals go_ret
     all_goals exact⟨ai,rfl,by simp only[fA,false_iff];exact p.o,i⟩
    have P:decide (b.kind<1)=ai:=bO;have ar:decide (3<b.kind)=af:=by
     have:=D.o;simp;omega
    clear aL aM aQ D;go_wp2
    all_goals go_ret
    all_goals exact⟨ai,rfl,by simp only[fA,false_iff];exact p.o,i⟩
  have ab:=ap (Rm r ay S l)
  skip
  go_wp2;go_ret;exact⟨af,rfl,by simp only[true_iff];exact ab.o,i⟩
 .have R:¬nH a:=λc=>r ⟨c.1,c.2.1⟩;by_cases ba:I a<1
  .have N:decide ((I a:Int)<1)=af:=by simp;omega
   go_enter aE.func102,Tryz.ntmps102;go_wp2
   all_goals go_ret
   all_goals exact⟨ai,rfl,by simp only[fA,false_iff];exact R,bU _ _⟩
  .have N:decide ((I a:Int)<1)=ai:=by simp;omega
   have ao:decide (8<(I a:Int))=af:=bO;go_enter aE.func102,Tryz.ntmps102;go_wp2
   all_goals go_ret
   all_goals exact⟨ai,rfl,by simp only[fA,false_iff];exact R,bU _ _⟩
end Ec
namespace Ec
open Go.RowKit Pk Pm
def Jj{e j:Type}{f c:e->List j}{a:List e}(d:∀b∈a,f b=c b):a.flatMap f=a.flatMap c:=by
 induction a with
 |nil=>rfl
 |cons b k h=>rw[lD,lD,d b aF,h (λi g=>d i (by simp[g]))]
def aE.Tt:((aM av).info? 128).map (λa=>(jL a,a.size,ji a))=K (K (cw UE),9,96):=bl
def aE.Ts:((aM av).info? 122).map (λa=>(jL a,a.size,ji a))=K (K (cw #[z9 0,aH]),2,32):=bl
def UB(a:ag){c:e8}:∀(b:Nat) (d:F),(eN c)[b]? =K d->aA (cD a (ax (cX (eN c)) Qc)) ((⟨U a.heap,0,Z⟩:aN).add b)=K d:=
 World.news_of_block (jY a _)
def UC{c:e8}:∀b∈eN c,nM b=af:=by
 intro b a;simp[eN] at a;rcases a with rfl|rfl|rfl|rfl|rfl|rfl|rfl|rfl|rfl<;>rfl
def Nj(a:ag){b:c9}:∀(c:Nat) (d:F),(ir (b,v))[c]? =K d->aA (cD a (ax (cX (ir (b,v))) Qc)) ((⟨U a.heap,0,Z⟩:aN).add c)=K d:=
 World.news_of_block (jY a _)
def Cut (s:ByteArray)(b a:List Nat):Prop:=bf s<=65536/\bytesOf s=nl++(b++(a++(iS (I a)++nl)))
def Cut.len{s:ByteArray}(a:Cut s l L):bf s=I l+I L+12:=by
 have:=congrArg I a.2;rw[cJ] at this;simp[nl,iS] at this;omega
def TX(b:n<=65536)(c:m<=65536)(a:iS n=iS m):n=m:=by
 unfold iS at a;simp at a;omega
def Cut.mj{s:ByteArray}(a:Cut s l L)(b:Cut s qE qF):l=qE/\L=qF:=by
 have i:=a.len;have j:=b.len;have h:=a.1;have c:=aB a.2.symm b.2;have g:=List.append_cancel_left c;have d:(l++L)++(iS (I L)++nl)=(qE++qF)++(iS (I qF)++nl):=bh;have⟨e,f⟩:=List.append_inj' d (by simp[iS]);exact List.append_inj' e (TX aa aa (List.append_cancel_right f))
def hO (b:List (bF×Int))(a:List Bd):List Nat:=kG b++(bc (I a)++oe (b.map bp) a)
structure jy(l:List (bF×Int))(bs:List Bd):Prop where
 pl:kV l
 eV:∀b∈bs,lT (l.map bp) b
 rows:gK bs<=2000
def kT (s:ByteArray)(b:List (bF×Int))(a:List Bd):Prop:=jy b a/\Cut s (fi a) (hO b a)
def n3 (s:ByteArray)(d:List bF)(g e:Nat):Prop:=
 (∃b a,kT s b a/\d=b.map bp/\g=gK a/\e=0/\∀f c,kT s f c->f=b/\gK c=gK a)\/((∀b a,¬kT s b a)/\d=[]/\g=0/\e=3)
def Rj{b:List (bF×Int)}:∀a,a<=I b->ng (b.map bp) (b.map eu) a=iI (b.take a):=by
 intro a
 induction a with
 |zero=>intro _;simp[ng,iI]
 |succ a e=>
  intro f;rw[II,e aa,gh aa,CG];congr 1;unfold xL lP;have c:aX (b.map bp) a ⟨⟨#[]⟩,0⟩=b[a].1:=by rw[ep,dH bh];simp
  have d:aX (b.map eu) a 0=b[a].2:=by rw[ep,dH bh];simp
  rw[c,d]
def kZ (a:List (bF×Int))(b:List c9):List Nat:=kG a++(bc (I b)++gU (a.map bp) b)
def SC{a:List (bF×Int)}{b:List c9}:zF (a.map bp) (a.map eu) b=kZ a b:=by
 unfold zF kZ kG;rw[Rj _ aF,ee,iZ,iD]
structure mo(w W:ag)(g r q n:Nat)(kv:F)(l:List fc):Prop where
 res:W.heap[U w.heap]? =K (ax #[z9 0,ah Z 0 0] 139 (0,0))
 box:W.heap[g]? =K (ax #[n9 n,kv] 139 (0,0))
 own:aT W (U w.heap) 143 8 kv (I l) (sB l)
 kp:eL r q w W
def mo.step{c:List fc}(a:mo w u n m k i v c)(e:m<U w.heap)(d:k<U w.heap)(f:U w.heap<n)(b:eL m k u W):mo w W n m k i v c:=
 ⟨b.keep a.res aa aa,b.keep a.box aa aa,b.own a.own e d,a.kp.trans b⟩
def mo.below{c:List fc}(a:mo w u n m k i v c)(b:aD u W):mo w W n m k i v c:=
 ⟨(cS b _ (bC a.res)).trans a.res,(cS b _ (bC a.box)).trans a.box,eM a.own b,a.kp.trans (eL.iT b)⟩
def mo.cells{c:List fc}(b:mo w u n m k i v c):
 aA u ⟨n,0,Z⟩=K (n9 i)/\aA u ⟨n,1,Z⟩=K v/\cU u ⟨n,1,Z⟩=ai:=by
 have a:=b.box;exact⟨by simp[aA,a],by simp[aA,a],by simp[cU,a]⟩
def mo.kept{d:List fc}(a:mo w u n m k i v d)(c:dA u W v x):
 aA W ⟨n,1,Z⟩=K v/\cU W ⟨n,1,Z⟩=ai:=by
 have b:=aB (c.dR.block _ (bC a.box) (ew a.own a.box ay)) a.box;exact⟨by simp[aA,b],by simp[cU,b]⟩
def mo.oQ{j c:List fc}(a:mo w u n m k i v j)(o:U w.heap<n)(b:dA u W v x)(f:aT W (U w.heap) 143 8 x (I c) (sB c)):
 mo w (bg W ⟨n,1,Z⟩ x) n m k i x c:=by
 have g:=aB (b.dR.block _ (bC a.res) (ew a.own a.res ay)) a.res;have e:=aB (b.dR.block _ (bC a.box) (ew a.own a.box ay)) a.box;refine⟨?_,(eE W n 1 _ _ x e),?_,?_⟩;rw[ef _ _ _ _ bO];exact g;exact fK f (eJ W _ 1 x) (an (ew f e ay).symm);exact(a.kp.grown b.dR (λd h=>(a.own.lt d h).1)).grown (eJ W n 1 x) (λd l=>bh)
def mo.reader{e:List fc}(c:mo w u n m k i v e)(f:U w.heap<n)(d:dA u W v x)(g:j<U w.heap)(a:u.heap[j]? =K Qk):(bg W ⟨n,1,Z⟩ x).heap[j]? =K Qk:=by
 rw[ef _ _ _ _ bO,d.dR.block j (bC a) (λb=>cB ((c.own.lt j (bA b)).1))];exact a
def HO (b:List bF)(l:ag)(k c:Nat)(s:ByteArray)(j d:Nat)(e:ByteArray)(h:gL)(g:ag):Prop:=
 eL k j l g/\((∃(a:Bd) (i:F),h=aR (cw #[n9 a.rows,i])/\lT b a/\aQ (bytesOf s) c (jZ b a)/\c+I (jZ b a)<=s.size/\g.heap[k]? =K (bR s (c+I (jZ b a)))/\aQ (bytesOf e) d (fy a.chunks)/\d+I (fy a.chunks)<=e.size/\g.heap[j]? =K (bR e (d+I (fy a.chunks)))/\
  aT g (U l.heap) 143 8 i (I a.chunks) (sB a.chunks)/\(∀f,lT b f->aQ (bytesOf s) c (jZ b f)->aQ (bytesOf e) d (fy f.chunks)->f=a))\/
  (∃m,h=gO (g3 m)/\∀a,lT b a->aQ (bytesOf s) c (jZ b a)->¬aQ (bytesOf e) d (fy a.chunks)))
def Sg(z B:Option aN)(y:Nat)(v:F)(a:List (Bd×F))(o:ag)(r:o6 o y v a)(ad:I a<=65536)(x:∀q∈a.map bp,q.rows<=100):
 bn 45 #[cw #[ah z n m,ah B k i,v]] o λA N=>A=aR (n9 (gK (a.map bp)))/\aD o N:=by
 have D:∀t∈a,∃h g e,t.2=ah h g e:=λt K=>by
  have⟨h,e,C⟩:=gG (r.each t K);exact⟨h,_,e,C⟩
 have⟨R,Q,E⟩:=gG r.own;have c:=vD.gC IQ r.own;subst E;have⟨P,j,l,V,G,c⟩:=c;cases G;go_enter aE.func45,Tryz.ntmps45;go_wp2_with fail
 go_loopw [3,9] (λg s wr=>∃b:Nat,b<=I a/\s=n9 b/\g=n9 (gK ((a.map bp).take b))/\aD o wr) (λ_ s _=>I a-bS (bw s))
 exact⟨0,cE _,rfl,rfl,nK (bU _ _) (aV _) _⟩;obtain⟨b,ab,rfl,rfl,d⟩:=hrel;have u:=ap d;have M:=d.size;by_cases f:b<I a
 .have J:b<I (a.map bp):=by rw[ee];exact f
  have p:X (gK ((a.map bp).take (b+1))=gK ((a.map bp).take b)+a[b].1.rows):=by
   show _=_;rw[X3 J];simp
  have aj:gK ((a.map bp).take b)<=65536*100:=by
   have U:=LB ((a.map bp).take b) (λq d=>x q (xo d));have W:I ((a.map bp).take b)<=65536:=bO;omega
  have ae:a[b].1.rows<=100:=x _ (kA.2 ⟨a[b],c8 f,rfl⟩);have⟨h,g,e,L⟩:=D a[b] (c8 f);have H:=c.addr aa;subst H;have w:=c.lt aa;have S:aJ wr j (l+b*2) (n9 (a[b].1.rows)):=aB (bq d (p:=⟨j,l+b*2,Z⟩) w) (c.c b f 0 _ Y);have T:aJ wr j (l+b*2+1) (ah h g e):=aB (bq d (p:=⟨j,l+b*2+1,Z⟩) w) (by rw[<-L];exact c.c b f 1 _ Y);generalize a[b].1.rows=al at*;generalize gK ((a.map bp).take b)=O at*;go_wp2_with fail
  go_roundw
  exact⟨b+1,by omega,by go_num,by rw[p.o];go_num,nK u.o M _⟩;simp[bw];omega
 obtain rfl:b=I a:=aa;have p:X ((a.map bp).take (I a)=a.map bp):=by show _=_;rw[<-ee (f:=bp),iZ]
 go_wp2;go_ret;exact⟨by first|rfl|(rw[p.o];rfl),u.o⟩
def ab4(a:n<256):dr (n:Int)=(n:Int)/\bM.wrap (n:Int)=(n:Int):=by
 constructor;unfold dr;omega;rw[kw];omega
def Oh (e:ag)(i b:Nat)(s:ByteArray)(g:gL)(c:ag):Prop:=
 Kp i e c/\((∃(a:List (bF×Int)) (f h:F),g=aR (cC #[f,h])/\kV a/\aQ (bytesOf s) b (kG a)/\b+I (kG a)<=s.size/\c.heap[i]? =K (bR s (b+I (kG a)))/\aT c (U e.heap) 63 2 f (I a) (kX (a.map bp))/\aT c (U e.heap) 3 1 h (I a) (cW (a.map eu))/\(∀d,kV d->aQ (bytesOf s) b (kG d)->d=a))\/
  (∃j,g=gO (g3 j)/\∀a,kV a->¬aQ (bytesOf s) b (kG a)))
def W9(c f:Nat)(s:ByteArray)(d4:s.size<=65536)(dy:f<=s.size)(bv:w.heap[c]? =K (bR s f)):
 bn 94 #[(aZ c)] w (Oh w c f s):=by
 have⟨dP,dk,dK,dL,dO⟩:=eU aE.JG;have⟨dS,dB,dE,dF,dI⟩:=eU aE.pP;have x:=bC bv;have M:s.size<=aS:=gy
 skip
 go_enter aE.func94,Tryz.ntmps94;go_wp2_with fail;refine bL (wv c f s M dy bv) ?_;rintro e d8 ⟨bI,⟨A,rfl,dt,a6,b0,bJ⟩|⟨t,rfl,p⟩⟩;rotate_left
 .have aG:X (∀a,kV a->¬aQ (bytesOf s) f (kG a)):=λa dl d=>p _ dl.each.2 (dn.1 d).1;have cl:=ap bI;go_wp2;exact⟨rfl,cl.o,an ⟨t,rfl,aG.o⟩⟩
 .skip
  have j:=ap dt;obtain⟨y,ar⟩:∃y,y=f+I (bc A):=⟨_,rfl⟩;rw[<-ar] at b0 bJ;have d5:(A:Int)<2147483648:=aa;go_wp2_with fail
  go_loopw [2,3,7] (λc4 c6 a7 wr=>∃a:List (bF×Int),a7=n9 (I a)/\jN iI tc (bytesOf s) y A a/\y+I (iI a)<=s.size/\wr.heap[c]? =K (bR s (y+I (iI a)))/\aT wr (U w.heap) 63 2 c4 (I a) (kX (a.map bp))/\aT wr (U w.heap) 3 1 c6 (I a) (cW (a.map eu))/\Kp c w wr) (λ_ _ a7 _=>A-bS (bw a7))
  exact⟨[],rfl,jN.zero Y,by simpa [iI] using b0,by simpa [iI] using bJ,iO _ _ _ _,iO _ _ _ _,bI⟩
  skip
  obtain⟨a,rfl,H,a5,c9,aj,am,a0⟩:=hrel;have R:=ap c9;have b2:I a<=65536:=cB (VB a);have d1:=H.le;obtain⟨n,N⟩:∃n,n=y+I (iI a):=⟨_,rfl⟩;rw[<-N] at a5 R;by_cases a4:I a<A
  .have P:X ((∀g,tc g->¬aQ (bytesOf s) n (lP g))->∀b,kV b->¬aQ (bytesOf s) f (kG b)):=λz b h d=>by
    have⟨S,u⟩:=dn.1 d;have L:=jS (cB h.each.2) aa S a6;rw[L] at u;refine H.fail (e:=λ_ g=>lP g) CG a4 (λg k=>?_) b L h.each.1 (by rw[ar];exact u);rw[<-N];exact z g k
   go_wp2_with fail;refine bL (wv c n s M a5 R.o) ?_;rintro e d9 ⟨T,⟨v,rfl,D,C,b1,bN⟩|⟨t,rfl,p⟩⟩;rotate_left
   .have aG:=P.o (λg k d=>p _ k.n (dn.1 d).1);have j:=ap aG;have Q:=ap (a0.trans T);go_wp2;exact⟨rfl,Q.o,an ⟨t,rfl,j.o⟩⟩
   .skip
    have dC:v<=2147483648:=aa;have Q:=ap (a0.trans T);have cs:=ap (T.own aj x);have cA:=ap (T.own am x);obtain⟨r,i⟩:∃r,r=n+I (bc v):=⟨_,rfl⟩;rw[<-i] at b1 bN;go_wp2_with fail;refine bL (M3 c r v s M b1 dC bN) ?_;rintro e eb ⟨V,⟨l,rfl,O,aw,dm,bP⟩|⟨t,rfl,p⟩⟩;rotate_left
    .have j:X (∀b,kV b->¬aQ (bytesOf s) f (kG b)):=P.o (λg k d=>p (bytesOf g.1.name) (by rw[cJ];exact FH k D C d) (by unfold lP at d;rw[FH k D C (by unfold lP;exact d)] at d;rw[i];exact(dn.1 (dn.1 d).2).1));have E:=ap (Q.o.trans V);go_wp2;exact⟨rfl,E.o,an ⟨t,rfl,j.o⟩⟩
    .skip
     have cn:=ap (Q.o.trans V);have cu:=ap (V.own cs.o x);have cG:=ap (V.own cA.o x);have dJ:l.size<=65536:=aa;have ch:X (∀m,bn 66 #[au l] m λe B=>e=aR (au l)/\aD m B):=λm=>ID l m dJ;go_upto_region 4 with(go_at_call 66;refine bL (ch.o _) ?_;rintro e dX ⟨rfl,ad⟩);have ba:=ap (cn.o.trans (Kp.iT ad));have cv:=ap (eM cu.o ad);have cM:=ap (eM cG.o ad);have cZ:X (dX.heap[c]? =K (bR s (r+v))):=(ad.block _ (bC bP)).trans bP;go_wp2_with fail;refine bL (Io c (r+v) s M dm cZ.o) ?_;rintro e cb ⟨W,⟨q,rfl,bZ,b7,dp,da⟩|⟨t,rfl,p⟩⟩;rotate_left
     .have j:X (∀b,kV b->¬aQ (bytesOf s) f (kG b)):=P.o (λg k d=>p _ (mW.2 (uv.1 (by have:=(FI k D C O (by rw[<-i];exact aw) d).2;rw[<-i] at this;exact this)).1));have E:=ap (ba.o.trans W);go_wp2;exact⟨rfl,E.o,an ⟨t,rfl,j.o⟩⟩
     .skip
      have bb:=ap (ba.o.trans W);have al:=W.own cv.o x;have bk:=ap (W.own cM.o x);have d6:=bb.o.size;have F:=ap b2;go_upto_region 5 with(at_builtin;refine wpList_append_lies _ Y _ _ 44 Y (U w.heap) 63 dP _ 2 24 aE.underlying44 dk dK dL dO Y ay _ (I a) _ Y (mB al _) ⟨U cb.heap,0,Z⟩ 1 1 [au l,n9 q] Y Y (Ni cb) (by intro dT z;simp at z;rcases z with rfl|rfl<;>rfl) ay (by have:=F.o;unfold aS;omega) (cB F.o) bO _ Y ?_;intro c7 bo a8 dv df dc d2);have a2:=dA.k4 (n:=I a+1) (cap:=bo) df dc;have bd:X (Kp c w a8):=bb.o.grown a2.dR (λaY a1=>(al.lt aY a1).1);have c0:X (a8.heap[c]? =K (bR s (r+v+1))):=(a2.dR.block c aa (λe=>cB ((al.lt c (bA e)).1))).trans da;have cP:X (aT a8 (U w.heap) 3 1 u3 (I a) (cW (a.map eu))):=ju bk.o a2 (l7 bk.o al ay);generalize ah (K ⟨c7,0,Z⟩) (I a+1) bo=c5 at*;go_wp2_with fail;refine bL (Io c (r+v+1) s M dp c0.o) ?_;rintro e cc ⟨ab,⟨o,rfl,bY,ca,dq,db⟩|⟨t,rfl,p⟩⟩;rotate_left
      .have j:X (∀b,kV b->¬aQ (bytesOf s) f (kG b)):=P.o (λg k d=>p _ (by have:=(FI k D C O (by rw[<-i];exact aw) d).2;rw[<-i] at this;exact(uv.1 this).2));have E:=ap (bd.o.trans ab);go_wp2;exact⟨rfl,E.o,an ⟨t,rfl,j.o⟩⟩
      .skip
       have be:=ap (bd.o.trans ab);have bj:=ap (ab.own dv x);have ao:=ab.own cP.o x;have d7:=be.o.size
       skip
       go_upto_region 6 with(at_builtin;refine wpList_append_lies _ Y _ _ 22 Y (U w.heap) 3 dS _ 1 8 aE.underlying22 dB dE dF dI Y ay _ (I a) _ Y (mB ao _) ⟨U cc.heap,0,Z⟩ 1 1 [n9 o] Y Y (ot cc) (by intro dT z;simp at z;subst z;rfl) ay (by have:=F.o;unfold aS;omega) (cB F.o) bO _ Y ?_;intro bu aL az b4 dg dd d3);have a3:=dA.k4 (n:=I a+1) (cap:=aL) dg dd;have co:X (Kp c w az):=be.o.grown a3.dR (λaY a1=>(ao.lt aY a1).1);have c1:X (az.heap[c]? =K (bR s (r+v+1+1))):=(a3.dR.block c aa (λe=>cB ((ao.lt c (bA e)).1))).trans db;have cQ:X (aT az (U w.heap) 3 1 (ah (K ⟨bu,0,Z⟩) (I a+1) aL) (I (a++[((⟨l,(q:Int)⟩:bF),(o:Int))])) (cW ((a++[((⟨l,(q:Int)⟩:bF),(o:Int))]).map eu))):=by
        show aT _ _ _ _ _ _ _;rw[cN,gY];unfold cW at b4 ⊢;rw[gY];exact b4
       have cx:X (aT az (U w.heap) 63 2 c5 (I (a++[((⟨l,(q:Int)⟩:bF),(o:Int))])) (kX ((a++[((⟨l,(q:Int)⟩:bF),(o:Int))]).map bp))):=by
        have:=ju bj.o a3 (l7 bj.o ao ay);show aT _ _ _ _ _ _ _;rw[cN,gY,Iz];exact this
       have b5:=VA C O (by rw[<-i];exact aw) (by rw[<-i];exact b7) (by rw[<-i];exact ca) bZ bY;have cp:X (jN iI tc (bytesOf s) y A (a++[((⟨l,(q:Int)⟩:bF),(o:Int))])):=H.more (e:=λ_ g=>lP g) CG a4 ⟨by have:=O;have:=D;show l.size<_;omega,by show(0:Int)<=(q:Int);omega,by have:=bZ;show(q:Int)<256;omega,by show(0:Int)<=(o:Int);omega,by have:=bY;show(o:Int)<256;omega⟩ (by rw[<-N];exact b5.1) (λg k d=>by
        rw[<-N] at d;exact Vz k D C O (by rw[<-i];exact aw) (by rw[<-i];exact b7) (by rw[<-i];exact ca) d)
       have bl:X (y+I (iI (a++[((⟨l,(q:Int)⟩:bF),(o:Int))]))=r+v+1+1):=by
        show _=_;have S:=N;have u:=i;rw[CG,cN,b5.2];omega
       generalize ah (K ⟨bu,0,Z⟩) (I a+1) aL=d0 at*;have b2:=F.o;go_wp2_with fail
       go_roundw
       case rel=>exact⟨_,by rw[cN];go_num,cp.o,by rw[bl.o];exact dq,by rw[bl.o];exact c1.o,cx.o,cQ.o,co.o⟩
       case measure=>simp[bw];omega
  have aC:=H.done a4;have aJ:X (∀b,kV b->aQ (bytesOf s) f (kG b)->b=a):=λb h d=>by
   have⟨S,u⟩:=dn.1 d;have L:=jS (cB h.each.2) aa S a6;rw[L,<-ar] at u;exact aC.2 b L h.each.1 u
  have aH:X (f+I (kG a)=n/\aQ (bytesOf s) f (kG a)):=by
   have u:=ar;have bx:=aC.1;refine⟨by unfold kG;rw[cN,bx];omega,?_⟩;unfold kG;rw[bx];exact dn.2 ⟨a6,by rw[<-u];exact H.st⟩
  obtain⟨aM,bH,rfl⟩:=gG aj;obtain⟨bs,br,rfl⟩:=gG am;have a9:X (o7 wr (ah aM (I a) bH) (a.map bp)):=o7.gC (by rw[ee];exact aj);have ck:X (iC wr (ah bs (I a) br) (a.map eu)):=iC.gC (by rw[ee];exact am);have b3:I (a.map bp)<=aS:=by rw[ee];unfold aS;omega
  have ds:I (a.map eu)<=aS:=by rw[ee];unfold aS;omega
  have cf:X (bn 55 #[ah aM (I a) bH] wr λe B=>∃G,e=aR (ak G)/\(G=af↔nH (a.map bp))/\aD wr B):=OJ (a.map bp) wr b3 a9.o;have cg:X (∀m,aD wr m->bn 57 #[ah bs (I a) br,ah aM (I a) bH] m λe B=>∃G,e=aR (ak G)/\(G=af↔rY (a.map bp) (a.map eu))/\aD m B):=λm bV=>OK (a.map bp) (a.map eu) m b3 ds (a9.o.below bV) (ck.o.lower bV);have du:A=I a:=bA aC.1;subst du;go_wp2_with fail;refine bL cf.o ?_;rintro e cd ⟨c2,rfl,bD,J⟩;have bh:=ap (a0.trans (Kp.iT J));have aI:X (cd.heap[c]? =K (bR s n)):=(J.block c (bC R.o)).trans R.o;cases c2
  .have j:X (∀b,kV b->¬aQ (bytesOf s) f (kG b)):=λb h d=>by
    have:=aJ.o b h d;rw[this] at h;exact absurd (bD.2 h.1) aF
   go_wp2_with (go_at_call 97;refine bL (lN c n s _ aI.o) ?_;rintro e B ⟨rfl,rfl⟩);exact⟨rfl,bh.o,an ⟨_,rfl,j.o⟩⟩
  have ci:=ap (bD.1 Y)
  skip
  go_wp2_with fail;refine bL (cg.o cd J) ?_;rintro e dZ ⟨c3,rfl,bE,ae⟩;have bi:=ap (bh.o.trans (Kp.iT ae));have bm:X (dZ.heap[c]? =K (bR s n)):=(ae.block c (bC aI.o)).trans aI.o;have cy:=ap (eM (eM aj J) ae);have cV:=ap (eM (eM am J) ae);cases c3
  .have j:X (∀b,kV b->¬aQ (bytesOf s) f (kG b)):=λb h d=>by
    have:=aJ.o b h d;rw[this] at h;exact absurd (bE.2 h.2) aF
   go_wp2_with (go_at_call 97;refine bL (lN c n s _ bm.o) ?_;rintro e B ⟨rfl,rfl⟩);exact⟨rfl,bi.o,an ⟨_,rfl,j.o⟩⟩
  have cY:X (kV a):=⟨ci.o,bE.1 Y⟩;go_wp2;go_ret2;exact⟨bi.o,aq ⟨a,_,_,rfl,cY.o,aH.o.2,by rw[aH.o.1];exact a5,by rw[aH.o.1];exact bm.o,cy.o,cV.o,aJ.o⟩⟩
def Ex{b:List bF}(f:aT w n 63 2 (ah O m k) (I b) (kX b))(p:0<I b):∃a,O=K ⟨a,0,Z⟩/\n<=a/\a<U w.heap/\uD w O a 0 b:=by
 rcases f.2 with⟨h,q⟩|⟨a,l,o,h,j,i,t,r,s,u⟩;omega;cases h;have g:=f.cells (g:=a) Y;refine⟨a,rfl,j,bC i,⟨λ_=>rfl,λ_=>bC i,λe d=>?_,λe d=>?_⟩⟩;have:=g _ _ (pO (λc:bF=>[au c.name,bt bM c.kind]) 2 (λ_=>rfl) b e d 0 _ Y);simpa [lU] using this;have:=g _ _ (pO (λc:bF=>[au c.name,bt bM c.kind]) 2 (λ_=>rfl) b e d 1 _ Y);simpa [lU] using this
def W6(a:List bF)(g l i k bj:Nat)(s h:ByteArray)(d:ag)(eS:g≠i)(eQ:s.size<=65536)(eV:h.size<=65536)(dS:l<=s.size)(dX:k<=h.size)(R:d.heap[g]? =K (bR s l))(u:d.heap[i]? =K (bR h k))(du:g<bj)(dv:i<bj)
 (cb:aT d bj 63 2 x (I a) (kX a)) (eM:I a<=8) (dI:∀O (R:O<I a),a[O].kind=1\/a[O].kind=2\/a[O].kind=3):
 bn 96 #[(aZ g),(aZ i),x] d (HO a d g l s i k h):=by
 have⟨d4,dF,d0,d1,d2⟩:=eU aE.Tv;have aF:=bC R;have aD:=bC u;have bs:s.size<=aS:=gy;have d3:h.size<=aS:=gy;obtain⟨es,bH,rfl⟩:=gG cb;have c5:X ((d.alloc (ax #[z9 0,aH] 139)).heap[g]? =K (bR s l)):=by
  show _=_;rw[e6 _ _ g aF];exact R
 have c1:X ((d.alloc (ax #[z9 0,aH] 139)).heap[i]? =K (bR h k)):=by
  show _=_;rw[e6 _ _ i aD];exact u
 have bP:X (eL g i d (d.alloc (ax #[z9 0,aH] 139))):=(eL.refl g i d).alloc _;go_enter aE.func96,Tryz.ntmps96;go_wp2_with fail;refine bL (wv g l s bs dS c5.o) ?_;rintro E J ⟨aw,⟨e,rfl,ck,a5,ch,dp⟩|⟨m,rfl,ab⟩⟩;rotate_left
 .have z:X (∀c,lT a c->aQ (bytesOf s) l (jZ a c)->¬aQ (bytesOf h) k (fy c.chunks)):=λc r ad=>fe (ab _ (cB r.hi) (dn.1 ad).1);have cP:=ap (bP.o.trans (eL.sD aw));go_wp2;exact⟨rfl,cP.o,an ⟨m,rfl,z.o⟩⟩
 .have dl:J.heap[i]? =K (bR h k):=Kp.block aw c1.o aa;have n:mo d (J.alloc (ax #[n9 e,aH] 139)) (U J.heap) g i e aH []:=by
   refine⟨?_,jY J _,iO _ _ _ _,(bP.o.trans (eL.sD aw)).alloc _⟩;have:=Kp.block aw (kQ d (ax #[z9 0,aH] 139)) aa;exact alloc_old (by simpa using bC this) this
  have al:U d.heap<U J.heap:=by have:=aw.size;simp at this;omega
  have a1:(J.alloc (ax #[n9 e,aH] 139)).heap[g]? =K (bR s (l+I (bc e))):=by rw[e6 _ _ g (by omega)];exact dp
  have dm:(J.alloc (ax #[n9 e,aH] 139)).heap[i]? =K (bR h k):=by rw[e6 _ _ i (by omega)];exact dl
  go_upto_region 2 with fail;generalize J.alloc (ax #[n9 e,aH] 139)=el at*;generalize U J.heap=M at*;obtain⟨B,a3⟩:∃B,B=l+I (bc e):=⟨_,rfl⟩;rw[<-a3] at a1 ch;have ao:=ap n;have⟨cp,bE,ec⟩:=n.cells;by_cases cd:1<=e/\e<=100;rotate_left
  .have z:X (∀c,lT a c->aQ (bytesOf s) l (jZ a c)->¬aQ (bytesOf h) k (fy c.chunks)):=λc r ad=>by
    have:=jS (cB r.hi) aa (dn.1 ad).1 a5;have S:=r.lo;have u:=r.hi;omega
   by_cases eC:e<1
   .have cc:decide ((e:Int)<1)=af:=by simp;omega
    go_wp2_with (go_at_call 97;refine bL (lN g B s _ a1) ?_;rintro E eh ⟨rfl,rfl⟩);exact⟨rfl,ao.o.kp,an ⟨_,rfl,z.o⟩⟩
   have cc:decide ((e:Int)<1)=ai:=bO;have dC:decide (100<(e:Int))=af:=bO;go_wp2_with (go_at_call 97;refine bL (lN g B s _ a1) ?_;rintro E eh ⟨rfl,rfl⟩);exact⟨rfl,ao.o.kp,an ⟨_,rfl,z.o⟩⟩
  .have cc:decide ((e:Int)<1)=ai:=by simp;omega
   have dC:decide (100<(e:Int))=ai:=bO;go_upto_region 4 with fail;go_wp2_with fail
   go_loopw [26] (λO wr=>∃(b:List fc) (j:F),O=n9 (I b)/\Q2 (sw a) fy (w6 a) (bytesOf s) B (bytesOf h) k (I a) b/\mo d wr M g i e j b/\B+I (sw a b)<=s.size/\wr.heap[g]? =K (bR s (B+I (sw a b)))/\k+I (fy b)<=h.size/\wr.heap[i]? =K (bR h (k+I (fy b)))) (λO _=>I a-bS (bw O))
   exact⟨[],_,rfl,Q2.zero Y Y,ao.o,by simpa [sw,ul] using ch,by simpa [sw,ul] using a1,by simpa [fy] using dX,by simpa [fy] using dm⟩;obtain⟨b,j,rfl,V,n,cn,bo,bv,bm⟩:=hrel;have ao:=ap n;obtain⟨w,am⟩:∃w,w=B+I (sw a b):=⟨_,rfl⟩;obtain⟨H,a6⟩:∃H,H=k+I (fy b):=⟨_,rfl⟩;have aj:=ap a6;rw[<-am] at cn bo;rw[<-a6] at bv bm;have eN:I b<=I a:=V.le;have cA:=ap (n.kp.own cb du dv);by_cases W:I b<I a
   .have bb:X ((∀C,w6 a (I b) C->aQ (bytesOf s) w (sv a b C)->¬aQ (bytesOf h) H (bytesOf C.text))->∀c,lT a c->aQ (bytesOf s) l (jZ a c)->¬aQ (bytesOf h) k (fy c.chunks)):=λa6 c r ad a2=>by
     have⟨S,u⟩:=dn.1 ad;have az:=jS (cB r.hi) (cB ck) S a5;rw[az,<-a3] at u;refine V.fail (e:=sv a) (g:=λ_ f=>bytesOf f.text) (Et a) G6 W (λC A p G=>?_) c.chunks r.len r.each u a2;rw[<-am] at p;rw[<-aj.o] at G;exact a6 C A p G
    have⟨er,dB,eI,eK,ca⟩:=Ex cA.o aa;subst dB;have d7:=ca.c0 (I b) W;have d8:=ca.c1 (I b) W;simp only[e7] at d7 d8;have bN:=ap (dI (I b) W);have ae:X (aX a (I b) ⟨⟨#[]⟩,0⟩=a[I b]):=by show _=_;rw[ep,dH W];rfl
    generalize a2:a[I b]=f at*;go_upto_region 7 with fail;have b0:X (mo d (wr.alloc (ax #[au f.name,z9 f.kind] 63)) M g i e j b):=ao.o.below ((bU _ _).alloc (aV _) _);have c7:X ((wr.alloc (ax #[au f.name,z9 f.kind] 63)).heap[g]? =K (bR s w)):=by show _=_;rw[e6 _ _ g (by omega)];exact bo
    have c2:X ((wr.alloc (ax #[au f.name,z9 f.kind] 63)).heap[i]? =K (bR h H)):=by show _=_;rw[e6 _ _ i (by omega)];exact bm
    have dd:X ((wr.alloc (ax #[au f.name,z9 f.kind] 63)).heap[U wr.heap]? =K (ax #[au f.name,z9 f.kind] 63 (0,0))):=jY wr _;generalize wr.alloc (ax #[au f.name,z9 f.kind] 63)=eo at*;generalize U wr.heap=q at*;go_wp2_with fail;refine bL (wv g w s bs cn c7.o) ?_;rintro E cs ⟨aY,⟨v,rfl,bx,bu,ci,b7⟩|⟨m,rfl,ab⟩⟩;rotate_left
    .have z:X (∀c,lT a c->aQ (bytesOf s) l (jZ a c)->¬aQ (bytesOf h) k (fy c.chunks)):=bb.o (λC A p G=>ab _ A.n (dn.1 p).1);have cQ:=ap (b0.o.kp.trans (eL.sD aY));go_wp2;exact⟨rfl,cQ.o,an ⟨m,rfl,z.o⟩⟩
    .skip
     have dZ:v<=2147483648:=aa;have b1:=ap (b0.o.step aF aD al (eL.sD aY));have c3:X (cs.heap[i]? =K (bR h H)):=Kp.block aY c2.o aa;have df:X (bD cs q #[au f.name,z9 f.kind] 63):=Kp.block aY dd.o aa;obtain⟨aG,a4⟩:∃aG,aG=w+I (bc v):=⟨_,rfl⟩;rw[<-a4] at ci b7;go_wp2_with fail;refine bL (M3 i H v h d3 bv dZ c3.o) ?_;rintro E L ⟨a0,⟨o,rfl,a7,co,dK,dq⟩|⟨m,rfl,ab⟩⟩;rotate_left
     .have z:X (∀c,lT a c->aQ (bytesOf s) l (jZ a c)->¬aQ (bytesOf h) k (fy c.chunks)):=bb.o (λC A p G=>ab (bytesOf C.text) (by rw[cJ];exact jS (cB A.n) (cB bx) (dn.1 p).1 bu) G);have cV:=ap (b1.o.kp.trans (eL.Kf a0));go_wp2;exact⟨rfl,cV.o,an ⟨m,rfl,z.o⟩⟩
     .skip
      have bh:=ap (b1.o.step aF aD al (eL.Kf a0));have b2:X (bD L q #[au f.name,z9 f.kind] 63):=Kp.block a0 df.o aa;have c9:X (L.heap[g]? =K (bR s aG)):=Kp.block a0 b7 aa;have c6:=ap (W7 f.kind bN.o g aG s L.drew bs ci c9.o);have⟨cp,bE,ec⟩:=bh.o.cells;have ei:aA L ⟨q,1,Z⟩=K (z9 f.kind):=by have:=b2.o;simp[aA,this]
      have cy:=ap bN.o;go_upto_region 8 with fail;refine Un.open_ (λt=>aJ t M 1 j/\aJ t q 1 (z9 f.kind)) 11 (λ_ _ _ _ _ R=>R) λeR=>?_;have b4:(λt=>aJ t M 1 j/\aJ t q 1 (z9 f.kind)) L.drew:=⟨bE,ei⟩;refine Un.pk 0 ?_;refine Un.ld [11] 1 ?_;refine Un.pk 2 ?_;refine Un.pk 3 ?_;refine Un.pk 4 ?_;refine Un.ld [11] 5 ?_;try simp only[bG,cz,ct,cr]
      refine Un.on 6 λbi T=>?_;go_simp;go_at_call 131;refine bL c6.o ?_;rintro E y ⟨N,⟨c,rfl,dy,dT,dL,ds⟩|⟨m,rfl,ab⟩⟩;rotate_left;have N:=(Kp.iT (r:=g) ((bU (U L.heap) L).drew)).trans N;have z:X (∀c,lT a c->aQ (bytesOf s) l (jZ a c)->¬aQ (bytesOf h) k (fy c.chunks)):=bb.o (λC A p G=>by
       unfold sv at p;have⟨aL,b3⟩:=dn.1 p;have dg:=jS (cB A.n) (cB bx) aL bu;rw[dg,ae.o,<-a4] at b3;have r:=A.b;rw[ae.o] at r;exact ab _ r b3)
      have cW:=ap (bh.o.kp.trans (eL.sD N));exact⟨rfl,cW.o,an ⟨m,rfl,z.o⟩⟩
      .have N:=(Kp.iT (r:=g) ((bU (U L.heap) L).drew)).trans N;unfold Im;have D:=ap (bh.o.step aF aD al (eL.sD N));have c4:X (y.heap[i]? =K (bR h (H+v))):=Kp.block N dq aa;have ar:X (bD y q #[au f.name,z9 f.kind] 63):=Kp.block N b2.o aa;obtain⟨-,cu,-⟩:=D.o.cells;have bI:aA y ⟨q,1,Z⟩=K (z9 f.kind):=by have:=ar.o;simp[aA,this]
       refine T.o _ _ (λ_=>⟨cu,bI⟩) ?_;try simp only[bG,cz,ct,cr]
       have b4:(λt=>aJ t M 1 j/\aJ t q 1 (z9 f.kind)) y:=⟨cu,bI⟩;refine Un.pk 7 ?_;try simp only[bG,cz,ct,cr]
       refine Un.on 8 λbi T=>?_;go_simp;have db:X (mo d (y.alloc (ax (cX (mP ⟨o,c⟩)) 143)) M g i e j b):=D.o.below ((bU _ _).alloc (aV _) _);have ej:aA (y.alloc (ax (cX (mP ⟨o,c⟩)) 143)) ⟨q,1,Z⟩=K (z9 f.kind):=(bq ((bU (U y.heap) y).alloc (aV _) _) (p:=⟨q,1,Z⟩) (bC ar.o)).trans bI;refine T.o _ _ (λ_=>⟨db.o.cells.2.1,ej⟩) ?_;try simp only[bG,cz,ct,cr]
       refine Un.one (i:=9) bl Y (λbi T=>?_);have dP:=D.o.own;have eW:U d.heap<=U y.heap:=D.o.kp.size;refine step_append_lies _ (by rfl) _ _ 137 (by rfl) (U d.heap) 143 d4 _ 8 88 aE.underlying137 dF d0 d1 d2 Y ay j (I b) _ (by rfl) (dP.alloc _) ⟨U y.heap,0,Z⟩ 1 1 (mP ⟨o,c⟩) (by rfl) Y (R7 y ⟨o,c⟩) R8 (by decide) (by unfold aS;omega) aa bO _ Y ?_;intro Q aM a8 cl dE dt eP;have aC:=dA.k4 (n:=I b+1) (cap:=aM) dE dt;have dO:aT a8 (U d.heap) 143 8 (aI Q (I b+1) aM) (I (b++[(⟨o,c⟩:fc)])) (sB (b++[(⟨o,c⟩:fc)])):=by
        unfold sB at cl ⊢;rw[oI,pF,cN];exact cl
       have cG:=ap (D.o.oQ al aC dO);have be:=ap (D.o.reader al aC aF ds);have bd:=ap (D.o.reader al aC aD c4.o);have⟨cv,e0⟩:=D.o.kept aC;have cx:aA a8 ⟨q,1,Z⟩=K (z9 f.kind):=by
        have:=(aC.dR.block _ (bC ar.o) (ew D.o.own ar.o ay)).trans ar.o;simp[aA,this]
       refine T.o _ _ (λ_=>⟨cv,cx⟩) ?_;try simp only[bG,cz,ct,cr]
       have b4:(λt=>aJ t M 1 j/\aJ t q 1 (z9 f.kind)) a8:=⟨cv,cx⟩;refine Un.pk 10 ?_;try simp only[bG,cz,ct,cr]
       refine Un.on 11 λbi T=>?_;go_simp;refine T.o _ _ (λR=>absurd R ay) ?_;refine Un.done (by kernel_rfl) ?_ _;try simp only[bG,cz,ct,cr]
       generalize bg a8 ⟨M,1,Z⟩ (aI Q (I b+1) aM)=em at*;generalize ah (K ⟨Q,0,Z⟩) (I b+1) aM=eX at*;have bJ:X (w6 a (I b) ⟨o,c⟩):=⟨by have:=a7;have:=bx;show o.size<_;omega,by rw[ae.o];exact dy⟩;have bZ:X (aQ (bytesOf s) w (sv a b ⟨o,c⟩)):=by
        show aQ _ _ (bc o.size++gw (aX a (I b) ⟨⟨#[]⟩,0⟩).kind c);rw[a7,ae.o];exact dn.2 ⟨bu,by rw[<-a4];exact dT⟩
       have bV:X (B+I (sw a (b++[(⟨o,c⟩:fc)]))=aG+I (gw f.kind c)):=by
        show _=_;rw[Et,cN];have S:I (sv a b ⟨o,c⟩)=I (bc v)+I (gw f.kind c):=by
         show I (bc o.size++gw (aX a (I b) ⟨⟨#[]⟩,0⟩).kind c)=_;rw[a7,ae.o,cN]
        have u:=am;have p:=a4;omega
       have bY:X (k+I (fy (b++[(⟨o,c⟩:fc)]))=H+v):=by
        show _=_;rw[G6,cN,cJ];have S:=aj.o;have u:=a7;simp only;omega
       have cZ:X (Q2 (sw a) fy (w6 a) (bytesOf s) B (bytesOf h) k (I a) (b++[(⟨o,c⟩:fc)])):=by
        refine V.more (e:=sv a) (g:=λ_ f=>bytesOf f.text) (Et a) G6 W bJ.o (by rw[<-am];exact bZ.o) (by rw[<-aj.o];exact co) (λC A p G=>?_);rw[<-am] at p;rw[<-aj.o] at G;exact PW (by rw[ae.o];exact cy.o) bJ.o A bZ.o p co G
       go_wp2_with fail
       go_roundw
       case rel=>exact⟨b++[(⟨o,c⟩:fc)],_,by rw[cN];go_num,cZ.o,cG.o,b5 bV.o dL,b5 bV.o be.o,b5 bY.o dK,b5 bY.o bd.o⟩
       case measure=>simp[bw];omega
   have ba:=V.done W;have⟨d6,d5,cf⟩:=gG n.own;rw[ba.1] at cf;subst cf;generalize dJ:ah d6 (I a) d5=j at n;obtain⟨cp,bE,-⟩:=n.cells;have S:=eE wr (U d.heap) 0 _ _ (n9 e) n.res;have u:=eE _ (U d.heap) 1 _ _ j S;have c0:X (aT (bg (bg wr ⟨U d.heap,0,Z⟩ (n9 e)) ⟨U d.heap,1,Z⟩ j) (U d.heap) 143 8 j (I b) (sB b)):=by
    have aL:=n.own.kept (eJ wr (U d.heap) 0 (n9 e)) (an (ew n.own n.res ay).symm);exact aL.kept (eJ _ (U d.heap) 1 j) (an (ew aL S ay).symm)
   have cY:X (eL g i d (bg (bg wr ⟨U d.heap,0,Z⟩ (n9 e)) ⟨U d.heap,1,Z⟩ j)):=(n.kp.grown (eJ wr (U d.heap) 0 _) (λdk E=>by cases E;exact aV _)).grown (eJ _ (U d.heap) 1 _) (λdk E=>by cases E;exact aV _);have be:X ((bg (bg wr ⟨U d.heap,0,Z⟩ (n9 e)) ⟨U d.heap,1,Z⟩ j).heap[g]? =K (bR s w)):=by
    show _=_;rw[ef _ _ _ _ (by simp;omega),ef _ _ _ _ (by simp;omega)];exact bo
   have bd:X ((bg (bg wr ⟨U d.heap,0,Z⟩ (n9 e)) ⟨U d.heap,1,Z⟩ j).heap[i]? =K (bR h H)):=by
    show _=_;rw[ef _ _ _ _ (by simp;omega),ef _ _ _ _ (by simp;omega)];exact bm
   have eY:aA wr ⟨U d.heap,0,Z⟩=K (z9 0):=by have:=n.res;simp[aA,this]
   have eZ:aA wr ⟨U d.heap,1,Z⟩=K aH:=by have:=n.res;simp[aA,this]
   have et:cU wr ⟨U d.heap,0,Z⟩=ai:=by have:=n.res;simp[cU,this]
   have ey:cU wr ⟨U d.heap,1,Z⟩=ai:=by have:=n.res;simp[cU,this]
   have d9:aA (bg (bg wr ⟨U d.heap,0,Z⟩ (n9 e)) ⟨U d.heap,1,Z⟩ j) ⟨U d.heap,0,Z⟩=K (n9 e):=by simp[aA,u]
   have eb:aA (bg (bg wr ⟨U d.heap,0,Z⟩ (n9 e)) ⟨U d.heap,1,Z⟩ j) ⟨U d.heap,1,Z⟩=K j:=by simp[aA,u]
   have a9:X (I (jZ a ⟨e,b⟩)+l=w/\aQ (bytesOf s) l (jZ a ⟨e,b⟩)):=by
    have bk:=a3;have Q:=am;exact⟨by show I (bc e++sw a b)+l=w;rw[cN];omega,(dn.2 ⟨a5,by rw[<-bk];exact V.st⟩)⟩
   have dc:X (∀P,lT a P->aQ (bytesOf s) l (jZ a P)->aQ (bytesOf h) k (fy P.chunks)->P=⟨e,b⟩):=λP br ad a2=>by
    have⟨bk,Q⟩:=dn.1 ad;have az:=jS (cB br.hi) (cB ck) bk a5;rw[az,<-a3] at Q;have cg:=ba.2 P.chunks br.len br.each Q a2;have⟨eq,c⟩:=P;simp only at az cg;rw[az,cg]
   have cM:X (lT a ⟨e,b⟩):=⟨cd.1,cd.2,ba.1,V.x7⟩;have da:=ap V.sc;subst dJ;go_wp2;simp[jM,dx,Tryz.results96,go_sem,d9,eb]
   trace_state
   exact⟨cY.o,aq ⟨⟨e,b⟩,_,rfl,cM.o,a9.o.2,cB a9.o.1,by have:=a9.o.1;rw[show l+I (jZ a ⟨e,b⟩)=w by omega];exact be.o,da.o,by rw[<-aj.o];exact bv,by rw[<-aj.o];exact bd.o,c0.o,dc.o⟩⟩
structure mr(w W:ag)(g r q:Nat)(l:List (bF×Int))(co eo:Option aN)(cc ec:Nat)(bv:F)(L:List (Bd×F)):Prop where
 res:W.heap[U w.heap]? =K (ax #[ah Z 0 0,ah Z 0 0,ah Z 0 0] 105 (0,0))
 box:W.heap[g]? =K (ax #[ah co (I l) cc,ah eo (I l) ec,bv] 105 (0,0))
 aj:aT W (U w.heap) 63 2 (ah co (I l) cc) (I l) (kX (l.map bp))
 gx:aT W (U w.heap) 3 1 (ah eo (I l) ec) (I l) (cW (l.map eu))
 eV:o6 W (U w.heap) bv L
 kp:eL r q w W
def mr.step{f:List (bF×Int)}{e:List (Bd×F)}(a:mr w u n m k f O P i j v e)(d:m<U w.heap)(c:k<U w.heap)(l:U w.heap<n)(b:eL m k u W):mr w W n m k f O P i j v e:=
 ⟨b.keep a.res aa aa,b.keep a.box aa aa,b.own a.aj d c,b.own a.gx d c,⟨b.own a.eV.own d c,λh g=>b.own (a.eV.each h g) d c⟩,a.kp.trans b⟩
def mr.below{d:List (bF×Int)}{c:List (Bd×F)}(a:mr w u n m k d O P i j v c)(b:aD u W):mr w W n m k d O P i j v c:=
 ⟨(cS b _ (bC a.res)).trans a.res,(cS b _ (bC a.box)).trans a.box,eM a.aj b,eM a.gx b,a.eV.below b,a.kp.trans (eL.iT b)⟩
def mr.cells{b:List (bF×Int)}{c:List (Bd×F)}(d:mr w u n m k b O P i j v c):
 aA u ⟨n,0,Z⟩=K (ah O (I b) i)/\aA u ⟨n,1,Z⟩=K (ah P (I b) j)/\aA u ⟨n,2,Z⟩=K v/\cU u ⟨n,2,Z⟩=ai:=by
 have a:=d.box;exact⟨by simp[aA,a],by simp[aA,a],by simp[aA,a],by simp[cU,a]⟩
def mr.kept{e:List (bF×Int)}{c:List (Bd×F)}(a:mr w u n m k e O P i j v c)(d:dA u W v x):
 aA W ⟨n,2,Z⟩=K v/\cU W ⟨n,2,Z⟩=ai:=by
 have b:=aB (d.dR.block _ (bC a.box) (ew a.eV.own a.box ay)) a.box;exact⟨by simp[aA,b],by simp[cU,b]⟩
def mr.oQ{l:List (bF×Int)}{d:List (Bd×F)}(a:mr w u n m k l O P i j v d)(t:U w.heap<n)(b:dA u W v x){c:Bd}(r:aT u (U w.heap) 143 8 y (I c.chunks) (sB c.chunks))
 (s:aT W (U w.heap) 139 2 x (I (d++[(c,y)])) (xN (d++[(c,y)]))):mr w (bg W ⟨n,2,Z⟩ x) n m k l O P i j x (d++[(c,y)]):=by
 have p:=aB (b.dR.block _ (bC a.res) (ew a.eV.own a.res ay)) a.res;have e:=aB (b.dR.block _ (bC a.box) (ew a.eV.own a.box ay)) a.box;have f:=ju a.aj b (l7 a.aj a.eV.own ay);have g:=ju a.gx b (l7 a.gx a.eV.own ay);refine⟨?_,(eE W n 2 _ _ x e),fK f (eJ W _ 2 x) (an (ew f e ay).symm),fK g (eJ W _ 2 x) (an (ew g e ay).symm),(a.eV.snoc b r s).put e ay ay _ _,?_⟩;rw[ef _ _ _ _ bO];exact p;exact(a.kp.grown b.dR (λh q=>(a.eV.own.lt h q).1)).grown (eJ W n 2 x) (λh o=>by cases o;omega)
def mr.reader{g:List (bF×Int)}{c:List (Bd×F)}(e:mr w u n m k g O P i j v c)(h:U w.heap<n)(f:dA u W v x)(l:a<U w.heap)(b:u.heap[a]? =K Qk):(bg W ⟨n,2,Z⟩ x).heap[a]? =K Qk:=by
 rw[ef _ _ _ _ bO,f.dR.block a (bC b) (λd=>cB ((e.eV.own.lt a (bA d)).1))];exact b
def MQ(a:aQ l 0 L)(c:I l<=I L):l=L:=by
 have b:L <+:l:=by simpa [aQ] using a
 exact bA (b.eq_of_length_le c)
def D7{a:List bF}(c:List Bd)(b:Bd):oe a (c++[b])=oe a c++jZ a b:=by
 unfold oe;rw[oI,pF]
def OR(b:List bF)(a:Bd):1<=I (jZ b a):=by unfold jZ;rw[cN];have:=aaK a.rows;omega
def OU(b:List bF)(a:List Bd):I a<=I (oe b a):=by
 induction a with
 |nil=>simp
 |cons c e d=>
  have:=OR b c;unfold oe at d ⊢;rw[lD,cN,pI];omega
def Ju{b:List bF}{a:List Bd}(d:∀c∈a,lT b c):nY (λ_=>lT b) a:=λf e=>d _ (c8 e)
def SZ{c:List bF}{b:List Bd}(d:nY (λ_=>lT c) b):∀a∈b,lT c a:=λa e=>by
 obtain⟨g,f,rfl⟩:=m6 e;exact d g f
def JK{b:List (bF×Int)}(c:kV b):∀a (c:a<I (b.map bp)),(b.map bp)[a].kind=1\/(b.map bp)[a].kind=2\/(b.map bp)[a].kind=3:=by
 intro a d;have:=(c.1.2.2 a d).1;simp only[oO,oo,ez,decide_eq_true_eq] at this;omega
def Oi (e:ag)(p:Nat)(s:ByteArray)(q:Nat)(g:ByteArray)(l:gL)(c:ag):Prop:=
 eL p q e c/\((∃(a:List (bF×Int)) (b:List Bd) (h:List (Bd×F)) (k o:Option aN) (j n:Nat) (i:F),l=aR (cw #[ah k (I a) j,ah o (I a) n,i])/\jy a b/\h.map bp=b/\aQ (bytesOf s) 0 (hO a b)/\I (hO a b)<=s.size/\c.heap[p]? =K (bR s (I (hO a b)))/\bytesOf g=fi b/\
  aT c (U e.heap) 63 2 (ah k (I a) j) (I a) (kX (a.map bp))/\aT c (U e.heap) 3 1 (ah o (I a) n) (I a) (cW (a.map eu))/\o6 c (U e.heap) i h/\(∀f d,jy f d->aQ (bytesOf s) 0 (hO f d)->bytesOf g=fi d->f=a/\d=b))\/
  (∃m,l=gO (g3 m)/\∀a b,jy a b->aQ (bytesOf s) 0 (hO a b)->bytesOf g≠fi b))
def Xd(f d:Nat)(s g:ByteArray)(c:ag)(d9:f≠d)(cy:s.size<=65536)(eo:g.size<=65536)(ab:c.heap[f]? =K (bR s 0))(p:c.heap[d]? =K (bR g 0)):
 bn 64 #[(aZ f),(aZ d)] c (Oi c f s d g):=by
 have⟨eq,dX,ej,el,em⟩:=eU aE.Tu;have a1:=bC ab;have a0:=bC p;have d3:s.size<=aS:=gy;have cV:g.size<=aS:=gy;have dt:X ((c.alloc (ax #[aH,aH,aH] 105)).heap[f]? =K (bR s 0)):=by
  show _=_;rw[e6 _ _ f a1];exact ab
 have dq:X ((c.alloc (ax #[aH,aH,aH] 105)).heap[d]? =K (bR g 0)):=by
  show _=_;rw[e6 _ _ d a0];exact p
 have b1:X (eL f d c (c.alloc (ax #[aH,aH,aH] 105))):=(eL.refl f d c).alloc _;go_enter aE.func64,Tryz.ntmps64;go_wp2_with fail;refine bL (W9 f 0 s cy (cE _) dt.o) ?_;rintro r J ⟨aG,⟨a,eN,eP,rfl,ae,eb,cv,cl,co,cu,cQ⟩|⟨m,rfl,aY⟩⟩;rotate_left
 .have E:X (∀a b,jy a b->aQ (bytesOf s) 0 (hO a b)->bytesOf g≠fi b):=λa b i y=>fe (aY a i.pl (dn.1 y).1);have da:=ap (b1.o.trans (eL.sD aG));go_wp2;exact⟨rfl,da.o,an ⟨m,rfl,E.o⟩⟩
 .obtain⟨h,l,rfl⟩:=gG co;obtain⟨n,o,rfl⟩:=gG cu;have dF:J.heap[d]? =K (bR g 0):=Kp.block aG dq.o aa;have G:mr c (J.alloc (ax #[ah h (I a) l,ah n (I a) o,aH] 105)) (U J.heap) f d a h n l o aH []:=by
   refine⟨?_,jY J _,(j6 co aF).alloc _,(j6 cu aF).alloc _,⟨iO _ _ _ _,λe8 d8=>by simp at d8⟩,(b1.o.trans (eL.sD aG)).alloc _⟩;have:=Kp.block aG (kQ c (ax #[aH,aH,aH] 105)) aa;exact alloc_old (by simpa using bC this) this
  have aM:U c.heap<U J.heap:=by have:=aG.size;simp at this;omega
  obtain⟨a2,bb⟩:∃a2,a2=I (kG a):=⟨_,rfl⟩;rw[e7,<-bb] at cv cl;have b4:=ap ae;have dL:(J.alloc (ax #[ah h (I a) l,ah n (I a) o,aH] 105)).heap[f]? =K (bR s a2):=by rw[e6 _ _ f (by omega)];exact cl
  have dJ:(J.alloc (ax #[ah h (I a) l,ah n (I a) o,aH] 105)).heap[d]? =K (bR g 0):=by rw[e6 _ _ d (by omega)];exact dF
  have d0:I a<=8:=by have:=ae.1.2.1;simpa using this
  have c3:X (I (a.map bp)<=8):=by show _<=_;simpa using d0
  go_upto_region 3 with fail;generalize J.alloc (ax #[ah h (I a) l,ah n (I a) o,aH] 105)=eC at*;generalize U J.heap=M at*;have D:=ap G;go_wp2_with fail;refine bL (wv f a2 s d3 cv dL) ?_;rintro r ey ⟨a7,⟨A,rfl,d4,cM,cx,bH⟩|⟨m,rfl,aY⟩⟩;rotate_left
  .have E:X (∀a b,jy a b->aQ (bytesOf s) 0 (hO a b)->bytesOf g≠fi b):=λq b i y _=>by
    have⟨v,p⟩:=dn.1 y;obtain rfl:=cQ q i.pl v;rw[e7,<-bb] at p;refine aY _ ?_ (dn.1 p).1;have w:=Gr b (λe V=>(i.eV e V).lo);have:=i.rows;omega
   have db:=ap (D.o.kp.trans (eL.sD a7));go_wp2;exact⟨rfl,db.o,an ⟨m,rfl,E.o⟩⟩
  .have cd:=ap (D.o.step a1 a0 aM (eL.sD a7));have b7:X (ey.heap[d]? =K (bR g 0)):=Kp.block a7 dJ aa;obtain⟨H,bP⟩:∃H,H=a2+I (bc A):=⟨_,rfl⟩;rw[<-bP] at cx bH;have cc:=ap bH;have d5:(A:Int)<2147483648:=aa;have b0:X (∀q j,jy q j->aQ (bytesOf s) 0 (hO q j)->q=a/\I j=A/\aQ (bytesOf s) H (oe (a.map bp) j)):=λq j i y=>by
    have⟨v,p⟩:=dn.1 y;obtain rfl:=cQ q i.pl v;rw[e7,<-bb] at p;have⟨w,N⟩:=dn.1 p;have bv:=Gr j (λe V=>(i.eV e V).lo);have eX:=i.rows;have cp:=jS aa (by have:=d4;omega) w cM;rw[cp,<-bP] at N;exact⟨rfl,cp,N⟩
   clear a7 bH D;go_wp2_with fail
   go_loopw [18] (λbY wr=>∃(b:List Bd) (t:List (Bd×F)) (k:F),bY=n9 (I b)/\t.map bp=b/\Q2 (oe (a.map bp)) fi (λ_=>lT (a.map bp)) (bytesOf s) H (bytesOf g) 0 A b/\mr c wr M f d a h n l o k t/\H+I (oe (a.map bp) b)<=s.size/\wr.heap[f]? =K (bR s (H+I (oe (a.map bp) b)))/\I (fi b)<=g.size/\wr.heap[d]? =K (bR g (I (fi b)))) (λbY _=>A-bS (bw bY))
   exact⟨[],[],_,rfl,rfl,Q2.zero Y Y,cd.o,by simpa [oe] using cx,by simpa [oe] using cc.o,by simp[fi],by simpa [fi] using b7.o⟩;clear cd cc b7;obtain⟨b,t,k,rfl,aL,bD,G,ae,bF,cP,bE⟩:=hrel;have R:=ap bD;have D:=ap G;have bm:X (I t=I b):=by show _=_;rw[<-aL,ee]
   have cn:I b<=65536:=by have:=OU (a.map bp) b;omega
   obtain⟨B,ad⟩:∃B,B=H+I (oe (a.map bp) b):=⟨_,rfl⟩;obtain⟨C,Q⟩:∃C,C=I (fi b):=⟨_,rfl⟩;have W:=ap Q;rw[<-ad] at ae bF;rw[<-Q] at cP bE;have az:X (wr.heap[f]? =K (bR s B)):=bF;have aw:X (wr.heap[d]? =K (bR g C)):=bE;have d2:I b<=A:=bD.le;have eh:U c.heap<=U wr.heap:=G.kp.size;clear bD Q bF bE;by_cases ba:I b<A
   .have c6:X ((∀u,lT (a.map bp) u->aQ (bytesOf s) B (jZ (a.map bp) u)->¬aQ (bytesOf g) C (fy u.chunks))->∀a b,jy a b->aQ (bytesOf s) 0 (hO a b)->bytesOf g≠fi b):=λQ q j i y P=>by
     have⟨v,p,w⟩:=b0.o q j i y;rw[v] at i;refine R.o.fail (e:=λ_ u=>jZ (a.map bp) u) (g:=λ_ u=>fy u.chunks) D7 Eg ba (λu bV N bv=>?_) j p (Ju i.eV) w (uw P.symm);rw[<-ad] at N;rw[e7,<-W.o] at bv;exact Q u bV N bv
    have cb:X (bn 96 #[(aZ f),(aZ d),ah h (I a) l] wr.drew (HO (a.map bp) wr.drew f B s d C g)):=W6 (a.map bp) f B d C (U c.heap) s g wr.drew d9 cy eo ae cP az.o aw.o a1 a0 (by rw[ee];exact(eM D.o.aj ((bU (U wr.heap) wr).drew))) c3.o (JK b4.o);have⟨bd,be,a3,bh⟩:=G.cells;go_upto_region 5 with fail;refine Un.open_ (λS=>aJ S M 2 k) 9 (λ_ _ _ _ _ ab=>ab) λe0=>?_;have bx:(λS=>aJ S M 2 k) wr.drew:=a3;refine Un.pk 0 ?_;refine Un.ld [9] 1 ?_;refine Un.pk 2 ?_;refine Un.pk 3 ?_;refine Un.pk 4 ?_;try simp only[bG,cz,ct,cr]
    refine Un.on 5 λa5 O=>?_;go_simp;go_at_call 96;refine bL cb.o ?_;rintro r ao ⟨T,⟨e,e3,rfl,dP,ec,dZ,dK,dR,d1,dI,bJ,ei⟩|⟨m,rfl,aY⟩⟩;rotate_left;have T:=(eL.iT (r:=f) (q:=d) ((bU (U wr.heap) wr).drew)).trans T;have E:=ap (c6.o aY);have dc:=ap (D.o.kp.trans T);exact⟨rfl,dc.o,an ⟨m,rfl,E.o⟩⟩
    .have T:=(eL.iT (r:=f) (q:=d) ((bU (U wr.heap) wr).drew)).trans T;obtain⟨am,al,rfl⟩:=gG bJ;have L:=ap (D.o.step a1 a0 aM T);have df:X (aT ao (U c.heap) 143 8 (ah am (I e.chunks) al) (I e.chunks) (sB e.chunks)):=j6 bJ (by simpa using eh);have c1:=L.o.cells.2.2.1;refine O.o _ _ (λ_=>c1) ?_;clear O a5 bx T bJ bd be a3 bh cb D az aw;try simp only[bG,cz,ct,cr]
     have bx:(λS=>aJ S M 2 k) ao:=c1;refine Un.on 6 λa5 O=>?_;go_simp;have dB:X (mr c (ao.alloc (ax (cX (ud (e,ah am (I e.chunks) al))) 139)) M f d a h n l o k t):=L.o.below ((bU _ _).alloc (aV _) _);refine O.o _ _ (λ_=>dB.o.cells.2.2.1) ?_;try simp only[bG,cz,ct,cr]
     refine Un.one (i:=7) bl Y (λa5 O=>?_);have cA:=L.o.eV.own;rw[bm.o] at cA;have e2:U c.heap<=U ao.heap:=L.o.kp.size;refine step_append_lies _ (by rfl) _ _ 103 (by rfl) (U c.heap) 139 eq _ 2 32 aE.underlying103 dX ej el em Y ay k (I b) _ (by rfl) (cA.alloc _) ⟨U ao.heap,0,Z⟩ 1 1 (ud (e,ah am (I e.chunks) al)) (by rfl) Y (aaq ao) (by intro C Q;simp[ud] at Q;rcases Q with rfl|rfl<;>rfl) ay gy aa bO _ rfl ?_;intro aC a6 bZ cB dT dO eZ;have a9:=dA.k4 (n:=I b+1) (cap:=a6) dT dO;have d7:aT bZ (U c.heap) 139 2 (aI aC (I b+1) a6) (I (t++[(e,ah am (I e.chunks) al)])) (xN (t++[(e,ah am (I e.chunks) al)])):=by
      unfold xN at cB ⊢;rw[oI,pF,cN,bm.o];exact cB
     have c7:=ap (L.o.oQ aM a9 df.o d7);have br:=ap (L.o.reader aM a9 a1 dK);have ds:=ap (L.o.reader aM a9 a0 dI);have⟨c2,fd⟩:=L.o.kept a9;refine O.o _ _ (λ_=>c2) ?_;try simp only[bG,cz,ct,cr]
     have bx:(λS=>aJ S M 2 k) bZ:=c2;refine Un.pk 8 ?_;try simp only[bG,cz,ct,cr]
     refine Un.on 9 λa5 O=>?_;go_simp;refine O.o _ _ (λab=>absurd ab ay) ?_;refine Un.done (by kernel_rfl) ?_ _;try simp only[bG,cz,ct,cr]
     generalize bg bZ ⟨M,2,Z⟩ (aI aC (I b+1) a6)=eI at*;generalize ah (K ⟨aC,0,Z⟩) (I b+1) a6=eK at*;have b2:X (H+I (oe (a.map bp) (b++[e]))=B+I (jZ (a.map bp) e)):=by
      show _=_;rw[D7,cN];have w:=ad;omega
     have b3:X (I (fi (b++[e]))=C+I (fy e.chunks)):=by
      show _=_;rw[Eg,cN,W.o]
     have dk:X (Q2 (oe (a.map bp)) fi (λ_=>lT (a.map bp)) (bytesOf s) H (bytesOf g) 0 A (b++[e])):=by
      refine R.o.more (e:=λ_ u=>jZ (a.map bp) u) (g:=λ_ u=>fy u.chunks) D7 Eg ba dP (by rw[<-ad];exact ec) (by rw[e7,<-W.o];exact dR) (λu bV w N=>?_);rw[<-ad] at w;rw[e7,<-W.o] at N;exact ei u bV w N
     have dg:X ((t++[(e,ah am (I e.chunks) al)]).map bp=b++[e]):=by show _=_;rw[gY,aL];rfl
     go_wp2_with fail
     go_roundw
     case rel=>exact⟨b++[e],_,_,by rw[cN];go_num,dg.o,dk.o,c7.o,by rw[b2.o];exact dZ,by rw[b2.o];exact br.o,by rw[b3.o];exact d1,by rw[b3.o];exact ds.o⟩
     case measure=>simp[bw];omega
   .have a4:=R.o.done ba;have c4:=ap a4.1;have c5:=ap a4.2;have d6:A=I b:=a4.1.symm;have bk:X (∀e∈b,lT (a.map bp) e):=SZ R.o.x7;have bu:X (∀q j,jy q j->aQ (bytesOf s) 0 (hO q j)->bytesOf g=fi j->q=a/\j=b):=λq j i y P=>by
     have⟨v,p,w⟩:=b0.o q j i y;rw[v] at i;exact⟨v,c5.o j p (Ju i.eV) w (uw P.symm)⟩
    have bo:X (bn 45 #[cw #[ah h (I a) l,ah n (I a) o,k]] wr λr bi=>r=aR (n9 (gK (t.map bp)))/\aD wr bi):=Sg h n (U c.heap) k t wr G.eV (by rw[bm.o];exact cn) (by rw[aL];exact λe V=>(bk.o e V).hi);rw[aL] at bo;have e1:gK b<=6553600:=by have:=LB b (λe V=>(bk.o e V).hi);have:=Nat.mul_le_mul_right 100 cn;omega
    have bj:X (I (hO a b)=B/\aQ (bytesOf s) 0 (hO a b)):=by
     have dE:=bb;have aC:=bP;have eW:=ad;unfold hO;rw[c4.o];refine⟨by rw[cN,cN];omega,?_⟩;exact dn.2 ⟨eb,by rw[e7,<-dE];exact dn.2 ⟨cM,by rw[<-aC];exact R.o.st⟩⟩
    have dy:X (aQ (bytesOf g) 0 (fi b)):=R.o.sc;have⟨ci,ch,bI⟩:=gG G.eV.own;subst bI;obtain⟨bd,be,a3,bh⟩:=G.cells;subst d6;clear G a4 R ba d2 d5;go_wp2_with fail;refine bL bo.o ?_;rintro r ar ⟨rfl,a8⟩;have bs:=ap (D.o.below a8);have ca:X (ar.heap[f]? =K (bR s B)):=(cS a8 f (bC az.o)).trans az.o;have b5:X (ar.heap[d]? =K (bR g C)):=(cS a8 d (bC aw.o)).trans aw.o;clear a8 D az aw bd be a3 bh bo;by_cases eY:2000<gK b
    .have dS:decide ((2000:Int)<(gK b:Int))=af:=by simp;omega
     have E:X (∀a b,jy a b->aQ (bytesOf s) 0 (hO a b)->bytesOf g≠fi b):=λq j i y P=>by
      obtain⟨v,p⟩:=bu.o q j i y P;have:=i.rows;rw[p] at this;omega
     go_wp2_with (go_at_call 97;refine bL (lN f B s _ ca.o) ?_;rintro r bi ⟨rfl,rfl⟩);exact⟨rfl,bs.o.kp,an ⟨_,rfl,E.o⟩⟩
    have dS:decide ((2000:Int)<(gK b:Int))=ai:=bO;have dv:X (gK b<=2000):=by show _<=_;omega
    by_cases cs:C<g.size
    .have E:X (∀a b,jy a b->aQ (bytesOf s) 0 (hO a b)->bytesOf g≠fi b):=λq j i y P=>by
      obtain⟨v,p⟩:=bu.o q j i y P;have w:=congrArg I P;rw[cJ,p,<-W.o] at w;omega
     go_wp2_with (go_at_call 93;refine bL (ED d C g cV cs b5.o) ?_;rintro r bi ⟨rfl,m,rfl⟩);exact⟨rfl,bs.o.kp.trans (eL.sD ((Kp.refl f ar).drewN _)),an ⟨_,rfl,E.o⟩⟩
    have dC:X (bytesOf g=fi b):=by
     show _=_;refine(MQ dy.o ?_);rw[cJ,<-W.o];omega
    have c9:X (jy a b):=⟨b4.o,bk.o,dv.o⟩;go_upto_region 10 with(go_at_call 93;refine bL (EE d C g cV cs b5.o) ?_;rintro r bi ⟨rfl,m,rfl⟩);have x:mr c (ar.drewN m) M f d a h n l o (ah ci (I t) ch) t:=bs.o.below (below_drewN (bU _ _) _);have du:X ((ar.drewN m).heap[f]? =K (bR s B)):=ca.o;generalize ar.drewN m=z at*;generalize bI:ah ci (I t) ch=k at x;obtain⟨bd,be,a3,bh⟩:=x.cells;obtain⟨fa,fb,fc⟩:=wV x.res;have eQ:cU z ⟨U c.heap,0,Z⟩=ai:=by have:=x.res;simp[cU,this]
    have eR:cU z ⟨U c.heap,1,Z⟩=ai:=by have:=x.res;simp[cU,this]
    have eS:cU z ⟨U c.heap,2,Z⟩=ai:=by have:=x.res;simp[cU,this]
    have v:=eE z (U c.heap) 0 _ _ (ah h (I a) l) x.res;have p:=eE _ (U c.heap) 1 _ _ (ah n (I a) o) v;have w:=eE _ (U c.heap) 2 _ _ k p;obtain⟨er,es,et⟩:=wV (show _=K (ax #[ah h (I a) l,ah n (I a) o,k] 105 (0,0)) from w);have dl:X (o6 (bg (bg (bg z ⟨U c.heap,0,Z⟩ (ah h (I a) l)) ⟨U c.heap,1,Z⟩ (ah n (I a) o)) ⟨U c.heap,2,Z⟩ k) (U c.heap) k t):=
     ((x.eV.put x.res ay ay _ _).put v ay ay _ _).put p ay ay _ _
    have cZ:∀{d:F} {A r cY:Nat} {c0:List F},r≠105->aT z (U c.heap) r cY d A c0->aT (bg (bg (bg z ⟨U c.heap,0,Z⟩ (ah h (I a) l)) ⟨U c.heap,1,Z⟩ (ah n (I a) o)) ⟨U c.heap,2,Z⟩ k) (U c.heap) r cY d A c0:=λbN cG=>by
     have cf:=cG.kept (eJ z (U c.heap) 0 (ah h (I a) l)) (an (ew cG x.res bN.symm).symm);have cg:=cf.kept (eJ _ (U c.heap) 1 (ah n (I a) o)) (an (ew cf v bN.symm).symm);exact cg.kept (eJ _ (U c.heap) 2 k) (an (ew cg p bN.symm).symm)
    have dm:X (aT (bg (bg (bg z ⟨U c.heap,0,Z⟩ (ah h (I a) l)) ⟨U c.heap,1,Z⟩ (ah n (I a) o)) ⟨U c.heap,2,Z⟩ k) (U c.heap) 63 2 (ah h (I a) l) (I a) (kX (a.map bp))):=cZ ay x.aj;have dp:X (aT (bg (bg (bg z ⟨U c.heap,0,Z⟩ (ah h (I a) l)) ⟨U c.heap,1,Z⟩ (ah n (I a) o)) ⟨U c.heap,2,Z⟩ k) (U c.heap) 3 1 (ah n (I a) o) (I a) (cW (a.map eu))):=cZ ay x.gx;have dd:X (eL f d c (bg (bg (bg z ⟨U c.heap,0,Z⟩ (ah h (I a) l)) ⟨U c.heap,1,Z⟩ (ah n (I a) o)) ⟨U c.heap,2,Z⟩ k)):=((x.kp.grown (eJ z (U c.heap) 0 _) (λck r=>by cases r;exact aV _)).grown (eJ _ (U c.heap) 1 _) (λck r=>by cases r;exact aV _)).grown (eJ _ (U c.heap) 2 _) (λck r=>by cases r;exact aV _);have br:X ((bg (bg (bg z ⟨U c.heap,0,Z⟩ (ah h (I a) l)) ⟨U c.heap,1,Z⟩ (ah n (I a) o)) ⟨U c.heap,2,Z⟩ k).heap[f]? =K (bR s B)):=by
     show _=_;rw[ef _ _ _ _ (by simp;omega),ef _ _ _ _ (by simp;omega),ef _ _ _ _ (by simp;omega)];exact du.o
    subst bI;go_wp2;simp[jM,dx,Tryz.results64,go_sem,er,es,et];exact⟨dd.o,aq ⟨a,b,t,h,n,l,o,_,rfl,c9.o,aL,bj.o.2,by rw[bj.o.1];exact ae,by rw[bj.o.1];exact br.o,dC.o,dm.o,dp.o,dl.o,bu.o⟩⟩
def ve:Array F:= #[aH,aH,aH]
def rU{t:aK}(a:w.heap[n]? =K (ax #[v,x,y] t (0,0))):(aA w ⟨n,0,Z⟩=K v/\aA w ⟨n,1,Z⟩=K x/\aA w ⟨n,2,Z⟩=K y)/\(cU w ⟨n,0,Z⟩=ai/\cU w ⟨n,1,Z⟩=ai/\cU w ⟨n,2,Z⟩=ai):=by
 refine⟨⟨?_,?_,?_⟩,?_,?_,?_⟩<;>simp[aA,cU,a]
def gI (e:ag)(a:Nat)(b c d:F):ag:=bg (bg (bg e ⟨a,0,Z⟩ b) ⟨a,1,Z⟩ c) ⟨a,2,Z⟩ d
def zW(a b c:F)(d:w.heap[n]? =K (ax #[v,x,y] Qc (0,0))):(gI w n a b c).heap[n]? =K (ax #[a,b,c] Qc (0,0)):=by
 exact eE _ n 2 _ _ c (eE _ n 1 _ _ b (eE w n 0 _ _ a d))
def zX(a:m≠n):(gI w n v x y).heap[m]? =w.heap[m]? :=by
 unfold gI;rw[ef _ _ _ _ bO,ef _ _ _ _ bO,ef _ _ _ _ bO]
def Bb(c:dw m u w)(b:m<=U u.heap)(a:m<=n):dw m u (gI w n v x y):=
 kg (kg (kg c b a) b a) b a
def Pz(p:n≠m)(hL:w.heap[n]? =K (ax #[x,y,z] 105 (0,0)))(c:w.heap[m]? =K (ax #[v] 4 (0,0))):
 CallsD (aM av) 92 #[(aZ n),(aZ m)] (kr ({v:=.iface Qc T,recovered:=ai}::QU)) w λd C D=>
  d=aR (cC #[])/\C=kr ({v:=.iface Qc T,recovered:=af}::QU)/\D=bg (gI (cD w (ax ve 105)) n aH aH aH) ⟨m,0,Z⟩ (ak ai):=by
 have o:=bC hL;have l:=bC c;have j:(cD w (ax ve 105)).heap[n]? =K (ax #[x,y,z] 105 (0,0)):=b5 (e6 _ _ n o) hL;have h:(cD w (ax ve 105)).heap[m]? =K (ax #[v] 4 (0,0)):=b5 (e6 _ _ m l) c;have k:(cD w (ax ve 105)).heap[U w.heap]? =K (ax #[aH,aH,aH] 105 (0,0)):=jY w _;refine callsD_of_wpS aE.func92 Y λG E q=>?_;apply wpS_seq;apply wpS_region;simp[wpOpsS,go_sem,recoverD,q,Tryz.ntmps92,Exit.thenS];refine wpS_cond (t:=af) (by simp[bz,jh]) ?_;simp only[if_true];apply wpS_seq;apply wpS_region;simp[wpOpsS,go_sem,Exit.thenS];apply wpS_region;obtain⟨⟨u,A,B⟩,-⟩:=rU k;have⟨⟨r,s,t⟩,e,f,g⟩:=rU j;have i:(gI (cD w (ax ve 105)) n aH aH aH).heap[m]? =K (ax #[v] 4 (0,0)):=by rw[zX p.symm];exact h
 have⟨a,b⟩:=oT i;unfold gI at a b ⊢;unfold ve at*;simp[wpOpsS,go_sem,u,A,B,r,s,t,e,f,g,a,b,bodyPostS,dx,Tryz.results92]
def Py:
 CallsD (aM av) 92 #[dG (K R),dG (K qP)] jA w λb d e=>b=aR (cC #[])/\d=jA/\e=w:=by
 refine callsD_of_wpS aE.func92 Y λa f c=>?_;apply wpS_seq;apply wpS_region;simp[wpOpsS,go_sem,recoverD,c,Tryz.ntmps92,Exit.thenS];refine wpS_cond (t:=ai) (by simp[bz,jh]) ?_;simp only[fA,if_false];refine wpS_of_wp (wp_skip ?_);cases a;simp_all [bodyPostS,dx,Tryz.results92]
def JO(a:Kp n w u)(b:eL n m u W)(g:U w.heap<=m):Kp n w W:=
 ⟨aB b.os a.os,aB b.tape a.tape,aB b.output a.output,dj (Kp.size a) b.size,λe c d=>aB (b.block e (cL c (Kp.size a)) (λf=>d (by rw[f])) aa) (dz a e c d)⟩
structure iW(W:ag)(bse9:Nat)(l:List (bF×Int))(L:List (Bd×F))(a b c:F):Prop where
 aj:aT W bse9 63 2 a (I l) (kX (l.map bp))
 gx:aT W bse9 3 1 b (I l) (cW (l.map eu))
 eV:o6 W bse9 c L
def iW.below{d:List (bF×Int)}{c:List (Bd×F)}(a:iW w n d c v x y)(b:aD w u):iW u n d c v x y:=⟨eM a.aj b,eM a.gx b,a.eV.below b⟩
def iW.ab7{d:List (bF×Int)}{c:List (Bd×F)}(a:iW w n d c v x y)(b:m<=n):iW w m d c v x y:=⟨j6 a.aj b,j6 a.gx b,⟨j6 a.eV.own b,λf e=>j6 (a.eV.each f e) b⟩⟩
def iW.put{g:List (bF×Int)}{f:List (Bd×F)}(a:iW w n g f v x y)(e:w.heap[m]? =K (ax C Qc (0,0)))(b:Qc=105\/Qc=4\/Qc=9)(c:Nat)(d:F):iW (bg w ⟨m,c,Z⟩ d) n g f v x y:=by
 have h:Qc≠63:=by rcases b with rfl|rfl|rfl<;>decide
 have i:Qc≠3:=by rcases b with rfl|rfl|rfl<;>decide
 have j:Qc≠139:=by rcases b with rfl|rfl|rfl<;>decide
 have k:Qc≠143:=by rcases b with rfl|rfl|rfl<;>decide
 exact⟨fK a.aj (eJ w m c d) (an (ew a.aj e h).symm),fK a.gx (eJ w m c d) (an (ew a.gx e i).symm),a.eV.put e j k c d⟩
def iW.gI{d:List (bF×Int)}{a:List (Bd×F)}(e:iW w n d a v x y)(c:w.heap[m]? =K (ax #[z,T,qq] 105 (0,0))):iW (Ec.gI w m qs qt qu) n d a v x y:=by
 have b:=eE w m 0 _ _ qs c;exact((e.put c (aq Y) _ _).put b (aq Y) _ _).put (eE _ m 1 _ _ qt b) (aq Y) _ _
def iW.ES{g:List (bF×Int)}{h:List (Bd×F)}(f:iW w n g h v x y):∃a ac c b e d,v=ah a (I g) ac/\x=ah c (I g) b/\y=ah e (I h) d:=by
 have⟨a,ac,i⟩:=gG f.aj;have⟨c,b,j⟩:=gG f.gx;have⟨e,d,k⟩:=gG f.eV.own;exact⟨a,ac,c,b,e,d,i,j,k⟩
def Ol (n:ag)(l:Nat)(s f:ByteArray)(k:gL)(e:ag):Prop:=
 Kp l n e/\((∃(b:List (bF×Int)) (a:List Bd) (g:List (Bd×F)) (h i j:F),k=aR (cw #[h,i,j])/\jy b a/\g.map bp=a/\aQ (bytesOf s) 0 (hO b a)/\I (hO b a)<=s.size/\e.heap[l]? =K (bR s (I (hO b a)))/\bytesOf f=fi a/\iW e (U n.heap) b g h i j/\(∀d c,jy d c->aQ (bytesOf s) 0 (hO d c)->bytesOf f=fi c->d=b/\c=a))\/
  (∃m,k=gO (g3 m)/\∀b a,jy b a->aQ (bytesOf s) 0 (hO b a)->bytesOf f≠fi a))
def Vw{s b:ByteArray}(ar:s.size<=65536)(D:b.size<=65536)(B:w.heap[n]? =K (bR s 0))(C:w.heap[k]? =K (ax #[au b] 9 (0,0))):
 bn 63 #[(aZ n),(aZ k)] w (Ol w n s b):=by
 have aF:=bC B;have al:=bC C;have aY:aA (w.alloc (ax #[aH,aH,aH] 105)) ⟨k,0,Z⟩=K (au b):=(oT (t:=9) (b5 (e6 _ _ k al) C)).1;have H:X (∀p,bn 66 #[au b] p λd aQ=>d=aR (au b)/\aD p aQ):=λp=>ID b p D;have v:X ((w.alloc (ax #[aH,aH,aH] 105)).heap[n]? =K (bR s 0)):=by
  show _=_;rw[e6 _ _ n aF];exact B
 have x:X (bD (w.alloc (ax #[aH,aH,aH] 105)) (U w.heap) #[aH,aH,aH] 105):=jY w _;have L:X (Kp n w (w.alloc (ax #[aH,aH,aH] 105))):=(Kp.refl n w).alloc _;go_enter aE.func63,Tryz.ntmps63;go_wp2_with fail;refine bL (H.o _) ?_;rintro d c ⟨rfl,t⟩;have Q:X (c.heap[n]? =K (bR s 0)):=(cS t n (bC v.o)).trans v.o;have y:X (bD c (U w.heap) #[aH,aH,aH] 105):=(cS t _ (bC x.o)).trans x.o;have M:=ap (L.o.trans (Kp.iT t));go_wp2_with fail;refine bL (Fc b) ?_;rintro d a3 ⟨rfl,rfl⟩;have aJ:=bC y.o;have R:X ((c.alloc (bR b 0)).heap[n]? =K (bR s 0)):=by show _=_;rw[e6 _ _ n aa];exact Q.o
 have P:X ((c.alloc (bR b 0)).heap[U c.heap]? =K (bR b 0)):=jY c _;have T:X (bD (c.alloc (bR b 0)) (U w.heap) #[aH,aH,aH] 105):=by show _=_;rw[e6 _ _ _ aJ];exact y.o
 have u:X (Kp n w (c.alloc (bR b 0))):=M.o.alloc _;have aI:U w.heap<=(c.alloc (bR b 0)).heap.size:=bO;generalize c.alloc (bR b 0)=W at*;generalize U c.heap=aM at*;go_wp2_with fail;refine bL (Xd n aM s b W aa ar D R.o P.o) ?_;rintro d f ⟨q,⟨a,z,e,h,j,g,i,Y,rfl,am,ad,aG,ao,ae,aj,az,aC,ay,aL⟩|⟨m,rfl,aw⟩⟩;rotate_left
 .skip
  have N:X (Kp n w f):=JO u.o q aa;go_wp2;exact⟨rfl,N.o,an ⟨m,rfl,aw⟩⟩
 have ab:Kp n w f:=JO u.o q aa;have r:bD f (U w.heap) #[aH,aH,aH] 105:=q.keep T.o aa aa;have hF:iW f (U w.heap) a e (ah h (I a) g) (ah j (I a) i) Y:=(iW.mk az aC ay).ab7 aI;obtain⟨-,-,-,-,o,l,-,-,rfl⟩:=hF.ES;have J:X (iW (gI f (U w.heap) (ah h (I a) g) (ah j (I a) i) (ah o (I e) l)) (U w.heap) a e (ah h (I a) g) (ah j (I a) i) (ah o (I e) l)):=hF.gI r;have S:X ((gI f (U w.heap) (ah h (I a) g) (ah j (I a) i) (ah o (I e) l)).heap[n]? =K (bR s (I (hO a z)))):=by show _=_;rw[zX (by omega)];exact ae
 have O:X (Kp n w (gI f (U w.heap) (ah h (I a) g) (ah j (I a) i) (ah o (I e) l))):=((ab.grown (eJ _ (U w.heap) 0 _) (λA d=>by cases d;exact aV _)).grown (eJ _ (U w.heap) 1 _) (λA d=>by cases d;exact aV _)).grown (eJ _ (U w.heap) 2 _) (λA d=>by cases d;exact aV _);have V:X (bD (gI f (U w.heap) (ah h (I a) g) (ah j (I a) i) (ah o (I e) l)) (U w.heap) #[ah h (I a) g,ah j (I a) i,ah o (I e) l] 105):=zW _ _ _ r;have⟨⟨a4,a5,a6⟩,a0,a1,a2⟩:=rU r;obtain⟨⟨E,F,G⟩,-⟩:=rU V.o;unfold gI at E F G;go_wp2;simp[jM,dx,Tryz.results63,go_sem,E,F,G];exact⟨O.o,aq ⟨a,z,e,_,_,_,rfl,am,ad,aG,ao,S.o,aj,J.o,aL⟩⟩
def Ai:(s.toList==[83,84,82,65])=af↔bytesOf s=[83,84,82,65]:=by
 rw[beq_iff_eq,uF];unfold bytesOf;constructor;intro d;rw[d];rfl;intro d;have e:s.data.toList.map UInt8.toNat=[(83:UInt8),84,82,65].map UInt8.toNat:=gJ d;have g:∀(c a:List UInt8),c.map UInt8.toNat=a.map UInt8.toNat->c=a:=by
  intro c
  induction c with
  |nil=>intro a b;cases a with|nil=>rfl|cons _ _=>simp at b
  |cons j i f=>
   intro a b;cases a with
   |nil=>simp at b
   |cons k h=>
    simp only[tV,vN] at b;rw[UInt8.toNat_inj.1 b.1,f h b.2]
 exact g _ _ e
def FP{s:ByteArray}(c:4<=bf s):bytesOf (e9 s 0 4)=[83,84,82,65]↔∃b,bytesOf s=[83,84,82,65]++b:=by
 rw[m9,s5];constructor;intro a;exact⟨(bytesOf s).drop 4,by rw[<-a];exact bA (vO 4 _)⟩;rintro⟨b,a⟩;rw[a];simp
def G2{s:ByteArray}(d:4<=bf s):bytesOf (e9 s (bf s-4) (bf s))=[83,84,82,65]↔∃b,bytesOf s=b++[83,84,82,65]:=by
 rw[m9];constructor;intro a;refine⟨(bytesOf s).take (bf s-4),?_⟩;rw[<-a,ja (l:=(bytesOf s).drop (bf s-4)) (by rw[uN,cJ];omega)];exact bA (vO _ _);rintro⟨b,a⟩;have c:=congrArg I a;rw[cJ] at c;simp at c;rw[a,show bf s-4=I b by omega,List.drop_left];exact ja (by simp;omega)
def Ta(s:ByteArray)(g:bf s<=aS):
 bn 150 #[au s,au ⟨#[83,84,82,65]⟩] w λe h=>∃c,e=aR (ak c)/\(c=af↔4<=bf s/\∃d,bytesOf s=[83,84,82,65]++d)/\h=w:=by
 unfold aS at g;by_cases b:4<=bf s
 .have f:decide ((4:Int)<=(bf s:Int))=af:=by simp;omega
  go_enter aE.func150,Tryz.ntmps150;go_wp2;go_ret;exact⟨_,rfl,by rw[Ai,FP b];exact⟨λa=>⟨b,a⟩,λa=>a.2⟩,rfl⟩
 .have f:decide ((4:Int)<=(bf s:Int))=ai:=by simp;omega
  go_enter aE.func150,Tryz.ntmps150;go_wp2;go_ret;exact⟨ai,rfl,⟨λa=>(by simp at a),λa=>absurd a.1 b⟩,rfl⟩
def Te(s:ByteArray)(g:bf s<=aS):
 bn 151 #[au s,au ⟨#[83,84,82,65]⟩] w λe h=>∃c,e=aR (ak c)/\(c=af↔4<=bf s/\∃d,bytesOf s=d++[83,84,82,65])/\h=w:=by
 unfold aS at g;by_cases b:4<=bf s
 .have f:decide ((4:Int)<=(bf s:Int))=af:=by simp;omega
  have i:dr ((bf s:Int)-4)=((bf s-4:Nat):Int):=by unfold dr;omega
  go_enter aE.func151,Tryz.ntmps151;go_wp2;go_ret;exact⟨_,rfl,by rw[Ai,G2 b];exact⟨λa=>⟨b,a⟩,λa=>a.2⟩,rfl⟩
 .have f:decide ((4:Int)<=(bf s:Int))=ai:=by simp;omega
  go_enter aE.func151,Tryz.ntmps151;go_wp2;go_ret;exact⟨ai,rfl,⟨λa=>(by simp at a),λa=>absurd a.1 b⟩,rfl⟩
def HN (s:ByteArray)(d:gL):Prop:=∃(b:ByteArray) (a:Bool),d=aR (cC #[au b,ak a])/\((a=af/\bytesOf s=[83,84,82,65]++bytesOf b)\/(a=ai/\b=s/\∀c,bytesOf s≠[83,84,82,65]++c))
def HR (s:ByteArray)(d:gL):Prop:=∃(b:ByteArray) (a:Bool),d=aR (cC #[au b,ak a])/\((a=af/\bytesOf s=bytesOf b++[83,84,82,65])\/(a=ai/\b=s/\∀c,bytesOf s≠c++[83,84,82,65]))
def ZA{s:ByteArray}(g:bf s<=aS):
 bn 126 #[au s,au ⟨#[83,84,82,65]⟩] w λc l=>HN s c/\l=w:=by
 have k:=g;unfold aS at k;go_enter aE.func126,Tryz.ntmps126;go_wp2_with fail;refine bL (Ta s g) ?_;rintro c n ⟨j,rfl,a,rfl⟩;cases j
 .have h:X (∀b,bytesOf s≠[83,84,82,65]++b):=λb d=>by
   have e:4<=bf s:=by
    have:=congrArg I d;rw[cJ] at this;simp at this;omega
   exact absurd (a.2 ⟨e,b,d⟩) (by simp)
  clear a;go_wp2;go_ret2;exact⟨⟨s,ai,rfl,an ⟨rfl,rfl,h.o⟩⟩,rfl⟩
 .have e:=(a.1 Y).1;have i:=ap ((a.1 Y).2);have m:(4:Int)<=(bf s:Int):=by omega
  clear a;go_wp2;go_ret2;refine⟨⟨e9 s 4 (bf s),af,rfl,aq ⟨rfl,?_⟩⟩,rfl⟩;have⟨b,f⟩:=i.o;rw[m9,f,ja (by rw[uN,<-f,cJ];omega)];simp
def ZB{s:ByteArray}(h:bf s<=aS):
 bn 127 #[au s,au ⟨#[83,84,82,65]⟩] w λc m=>HR s c/\m=w:=by
 have l:=h;unfold aS at l;go_enter aE.func127,Tryz.ntmps127;go_wp2_with fail;refine bL (Te s h) ?_;rintro c r ⟨k,rfl,b,rfl⟩;cases k
 .have i:X (∀a,bytesOf s≠a++[83,84,82,65]):=λa d=>by
   have e:4<=bf s:=by
    have:=congrArg I d;rw[cJ] at this;simp at this;omega
   exact absurd (b.2 ⟨e,a,d⟩) (by simp)
  clear b;go_wp2;go_ret2;exact⟨⟨s,ai,rfl,an ⟨rfl,rfl,i.o⟩⟩,rfl⟩
 .have e:=(b.1 Y).1;have j:=ap ((b.1 Y).2);have n:(4:Int)<=(bf s:Int):=by omega
  have o:dr ((bf s:Int)-4)=((bf s-4:Nat):Int):=by unfold dr;omega
  have p:((bf s-4:Nat):Int)<=(bf s:Int):=by omega
  have q:bS ((bf s:Int)-4)=bf s-4:=by omega
  clear b;go_wp2;go_ret2;refine⟨⟨e9 s 0 (bf s-4),af,rfl,aq ⟨rfl,?_⟩⟩,rfl⟩;have⟨a,f⟩:=j.o;have g:=congrArg I f;rw[cJ] at g;simp at g;rw[m9,f,s5,show bf s-4-0=I a by omega,List.take_left]
def RH(s:ByteArray)(d:bf s<=aS):
 bn 89 #[au s,au ⟨#[83,84,82,65]⟩] w λa f=>HN s a/\f=w:=by
 go_enter aE.func89,Tryz.ntmps89;go_wp2_with fail;refine bL (ZA d) ?_;rintro a g ⟨⟨e,b,rfl,c⟩,rfl⟩
 skip
 go_wp2;go_ret2;exact⟨⟨e,b,rfl,c⟩,rfl⟩
def IM(s:ByteArray)(d:bf s<=aS):
 bn 90 #[au s,au ⟨#[83,84,82,65]⟩] w λa f=>HR s a/\f=w:=by
 go_enter aE.func90,Tryz.ntmps90;go_wp2_with fail;refine bL (ZB d) ?_;rintro a g ⟨⟨e,b,rfl,c⟩,rfl⟩
 skip
 go_wp2;go_ret2;exact⟨⟨e,b,rfl,c⟩,rfl⟩
def oR (s:ByteArray):Nat->Nat
 |0=>0
 |k+1=>oR s k+256^k*aX (bytesOf s) k 0
def rI(s:ByteArray)(a:Nat):aX (bytesOf s) a 0<256:=by
 by_cases b:a<bf s;rw[ep,uT s a b];exact s[a].toNat_lt;rw[ep,xl (by rw[cJ];omega)];simp
theorem Cp(s:ByteArray):∀k,oR s k<256^k
 |0=>by simp[oR]
 |k+1=>by
  have a:=Cp s k;have b:=rI s k;have c:256^k*aX (bytesOf s) k 0<=256^k*255:=Nat.mul_le_mul_left _ (by omega);rw[oR,rC];omega
def FO:(256:Nat)^n=2^(8*n):=by rw[Nat.pow_mul]
def Vl(a:Nat)(d:m<=3)(b:a<256^m)(g:n<256):bits .or .u64 (a:Int) (lV.wrap ((n:Int)*2^(8*m)))=((a+256^m*n:Nat):Int):=by
 have e:256^m<=256^3:=n7 (by omega) d;have h:2^(8*m)*n<18446744073709551616:=by
  rw[<-FO];have:=s8 e (show n<=255 by omega);omega
 have c:(n:Int)*2^(8*m)=((2^(8*m)*n:Nat):Int):=by push_cast;rw[Int.mul_comm]
 have f:lV.wrap ((n:Int)*2^(8*m))=((2^(8*m)*n:Nat):Int):=by rw[c,wrap_u64];omega
 rw[f,((bits_nat .u64 64 (by decide) Hz a (2^(8*m)*n) (by omega) (by omega)).2),Nat.or_comm,<-Nat.two_pow_add_eq_or_of_lt (by rw[<-FO];exact b) n,Nat.add_comm,FO]
def Xf(s:ByteArray)(i:bf s=4):
 bn 91 #[au s] w λd h=>d=aR (bt .u64 (oR s 4:Int))/\h=w:=by
 go_enter aE.func91,Tryz.ntmps91;go_wp2_with fail
 go_loopw [3,5] (λg b wr=>∃a:Nat,a<=4/\b=n9 a/\g=bt .u64 (oR s a:Int)/\wr=w) (λ_ b _=>4-(bw b).toNat)
 case atStart=>exact⟨0,aa,rfl,rfl,rfl⟩
 case round=>
  obtain⟨a,j,rfl,rfl,rfl⟩:=hrel;by_cases l:a<4;have f:a<bf s:=aa;have k:(a:Int)<(bf s:Int):=aa;have c:X (s[a].toNat=aX (bytesOf s) a 0):=by show _=_;rw[ep,uT s a f];rfl
  have e:s[a].toNat<256:=s[a].toNat_lt;have m:=Vl (oR s a) (by omega) (Cp s a) e;have n:lV.wrap (s[a].toNat:Int)=(s[a].toNat:Int):=by rw[wrap_u64];omega
  go_wp2_with fail;refine⟨⟨a+1,aa,by go_num,?_,trivial⟩,by simp[bw];omega⟩;rw[oR,<-c.o]
  push_cast
  rfl;obtain rfl:a=4:=aa;go_wp2;go_ret;exact⟨rfl,rfl⟩
def JQ(a:ByteArray)(g:bf a=4):iS (oR a 4)=bytesOf a:=by
 have h:I (bytesOf a)=4:=by rw[cJ,g]
 have c:=rI a 0;have d:=rI a 1;have e:=rI a 2;have f:=rI a 3;simp only[oR];generalize bytesOf a=b at*
 match b,h with
 | [i,j,k,l],_=>
  simp at c d e f;simp[iS];omega
def TV(a:ByteArray)(f:n<=65536)(b:bytesOf a=iS n):oR a 4=n:=by
 have d:bf a=4:=by rw[<-cJ,b];rfl
 have c:iS (oR a 4)=iS n:=by rw[(JQ a d),b]
 have e:=Cp a 4;unfold iS at c;simp at c;have:(256:Nat)^4=4294967296:=ay;omega
def NR (s:ByteArray)(c:gL):Prop:=
 (∃a b:ByteArray,c=aR (cC #[au a,au b,ak af])/\Cut s (bytesOf a) (bytesOf b))\/(c=aR (cC #[au ⟨#[]⟩,au ⟨#[]⟩,ak ai])/\∀a b,¬Cut s a b)
def RI(s:ByteArray)(u:s.size<=aS):
 bn 61 #[au s] w λk v=>NR s k/\aD w v:=by
 have P:=u;unfold aS at P;by_cases W:65536<s.size
 .have L:decide ((65536:Int)<(s.size:Int))=af:=by simp;omega
  have g:X (∀b a,¬Cut s b a):=λb a e=>by have:=e.1;omega
  go_enter aE.func61,Tryz.ntmps61;go_wp2;simp[jM,dx,Tryz.results61,go_sem];exact⟨an ⟨rfl,g.o⟩,bU _ _⟩
 .have L:decide ((65536:Int)<(s.size:Int))=ai:=by simp;omega
  go_enter aE.func61,Tryz.ntmps61;go_wp2_with fail;refine bL (RH s u) ?_;rintro k aj ⟨⟨o,B,rfl,h⟩,rfl⟩;rcases h with⟨rfl,h⟩|⟨rfl,rfl,h⟩;rotate_left
  .have g:X (∀b a,¬Cut o b a):=λb a e=>h _ e.2;go_wp2_with fail;refine bL (IM o u) ?_;rintro k x ⟨⟨d,B,rfl,i⟩,rfl⟩;go_wp2;simp[jM,dx,Tryz.results61,go_sem];exact⟨an ⟨rfl,g.o⟩,bU _ _⟩
  .have Z:o.size+4=s.size:=by
    have:=congrArg I h;rw[cJ,cN,cJ] at this;simp at this;omega
   have R:o.size<=aS:=gy
   skip
   go_wp2_with fail;refine bL (IM o R) ?_;rintro k x ⟨⟨d,B,rfl,i⟩,rfl⟩;rcases i with⟨rfl,i⟩|⟨rfl,rfl,i⟩;rotate_left
   .have g:X (∀b a,¬Cut s b a):=λb a e=>by
     have l:=e.2;rw[h] at l;exact i (b++(a++iS (I a))) (by rw[(List.append_cancel_left (show[83,84,82,65]++bytesOf _=[83,84,82,65]++_ from l))];simp[nl])
    go_wp2;simp[jM,dx,Tryz.results61,go_sem];exact⟨an ⟨rfl,g.o⟩,bU _ _⟩
   have ab:d.size+4=o.size:=by
    have:=congrArg I i;rw[cJ,cN,cJ] at this;simp at this;omega
   have p:X (∀b a,Cut s b a->bytesOf d=b++(a++iS (I a))):=λb a e=>by
    have l:=e.2;rw[h] at l;have n:=List.append_cancel_left (show[83,84,82,65]++bytesOf _=[83,84,82,65]++_ from l);rw[i] at n;have D:bytesOf d++[83,84,82,65]=(b++(a++iS (I a)))++[83,84,82,65]:=by rw[n];simp[nl]
    exact List.append_cancel_right D
   have A:X (∀b a,bytesOf d=b++(a++iS (I a))->Cut s b a):=λb a e=>by
    refine⟨aa,?_⟩;rw[h,i,e];simp[nl]
   by_cases D:d.size<4
   .have M:decide ((d.size:Int)-4<0)=af:=by simp;omega
    have S:dr ((d.size:Int)-4)=(d.size:Int)-4:=by unfold dr;omega
    have g:X (∀b a,¬Cut s b a):=λb a e=>by
     have:=congrArg I (p.o b a e);rw[cJ] at this;simp[iS] at this;omega
    go_wp2;simp[jM,dx,Tryz.results61,go_sem];exact⟨an ⟨rfl,g.o⟩,bU _ _⟩
   obtain⟨c,Y⟩:∃c,d.size=c+4:=⟨d.size-4,aa⟩;have M:decide ((c:Int)<0)=ai:=aF;have S:dr ((d.size:Int)-4)=(c:Int):=by unfold dr;omega
   have U:(c:Int)<=(d.size:Int):=aa;have V:(d.size:Int)-4=(c:Int):=aa;obtain⟨f,r⟩:∃f,f=e9 d c (c+4):=⟨_,rfl⟩;have t:f.size=4:=by rw[r,tM];omega
   have q:X (bytesOf d=(bytesOf d).take c++bytesOf f):=by
    show _=_;rw[r,m9,ja (l:=(bytesOf d).drop c) (by rw[uN,cJ];omega),vO]
   have H:X (bn 91 #[au (e9 d c (c+4))] x λk v=>k=aR (bt .u64 (oR f 4:Int))/\v=x):=by rw[<-r];exact Xf f t
   have z:=ap (JQ f t);have G:=ap (Cp f 4);have y:X (∀b a,Cut s b a->oR f 4=I a/\I a<=c):=λb a e=>by
    have C:=p.o b a e;have E:=congrArg I C;rw[cJ] at E;simp[iS] at E;have n:(bytesOf d).take c++bytesOf f=(b++a)++iS (I a):=by rw[<-q.o,C,iD]
    have J:=(List.append_inj' n (by rw[cJ,t];rfl)).2;exact⟨TV f (by omega) J,by omega⟩
   generalize oR f 4=j at*;go_wp2_with fail;refine bL H.o ?_;rintro k al ⟨rfl,rfl⟩;have ad:lV.wrap (c:Int)=(c:Int):=by rw[wrap_u64];omega
   have T:X (s.size<=65536):=by show _<=_;omega
   by_cases K:c<j
   .have N:(c:Int)<(j:Int):=by omega
    have g:X (∀b a,¬Cut s b a):=λb a e=>by have:=y.o b a e;omega
    go_wp2;simp[jM,dx,Tryz.results61,go_sem];exact⟨an ⟨rfl,g.o⟩,bU _ _⟩
   have N:decide ((c:Int)<(j:Int))=ai:=bO;obtain⟨m,Q⟩:∃m,c=m+j:=⟨c-j,aa⟩;have ae:(c:Int)-(j:Int)=(m:Int):=aa;have F:X (Cut s (bytesOf (e9 d 0 m)) (bytesOf (e9 d m c))):=by
    refine A.o _ _ ?_;have O:I (bytesOf (e9 d m c))=j:=by rw[cJ,tM];omega
    rw[O,z.o];have l:=q.o;rw[m9,m9,s5,<-iD];have n:((bytesOf d).take (m-0))++((bytesOf d).drop m).take (c-m)=(bytesOf d).take c:=by
     rw[show c=m+(c-m) by omega,List.take_add,show m+(c-m)-m=c-m by omega];rfl
    rw[n];exact l
   clear p A y q z G Q K;go_upto_region 12 with fail;go_quiet (fail);go_wp2;simp[jM,dx,Tryz.results61,go_sem];exact⟨aq ⟨_,_,rfl,F.o⟩,below_drewN (bU _ _) _⟩
def On (k:ag)(s e:ByteArray)(j:gL)(l:ag):Prop:=
 aD k l/\((∃(b:List (bF×Int)) (a:List Bd) (f:List (Bd×F)) (g h i:F),j=aR (cC #[cw #[g,h,i],ak af])/\jy b a/\f.map bp=a/\bytesOf s=hO b a/\bytesOf e=fi a/\iW l (U k.heap) b f g h i/\(∀d c,jy d c->bytesOf s=hO d c->bytesOf e=fi c->d=b/\c=a))\/
  (j=aR (cC #[cw #[aH,aH,aH],ak ai])/\∀b a,jy b a->bytesOf s=hO b a->bytesOf e≠fi a))
def Ix(hL:u.heap[U w.heap]? =K (ax #[x,y,z] 105 (0,0)))(b:u.heap[U w.heap+1]? =K (ax #[v] 4 (0,0))):
 CallsD (aM av) 92 #[(aZ (U w.heap)),(aZ (U w.heap+1))] (kr (g3 n)) u λa c d=>
  a=aR (cC #[])/\c=kr [{v:=.iface 205 (cw #[n9 n]),recovered:=af}]/\d=bg (gI (cD u (ax ve 105)) (U w.heap) aH aH aH) ⟨U w.heap+1,0,Z⟩ (ak ai):=
 Pz aa hL b
def Hv(b c d e:F)(hL:w4.heap[U w.heap]? =K (ax #[x,y,z] 105 (0,0)))(i:w4.heap[U w.heap+1]? =K (ax #[v] 4 (0,0)))(h:aD w w4):
 let a:=(gI w4 (U w.heap) b c d).setCell ⟨U w.heap+1,0,Z⟩ e
 (aJ a (U w.heap) 0 b/\aJ a (U w.heap) 1 c/\aJ a (U w.heap) 2 d)/\aJ a (U w.heap+1) 0 e/\aD w a:=by
 have f:=zW b c d hL;have g:(gI w4 (U w.heap) b c d).heap[U w.heap+1]? =K (ax #[v] 4 (0,0)):=by rw[zX (by omega)];exact i
 refine⟨(rU (t:=105) (by rw[ef _ _ _ _ aF];exact f)).1,(oT (A4 e g)).1,?_⟩;exact(Bb h (aV _) (aV _)).setCell (Nat.le_succ _) _
def aaR(G:Nat)(s v:ByteArray)(a:ag)(bc:s.size<=65536)(bh:v.size<=65536)(ad:a.heap[G]? =K (ax #[au v] 9 (0,0))):
 bn 62 #[au s,.func (.func 63) #[] #[(aZ G)]] a (On a s v):=by
 have ba:=bC ad;have aj:s.size<=aS:=gy
 skip
 go_enter_defers aE.func62,Tryz.ntmps62
 go_wp2_with (go_at_call 65;refine(Fc s).mono ?_;rintro q am ⟨rfl,rfl⟩);have ab:bD (((a.alloc (ax #[aH,aH,aH] 105)).alloc (ax #[ak ai] 4)).alloc (bR s 0)) (U a.heap) #[aH,aH,aH] 105:=G8 _ _ _ _;have T:bD (((a.alloc (ax #[aH,aH,aH] 105)).alloc (ax #[ak ai] 4)).alloc (bR s 0)) (U a.heap+1) #[ak ai] 4:=G9 _ _ _ _;have a6:(((a.alloc (ax #[aH,aH,aH] 105)).alloc (ax #[ak ai] 4)).alloc (bR s 0)).heap[U a.heap+1+1]? =K (bR s 0):=He _ _ _ _;have br:(((a.alloc (ax #[aH,aH,aH] 105)).alloc (ax #[ak ai] 4)).alloc (bR s 0)).heap.size=U a.heap+3:=aF;have N:aD a (((a.alloc (ax #[aH,aH,aH] 105)).alloc (ax #[ak ai] 4)).alloc (bR s 0)):=(((bU _ _).alloc (aV _) _).alloc aF _).alloc bO _;generalize (((a.alloc (ax #[aH,aH,aH] 105)).alloc (ax #[ak ai] 4)).alloc (bR s 0))=bl at*;refine(Vw bc bh a6 ((cS N G ba).trans ad)).mono ?_;rintro q i ⟨u,⟨b,j,c,ay,az,aC,rfl,bb,a4,bd,bs,a7,a9,hF,be⟩|⟨bu,rfl,a5⟩⟩;have n:bD i (U a.heap) #[aH,aH,aH] 105:=Kp.block u ab aa;have z:bD i (U a.heap+1) #[ak ai] 4:=Kp.block u T aa;have O:aD a i:=N.trans ((u.below aa).mono aa);have W:iW i (U a.heap) b c ay az aC:=hF.ab7 aa;obtain⟨d,ac,f,e,h,g,rfl,rfl,rfl⟩:=W.ES;have Q:X (iW (gI i (U a.heap) (ah d (I b) ac) (ah f (I b) e) (ah h (I c) g)) (U a.heap) b c (ah d (I b) ac) (ah f (I b) e) (ah h (I c) g)):=W.gI n;have a3:bD (gI i (U a.heap) (ah d (I b) ac) (ah f (I b) e) (ah h (I c) g)) (U a.heap) #[ah d (I b) ac,ah f (I b) e,ah h (I c) g] 105:=zW _ _ _ n;have a1:(gI i (U a.heap) (ah d (I b) ac) (ah f (I b) e) (ah h (I c) g)).heap[U a.heap+1]? =K (ax #[ak ai] 4 (0,0)):=by rw[zX (by omega)];exact z
 have a8:(gI i (U a.heap) (ah d (I b) ac) (ah f (I b) e) (ah h (I c) g)).heap[U a.heap+1+1]? =K (bR s (I (hO b j))):=by rw[zX (by omega)];exact a7
 have a0:aD a (gI i (U a.heap) (ah d (I b) ac) (ah f (I b) e) (ah h (I c) g)):=Bb O (aV _) (aV _);have⟨⟨bi,bj,bk⟩,aI,w,x⟩:=rU n;have R:X (∀l k,jy l k->bytesOf s=hO l k->bytesOf v=fi k->l=b/\k=j):=λl k y r M=>be l k y (uw (bA r)) M;have D:=ap a3;have C:=ap a1;have B:=ap a0;have F:=ap a8;go_upto_region 4 with fail;unfold gI at Q D C B F;generalize bg (bg (bg i ⟨U a.heap,0,Z⟩ (ah d (I b) ac)) ⟨U a.heap,1,Z⟩ (ah f (I b) e)) ⟨U a.heap,2,Z⟩ (ah h (I c) g)=p at*;by_cases ae:I (hO b j)<s.size;have E:X (∀b j,jy b j->bytesOf s=hO b j->bytesOf v≠fi j):=λl k y r M=>by
  have⟨S,aG⟩:=R.o l k y r M;have:=congrArg I r;rw[cJ,S,aG] at this;omega
 go_wp2_with (go_at_call 93;refine(ED (U a.heap+1+1) _ s aj ae F.o).mono ?_;rintro q am ⟨rfl,m,rfl⟩);have o:bD (cT p m) (U a.heap) #[ah d (I b) ac,ah f (I b) e,ah h (I c) g] 105:=D.o;have t:bD (cT p m) (U a.heap+1) #[ak ai] 4:=C.o;have P:=below_drewN B.o m;generalize cT p m=A at*;have⟨⟨w,x,H⟩,J,L⟩:=Hv aH aH aH (ak ai) (w4:=A.alloc (ax ve 105)) (b5 (e6 _ _ _ (bC o)) o) (b5 (e6 _ _ _ (bC t)) t) (P.alloc (cB (bC o)) _);refine leaves_cons (f:=92) (args:= #[(aZ (U a.heap)),(aZ (U a.heap+1))]) aF (by simp[go_sem]) ?_;refine(Ix o t).mono ?_;rintro q al ao ⟨rfl,rfl,rfl⟩;simp[Leaves,settle,dx,Tryz.results62,go_sem,w,x,H,J];exact⟨L,an ⟨rfl,E.o⟩⟩
 .have ar:X (bytesOf s=hO b j):=MQ bd (by rw[cJ];omega);go_upto_region 5 with(go_at_call 93;refine(EE (U a.heap+1+1) _ s aj ae F.o).mono ?_;rintro q am ⟨rfl,m,rfl⟩);have o:bD (cT p m) (U a.heap) #[ah d (I b) ac,ah f (I b) e,ah h (I c) g] 105:=D.o;have t:bD (cT p m) (U a.heap+1) #[ak ai] 4:=C.o;have P:=below_drewN B.o m;have a2:iW (cT p m) (U a.heap) b c (ah d (I b) ac) (ah f (I b) e) (ah h (I c) g):=Q.o.below (below_drewN (bU _ _) _);generalize cT p m=A at*;have⟨⟨aJ,aL,aM⟩,aQ,aY⟩:=Hv (ah d (I b) ac) (ah f (I b) e) (ah h (I c) g) (ak af) o t P;have V:(gI A (U a.heap) (ah d (I b) ac) (ah f (I b) e) (ah h (I c) g)).heap[U a.heap+1]? =K (ax #[ak ai] 4 (0,0)):=by rw[zX (by omega)];exact t
  have aw:X (iW (bg (gI A (U a.heap) (ah d (I b) ac) (ah f (I b) e) (ah h (I c) g)) ⟨U a.heap+1,0,Z⟩ (ak af)) (U a.heap) b c (ah d (I b) ac) (ah f (I b) e) (ah h (I c) g)):=(a2.gI o).put V (an (aq Y)) _ _;have⟨⟨bi,bj,bk⟩,aI,w,x⟩:=rU o;have⟨bo,S⟩:=oT V;unfold gI at*;go_wp2;generalize bg (bg (bg (bg A ⟨U a.heap,0,Z⟩ (ah d (I b) ac)) ⟨U a.heap,1,Z⟩ (ah f (I b) e)) ⟨U a.heap,2,Z⟩ (ah h (I c) g)) ⟨U a.heap+1,0,Z⟩ (ak af)=bm at*;refine leaves_cons (f:=92) (args:= #[(aZ (U a.heap)),(aZ (U a.heap+1))]) aF (by simp[go_sem]) ?_;refine(Py).mono ?_;rintro q al ao ⟨rfl,rfl,rfl⟩;simp[Leaves,settle,dx,Tryz.results62,go_sem,aJ,aL,aM,aQ];exact⟨aY,aq ⟨b,j,c,_,_,_,rfl,bb,a4,ar.o,a9,aw.o,R.o⟩⟩
 have n:bD i (U a.heap) #[aH,aH,aH] 105:=Kp.block u ab aa;have z:bD i (U a.heap+1) #[ak ai] 4:=Kp.block u T aa;have O:aD a i:=N.trans ((u.below aa).mono aa);have E:X (∀b j,jy b j->bytesOf s=hO b j->bytesOf v≠fi j):=λl k y r=>a5 l k y (uw (bA r));have⟨⟨w,x,H⟩,J,L⟩:=Hv aH aH aH (ak ai) (w4:=i.alloc (ax ve 105)) (by rw[e6 _ _ _ (bC n)];exact n) (by rw[e6 _ _ _ (bC z)];exact z) (O.alloc (cB (bC n)) _);refine leaves_cons (f:=92) (args:= #[(aZ (U a.heap)),(aZ (U a.heap+1))]) aF (by simp[go_sem]) ?_;refine(Ix n z).mono ?_;rintro q al ao ⟨rfl,rfl,rfl⟩;simp[Leaves,settle,dx,Tryz.results62,go_sem,w,x,H,J];exact⟨L,an ⟨rfl,E.o⟩⟩
def l8 (v low:az):Bool:= !low.null&&decide (gp v low<0)
def l6 (v high:az):Bool:= !high.null&&decide (0<gp v high)
def JJ(v low:az)(a:ag):bn 114 #[v.agg,low.agg] a λg e=>g=aR (ak (l8 v low))/\aD a e:=by
 have i:=λk=>Ev v low k;have⟨h,b,c⟩:=low;unfold az.agg;have f:X (aD a ((a.alloc (ax (dF v) 59)).alloc (ax #[ak h,z9 b,au c] 59))):=((bU _ _).alloc (aV _) _).alloc aF _;cases h
 .have d:l8 v ⟨ai,b,c⟩=decide (gp v ⟨ai,b,c⟩<0):=by simp[l8]
  rw[d];go_enter aE.func114,Tryz.ntmps114;go_wp2_with (go_at_call 125;refine(i _).mono ?_;rintro g e ⟨rfl,l⟩;have j:X (aD a e):=fJ f.o (l.mono bO));go_ret;exact⟨rfl,j.o⟩
 .have d:l8 v ⟨af,b,c⟩=ai:=by simp[l8]
  rw[d];go_enter aE.func114,Tryz.ntmps114;go_wp2;go_ret;exact⟨rfl,f.o⟩
def JI(v low:az)(a:ag):bn 115 #[v.agg,low.agg] a λg e=>g=aR (ak (l6 v low))/\aD a e:=by
 have i:=λk=>Ev v low k;have⟨h,b,c⟩:=low;unfold az.agg;have f:X (aD a ((a.alloc (ax (dF v) 59)).alloc (ax #[ak h,z9 b,au c] 59))):=((bU _ _).alloc (aV _) _).alloc aF _;cases h
 .have d:l6 v ⟨ai,b,c⟩=decide (0<gp v ⟨ai,b,c⟩):=by simp[l6]
  rw[d];go_enter aE.func115,Tryz.ntmps115;go_wp2_with (go_at_call 125;refine(i _).mono ?_;rintro g e ⟨rfl,l⟩;have j:X (aD a e):=fJ f.o (l.mono bO));go_ret;exact⟨rfl,j.o⟩
 .have d:l6 v ⟨af,b,c⟩=ai:=by simp[l6]
  rw[d];go_enter aE.func115,Tryz.ntmps115;go_wp2;go_ret;exact⟨rfl,f.o⟩
def qv (a b c d e:F)(sk:Bool):F:=cw #[a,b,c,d,e,ak sk]
def S6(g:Option aN)(d j:Nat)(h i k l:F)(sk:Bool)(a:Int)(b:ag):bn 106 #[qv (ah g d j) h i k l sk,z9 a] b λf n=>f=aR (ak (decide (0<=a)&&decide (a<(d:Int))))/\aD b n:=by
 unfold qv;have e:X (aD b (b.alloc (ax #[ah g d j,h,i,k,l,ak sk] 115))):=(bU _ _).alloc (aV _) _;by_cases m:0<=a
 .have c:decide (0<=a)=af:=by simpa using m
  rw[c];go_enter aE.func106,Tryz.ntmps106;go_wp2;go_ret;exact⟨rfl,e.o⟩
 .have c:decide (0<=a)=ai:=by simpa using m
  rw[c];go_enter aE.func106,Tryz.ntmps106;go_wp2;go_ret;exact⟨rfl,e.o⟩
structure bJ where
 col:Int
 low:az
 high:az
def tu (a:bJ):List F:=[z9 a.col,ak a.low.null,z9 a.low.n,au a.low.s,ak a.high.null,z9 a.high.n,au a.high.s]
def eP (a:List bJ):List F:=a.flatMap tu
structure dy(w:ag)(ao:Option aN)(b off:Nat)(l:List bJ):Prop where
 addr:0<I l->ao=K ⟨b,off,Z⟩
 lt:0<I l->b<U w.heap
 c0:∀j (h:j<I l),aA w ⟨b,off+j*7,Z⟩=K (z9 l[j].col)
 c1:∀j (h:j<I l),aA w ⟨b,off+j*7+1,Z⟩=K (ak l[j].low.null)
 c2:∀j (h:j<I l),aA w ⟨b,off+j*7+2,Z⟩=K (z9 l[j].low.n)
 c3:∀j (h:j<I l),aA w ⟨b,off+j*7+3,Z⟩=K (au l[j].low.s)
 c4:∀j (h:j<I l),aA w ⟨b,off+j*7+4,Z⟩=K (ak l[j].high.null)
 c5:∀j (h:j<I l),aA w ⟨b,off+j*7+5,Z⟩=K (z9 l[j].high.n)
 c6:∀j (h:j<I l),aA w ⟨b,off+j*7+6,Z⟩=K (au l[j].high.s)
def dy.kept{e:List bJ}(c:dy w O n m e)(i:U w.heap<=U u.heap)(h:0<I e->u.heap[n]? =w.heap[n]?):dy u O n m e:=by
 have d:∀a,a<I e->∀f,aA u ⟨n,f,Z⟩=aA w ⟨n,f,Z⟩:=λa b f=>by unfold aA;rw[h aa]
 exact⟨c.addr,λg=>cL (c.lt g) i,λa b=>aB (d a b _) (c.c0 a b),λa b=>aB (d a b _) (c.c1 a b),λa b=>aB (d a b _) (c.c2 a b),λa b=>aB (d a b _) (c.c3 a b),λa b=>aB (d a b _) (c.c4 a b),λa b=>aB (d a b _) (c.c5 a b),λa b=>aB (d a b _) (c.c6 a b)⟩
def dy.below{c:List bJ}(a:dy w O n m c)(b:aD w u):dy u O n m c:=a.kept b.size λd=>cS b n (a.lt d)
theorem x5:∀(d:List bJ) (b:Nat) (e:b<I d) (a:Nat) (v:F),(tu d[b])[a]? =K v->(eP d)[b*7+a]? =K v
 | [],b,e,a,v,c=>by simp at e
 |x::d,0,e,a,v,c=>by
  simp only[n5] at c;simp only[eP,lD,Nat.zero_mul,e7];exact ru (fq.1 c).1▸c
 |x::d,b+1,e,a,v,c=>by
  simp only[mH] at c;have:=x5 d b (cM e) a v c;have f:(b+1)*7+a=b*7+a+7:=aa;rw[f];simpa [eP,tu] using this
def uh(a:List bJ):I (eP a)=I a*7:=by
 induction a with
 |nil=>rfl
 |cons c a b=>simp only[eP,lD,cN,pI,tu,yZ] at b ⊢;omega
def dy.A3{e:List bJ}(g:n<U w.heap)(f:∀d v,(eP e)[d]? =K v->aA w ⟨n,m+d,Z⟩=K v):dy w (K ⟨n,m,Z⟩) n m e:=by
 have c:∀a (b:a<I e) d v,(tu e[a])[d]? =K v->aJ w n (m+a*7+d) v:=λa b d v h=>by
  have:=f _ _ (x5 e a b d v h);rw[gF];exact this
 exact⟨λ_=>rfl,λ_=>g,λa b=>c a b 0 _ Y,λa b=>c a b 1 _ Y,λa b=>c a b 2 _ Y,λa b=>c a b 3 _ Y,λa b=>c a b 4 _ Y,λa b=>c a b 5 _ Y,λa b=>c a b 6 _ Y⟩
structure mG(w:ag)(lb m:Nat)(c:Int)(p:Nat)(v:az):Prop where
 ex:∃j g n cap:Nat,c=(j:Int)/\j<m/\lb<U w.heap/\aA w ⟨lb,j,Z⟩=K (aI g n cap)/\p<n/\g<U w.heap/\aA w ⟨g,p*3,Z⟩=K (ak v.null)/\aA w ⟨g,p*3+1,Z⟩=K (z9 v.n)/\aA w ⟨g,p*3+2,Z⟩=K (au v.s)
def mG.below{v:az}(f:mG w n m M k v)(a:aD w u):mG u n m M k v:=by
 have⟨d,b,r,e,g,h,i,j,l,c,o,p,q⟩:=f.ex;have s:=a.size;exact⟨d,b,r,e,g,h,aa,aB (bq a (p:=⟨n,d,Z⟩) i) j,l,aa,aB (bq a (p:=⟨b,k*3,Z⟩) c) o,aB (bq a (p:=⟨b,k*3+1,Z⟩) c) p,aB (bq a (p:=⟨b,k*3+2,Z⟩) c) q⟩
def fP (v:az)(a:bJ):Bool:= !(v.null||l8 v a.low||l6 v a.high)
def me(b:ag)(a:cj):(cD b a).heap[U b.heap]? =K a:=by
 show(Array.push b.heap a)[U b.heap]? =K a;simp
def vq{a b c d e f g:F}(h:w.heap[n]? =K (ax #[a,b,c,d,e,f,g] Qc (0,0))):aA w ⟨n,0,Z⟩=K a/\aA w ⟨n,1,Z⟩=K b/\aA w ⟨n,2,Z⟩=K c/\aA w ⟨n,3,Z⟩=K d/\aA w ⟨n,4,Z⟩=K e/\aA w ⟨n,5,Z⟩=K f/\aA w ⟨n,6,Z⟩=K g:=by
 unfold aA;simp[h]
def JU(b:List bJ)(s:Int->az)(D O m be:Nat)(a0 a1 a2 a3:F)(ar:Option aN)(rb bY bE:Nat)(sk:Bool)(j:ag)(bc:I b<=aS)(l:dy j ar rb bY b)(ba:∀ao∈b,mG j O m ao.col D (s ao.col)):
 bn 118 #[qv a0 a1 a2 a3 (ah ar (I b) bE) sk,aI O m be,n9 D] j λt z=>∃ab,t=aR (ak ab)/\(ab=af↔∀a (i:a<I b),fP (s b[a].col) b[a]=af)/\aD j z:=by
 unfold qv;unfold aS at bc;have aQ:=ap l;go_enter aE.func118,Tryz.ntmps118;go_wp2_with fail
 go_loopw [13] (λa wr=>∃d:Nat,d<=I b/\a=z9 d/\(∀a (i:a<I b),a<d->fP (s b[a].col) b[a]=af)/\aD j wr) (λa _=>I b-bS (bw a))
 exact⟨0,cE _,rfl,λcc _ i=>aa,(bU _ _).alloc (aV _) _⟩;obtain⟨d,b3,rfl,aj,G⟩:=hrel;have W:=ap G;have bd:=G.size
 skip
 by_cases p:d<I b
 .have l:=aQ.o.below G;obtain rfl:=l.addr (by omega);have bh:=l.c0 d p;have bi:=l.c1 d p;have bj:=l.c2 d p;have bk:=l.c3 d p;have bl:=l.c4 d p;have bm:=l.c5 d p;have bo:=l.c6 d p;have⟨y,M,b4,bI,ad,bN,a4,a5,bP,L,a6,a7,a8⟩:=((ba b[d] (c8 p)).below G).ex;have J:X (fP (s b[d].col) b[d]=ai->¬∀a (i:a<I b),fP (s b[a].col) b[a]=af):=λi a9=>by
   have:=a9 d p;rw[i] at this;cases this
  have aY:X (fP (s b[d].col) b[d]=af->∀a (i:a<I b),a<d+1->fP (s b[a].col) b[a]=af):=λi a bb b1=>by
   by_cases t:a=d;subst t;exact i;exact aj a bb (by omega)
  generalize b[d]=aL at*;generalize s aL.col=v at*;have⟨cd,g,f⟩:=aL;dsimp only at ad bh bi bj bk bl bm bo;subst ad;go_upto_region 4 with fail;have br:=vq (me wr (ax #[n9 y,ak g.null,z9 g.n,au g.s,ak f.null,z9 f.n,au f.s] 61));have⟨b5,bs,bu,bv,bx,bD,bF⟩:=br;have h:aD wr (wr.alloc (ax #[n9 y,ak g.null,z9 g.n,au g.s,ak f.null,z9 f.n,au f.s] 61)):=(bU _ _).alloc (aV _) _;have bR:=(bq h (p:=⟨O,y,Z⟩) a4).trans a5;have bV:=(bq h (p:=⟨M,D*3,Z⟩) L).trans a6;have bZ:=(bq h (p:=⟨M,D*3+1,Z⟩) L).trans a7;have b0:=(bq h (p:=⟨M,D*3+2,Z⟩) L).trans a8;have Y:=ap (W.o.trans (h.mono bd));have B:U wr.heap<(wr.alloc (ax #[n9 y,ak g.null,z9 g.n,au g.s,ak f.null,z9 f.n,au f.s] 61)).heap.size:=aF;generalize wr.alloc (ax #[n9 y,ak g.null,z9 g.n,au g.s,ak f.null,z9 f.n,au f.s] 61)=n at*;generalize U wr.heap=e at*;have b2:(y:Int)<(m:Int):=aa;go_upto_region 5 with fail;have⟨E,P,Q⟩:=M9 n (ak v.null) (z9 v.n) (au v.s) 59;have h:aD n (n.alloc (ax (dF v) 59)):=(bU _ _).alloc (aV _) _;have b7:=(bq h (p:=⟨e,1,Z⟩) B).trans bs;have ca:=(bq h (p:=⟨e,2,Z⟩) B).trans bu;have cb:=(bq h (p:=⟨e,3,Z⟩) B).trans bv;have R:=(bq h (p:=⟨e,4,Z⟩) B).trans bx;have S:=(bq h (p:=⟨e,5,Z⟩) B).trans bD;have T:=(bq h (p:=⟨e,6,Z⟩) B).trans bF;have w:X (aD j (n.alloc (ax (dF v) 59))):=Y.o.trans (h.mono (cB Y.o.size));have q:e<(n.alloc (ax (dF v) 59)).heap.size:=bO;have r:U n.heap<(n.alloc (ax (dF v) 59)).heap.size:=aF;generalize n.alloc (ax (dF v) 59)=bH at*;generalize U n.heap=o at*;have u:=λK=>JJ v g K;have A:=λK=>JI v f K;unfold az.agg at u A;have k:fP v ⟨(y:Int),g,f⟩= !(v.null||l8 v g||l6 v f):=rfl;cases am:v.null
  .rw[am] at E u A k;cases al:l8 v g
   .rw[al] at u k;cases ae:l6 v f
    .rw[ae] at A k;have aZ:=ap (aY.o k);go_wp2_with (first|(go_at_call 114;refine(u _).mono ?_;rintro t z ⟨rfl,c⟩;have x:X (aD j z):=w.o.trans (c.mono (cB w.o.size));have aw:=(bq c (p:=⟨o,0,Z⟩) r).trans E;have ay:=(bq c (p:=⟨o,1,Z⟩) r).trans P;have aC:=(bq c (p:=⟨o,2,Z⟩) r).trans Q;have aG:=(bq c (p:=⟨e,4,Z⟩) q).trans R;have aH:=(bq c (p:=⟨e,5,Z⟩) q).trans S;have aJ:=(bq c (p:=⟨e,6,Z⟩) q).trans T)|(go_at_call 115;refine(A _).mono ?_;rintro t V ⟨rfl,N⟩;have H:X (aD j V):=x.o.trans (N.mono (cB x.o.size))))
     go_roundw
     exact⟨d+1,by omega,by go_num,aZ.o,H.o⟩;simp[bw];omega
    rw[ae] at A k;have C:=ap (J.o k);go_wp2_with (first|(go_at_call 114;refine(u _).mono ?_;rintro t z ⟨rfl,c⟩;have x:X (aD j z):=w.o.trans (c.mono (cB w.o.size));have aw:=(bq c (p:=⟨o,0,Z⟩) r).trans E;have ay:=(bq c (p:=⟨o,1,Z⟩) r).trans P;have aC:=(bq c (p:=⟨o,2,Z⟩) r).trans Q;have aG:=(bq c (p:=⟨e,4,Z⟩) q).trans R;have aH:=(bq c (p:=⟨e,5,Z⟩) q).trans S;have aJ:=(bq c (p:=⟨e,6,Z⟩) q).trans T)|(go_at_call 115;refine(A _).mono ?_;rintro t V ⟨rfl,N⟩;have H:X (aD j V):=x.o.trans (N.mono (cB x.o.size))));go_ret;exact⟨ai,rfl,by simp only[fA,false_iff];exact C.o,H.o⟩
   rw[al] at u k;have C:=ap (J.o k);go_wp2_with (go_at_call 114;refine(u _).mono ?_;rintro t z ⟨rfl,c⟩;have x:X (aD j z):=w.o.trans (c.mono (cB w.o.size));have aw:=(bq c (p:=⟨o,0,Z⟩) r).trans E;have ay:=(bq c (p:=⟨o,1,Z⟩) r).trans P;have aC:=(bq c (p:=⟨o,2,Z⟩) r).trans Q;have aG:=(bq c (p:=⟨e,4,Z⟩) q).trans R;have aH:=(bq c (p:=⟨e,5,Z⟩) q).trans S;have aJ:=(bq c (p:=⟨e,6,Z⟩) q).trans T);go_ret;exact⟨ai,rfl,by simp only[fA,false_iff];exact C.o,x.o⟩
  rw[am] at E k;have C:=ap (J.o k);go_wp2;go_ret;exact⟨ai,rfl,by simp only[fA,false_iff];exact C.o,w.o⟩
 have aM:X (∀a (i:a<I b),fP (s b[a].col) b[a]=af):=λa i=>aj a i aa;go_wp2;go_ret;exact⟨af,rfl,by simp only[true_iff];exact aM.o,W.o⟩
def Lv{b:Int->az}{c d e f:F}{sk:Bool}(aZ:I aj<=1000)(N:0<I aj->O=K ⟨j,bN,Z⟩)(Q:0<I aj->j<U w.heap)(P:∀q,q<I aj->aJ w j (bN+q) (z9 (aX aj q 0)))(R:∀a∈aj,mG w k m a n (b a)):
 bn 119 #[qv c d e (ah O (I aj) bH) f sk,aI k m i,n9 n] w λJ A=>aD w A/\∃v,J=aR v/\aT A (U w.heap) 59 3 v (I aj) (bZ (aj.map b)):=by
 unfold qv;have⟨y,t,ae,x,al⟩:=eU aE.nh;have G:=ap P;have E:X (aD w (w.alloc (ax #[c,d,e,ah O (I aj) bH,f,ak sk] 115))):=(bU _ _).alloc (aV _) _;have a1:(w.alloc (ax #[c,d,e,ah O (I aj) bH,f,ak sk] 115)).heap.size=U w.heap+1:=aF;go_enter aE.func119,Tryz.ntmps119;go_wp2_with (at_make;refine wpList_make_own _ Y _ _ 43 Y (U w.heap+1) 59 y _ 3 aE.underlying43 t ae x bM bM _ (I aj) Y Y Y (jG al) gy aF ?_;intro B ab V;have s:=iB (bU (U w.heap+1) (w.alloc (ax #[c,d,e,ah O (I aj) bH,f,ak sk] 115))) V aF aF;have a0:aJ B (U w.heap) 3 (ah O (I aj) bH):=(bq s (p:=⟨U w.heap,3,Z⟩) aF).trans (by unfold aA;rw[me];rfl));have C:X (aD w B):=E.o.trans (s.mono aa)
 go_loopw [7,17] (λam p wr=>∃a:Nat,a<=I aj/\p=n9 a/\am=aI (U w.heap+1) a (I aj)/\aT wr (U w.heap+1) 59 3 (aI (U w.heap+1) a (I aj)) a (bZ ((aj.take a).map b))/\aD w wr) (λ_ p _=>I aj-bS (bw p))
 exact⟨0,cE _,rfl,rfl,by simpa [bZ] using ab,C.o⟩;obtain⟨a,aY,rfl,rfl,o,g⟩:=hrel;have r:=ap g;have ad:=g.size;by_cases h:a<I aj;obtain rfl:=N aa;have z:aJ wr j (bN+a) (z9 (aX aj a 0)):=(bq g (p:=⟨j,bN+a,Z⟩) (Q aa)).trans (G.o a h);have T:aX aj a 0=aj[a]:=by rw[ep,dH h];rfl
 rw[T] at z;have⟨a3,M,a4,ar,L,aw,ay,aC,aG,aH,aL,aM,aQ⟩:=((R aj[a] (c8 h)).below g).ex;have H:X (bZ ((aj.take a).map b)++[ak (b aj[a]).null,z9 (b aj[a]).n,au (b aj[a]).s]=bZ ((aj.take (a+1)).map b)):=by
  show _=_;rw[gh h,gY,sg,nF]
 generalize a2:b aj[a]=l at*;rw[L] at z;go_wp2_with (at_builtin;refine r7 _ Y _ _ 43 Y (U w.heap+1) 59 y 3 aE.underlying43 t x (U w.heap+1) a (I aj) _ Y (o.alloc _) ⟨U wr.heap,0,Z⟩ 1 1 [ak l.null,z9 l.n,au l.s] Y Y (by exact lR _) (lS l) aa ?_;intro ao u W);have D:X (aD w ao):=iB (r.o.alloc ad _) W bO (by intro M S;simp at S;omega);rw[H.o] at u;go_wp2
 go_roundw
 exact⟨a+1,aa,by go_num,rfl,u,D.o⟩;simp[bw];omega;obtain rfl:a=I aj:=aa;rw[iZ] at o;go_wp2;go_ret;exact⟨r.o,_,rfl,j6 o aa⟩
def aE.Tw:((aM av).info? 4).map (λa=>(jL a,a.size,ji a))=K (K (ak ai),1,1):=bl
def cY (d:Nat)(c:List Int):List Bool:=(eH d).map fun(a:Nat)=>c.any λb=>b==(a:Int)
def kC (a:List Bool):List F:=a.map ak
def Cs:I (cY n qY)=n:=by simp[cY]
def J2:(kC (cY n qY)).set m (ak af)=kC (cY n (qY++[(m:Int)])):=by
 apply List.ext_getElem?;intro c;simp only[kC,cY,List.getElem?_set,ee,List.length_range,sb,List.any_append];by_cases b:m=c;subst b;by_cases a:m<n;simp[a];simp[a];rcases ij c n with a|a;have d:((m:Int)==(c:Int))=ai:=by simpa using λa=>b aa
 simp[b,a,d];simp[b,a]
def Ly(a:w.heap[n]? =K (ax (cX S) Qc (0,0)))(b:S[j]? =K v):aA w ⟨n,j,Z⟩=K v/\cU w ⟨n,j,Z⟩=ai:=by
 constructor;unfold aA;simp only[a];simpa using b;unfold cU;simp only[a];simp
def Lz(b:w.heap[n]? =K (ax (cX S) Qc (0,0)))(a:Nat)(v:F):(bg w ⟨n,a,Z⟩ v).heap[n]? =K (ax (cX (S.set a v)) Qc (0,0)):=by
 have:=eE w n a _ _ v b;rw[this];simp
def Dy(c:Nat)(aj:List Int)(d:List bJ)(o:Option aN)(n:Nat)(p q:F)(m:Option aN)(s bN bH:Nat)(l:Option aN)(rb bY bE:Nat)(sk:Bool)(b:ag)(bh:c<=1000)(aH:I aj<=aS)(aL:I d<=aS)
 (al:0<I aj->m=K ⟨s,bN,Z⟩) (ar:0<I aj->s<U b.heap) (ao:∀w,w<I aj->aA b ⟨s,bN+w,Z⟩=K (z9 (aX aj w 0))) (i:dy b l rb bY d) (aM:∀a∈aj,0<=a/\a<(c:Int)) (aQ:∀O∈d,0<=O.col/\O.col<(c:Int)):
 bn 76 #[qv (ah o c n) p q (ah m (I aj) bH) (ah l (I d) bE) sk] b λC P=>aD b P/\∃D,C=aR (aI D c c)/\U b.heap<=D/\P.heap[D]? =K (ax (cX (kC (cY c (aj++d.map bJ.col)))) 4 (0,0)):=by
 unfold qv;have⟨a2,aC,aZ,a0,a1⟩:=eU aE.Tw;unfold aS at aH aL;have W:=ap i;have V:X (aD b (b.alloc (ax #[ah o c n,p,q,ah m (I aj) bH,ah l (I d) bE,ak sk] 115))):=(bU _ _).alloc (aV _) _;go_enter aE.func76,Tryz.ntmps76;go_wp2_with (at_make;refine wpList_make_full _ Y _ _ 160 Y (U b.heap+1) 4 a2 (ak ai) 1 aE.underlying160 aC aZ a0 bM bM _ _ c Y Y Y Y (by rw[a1];omega) gy aF ?_;intro y G az;have t:=iB (bU (U b.heap+1) (b.alloc (ax #[ah o c n,p,q,ah m (I aj) bH,ah l (I d) bE,ak sk] 115))) az aF aF;have bi:aA y ⟨U b.heap,3,Z⟩=K (ah m (I aj) bH):=(bq t (p:=⟨U b.heap,3,Z⟩) aF).trans (by unfold aA;rw[me];rfl));have S:X (aD b y):=V.o.trans (t.mono aa);have u:bD y (U b.heap) #[ah o c n,p,q,ah m (I aj) bH,ah l (I d) bE,ak sk] 115:=(cS t (U b.heap) aa).trans (me _ _);have A:X (y.heap[U b.heap+1]? =K (ax (cX (kC (cY c []))) 4 (0,0))):=by
  have C:dD (px (ak ai).cells (c*1))=kC (cY c []):=by
   show dD (px #[ak ai] (c*1))=_;rw[toList_madeCells_one];refine List.ext_getElem (by simp[kC,Cs]) λw bd be=>?_;simp[kC,cY]
  rw[C] at G;have aY:(b.alloc (ax #[ah o c n,p,q,ah m (I aj) bH,ah l (I d) bE,ak sk] 115)).heap.size=U b.heap+1:=aF;rw[aY] at G;exact Ik G
 have T:=ap u
 go_loopw [16] (λr wr=>∃a:Nat,a<=I aj/\r=n9 a/\wr.heap[U b.heap+1]? =K (ax (cX (kC (cY c (aj.take a)))) 4 (0,0))/\bD wr (U b.heap) #[ah o c n,p,q,ah m (I aj) bH,ah l (I d) bE,ak sk] 115/\aD b wr) (λr _=>I aj-bS (bw r))
 exact⟨0,cE _,rfl,A.o,T.o,S.o⟩;obtain⟨a,aG,rfl,k,u,j⟩:=hrel;have R:=ap j;have N:=j.size;by_cases h:a<I aj
 .obtain rfl:=al aa;have am:=ar aa;have J:aJ wr s (bN+a) (z9 (aX aj a 0)):=(bq j (p:=⟨s,bN+a,Z⟩) am).trans (ao a h);have aw:aX aj a 0=aj[a]:=by rw[ep,dH h];rfl
  rw[aw] at J;have⟨x,H⟩:=aM aj[a] (c8 h);have⟨e,v⟩:=uM x;rw[v] at J H;have E:e<c:=aa;have⟨ad,ae⟩:=Ly k (j:=e) (v:=ak ((aj.take a).any λa=>a==(e:Int))) (by simp[kC,cY,E]);have B:X ((wr.setCell ⟨U b.heap+1,e,Z⟩ (ak af)).heap[U b.heap+1]? =K (ax (cX (kC (cY c (aj.take (a+1))))) 4 (0,0))):=by
   show _=_;rw[Lz k,J2,gh h,v]
  have ab:X (bD (wr.setCell ⟨U b.heap+1,e,Z⟩ (ak af)) (U b.heap) #[ah o c n,p,q,ah (K ⟨s,bN,Z⟩) (I aj) bH,ah l (I d) bE,ak sk] 115):=by
   show _=_;rw[ef _ _ _ _ (by simp)];exact u
  have z:X (aD b (wr.setCell ⟨U b.heap+1,e,Z⟩ (ak af))):=j.setCell (by show U b.heap<=U b.heap+1;omega) _;go_wp2
  go_roundw
  exact⟨a+1,by omega,by go_num,B.o,ab.o,z.o⟩;simp[bw];omega
 obtain rfl:a=I aj:=aa;rw[iZ] at k;have bj:aA wr ⟨U b.heap,4,Z⟩=K (ah l (I d) bE):=by unfold aA;rw[u];rfl
 have A:=ap k;go_wp2_with fail
 go_loopw [27] (λr Q=>∃a:Nat,a<=I d/\r=n9 a/\Q.heap[U b.heap+1]? =K (ax (cX (kC (cY c (aj++(d.take a).map bJ.col)))) 4 (0,0))/\aD b Q) (λr _=>I d-bS (bw r))
 exact⟨0,cE _,rfl,by simpa using A.o,R.o⟩;obtain⟨a,aG,rfl,k,j⟩:=hrel;have N:=j.size;by_cases h:a<I d
 .have i:=W.o.below j;obtain rfl:=i.addr (by omega);have a3:=i.c0 a h;have a4:=i.c1 a h;have a5:=i.c2 a h;have a6:=i.c3 a h;have a7:=i.c4 a h;have a8:=i.c5 a h;have a9:=i.c6 a h;have⟨x,H⟩:=aQ d[a] (c8 h);have L:X ((d.take (a+1)).map bJ.col=(d.take a).map bJ.col++[d[a].col]):=by
   show _=_;rw[gh h,gY,sg]
  generalize d[a]=ba at*;have⟨bk,g,f⟩:=ba;dsimp only at a3 a4 a5 a6 a7 a8 a9 x H L;have⟨e,v⟩:=uM x;subst v;have E:e<c:=by omega
  have ay:=bC k;have t:aD wr (wr.alloc (ax #[n9 e,ak g.null,z9 g.n,au g.s,ak f.null,z9 f.n,au f.s] 61)):=(bU _ _).alloc (aV _) _;have M:=(cS t (U b.heap+1) ay).trans k;have⟨ad,ae⟩:=Ly M (j:=e) (v:=ak ((aj++(d.take a).map bJ.col).any λa=>a==(e:Int))) (by simp[kC,cY,E]);have B:X (((wr.alloc (ax #[n9 e,ak g.null,z9 g.n,au g.s,ak f.null,z9 f.n,au f.s] 61)).setCell ⟨U b.heap+1,e,Z⟩ (ak af)).heap[U b.heap+1]? =K (ax (cX (kC (cY c (aj++(d.take (a+1)).map bJ.col)))) 4 (0,0))):=by
   show _=_;rw[Lz M,J2,L.o,iD]
  have z:X (aD b ((wr.alloc (ax #[n9 e,ak g.null,z9 g.n,au g.s,ak f.null,z9 f.n,au f.s] 61)).setCell ⟨U b.heap+1,e,Z⟩ (ak af))):=(j.trans (t.mono N)).setCell (by show U b.heap<=U b.heap+1;omega) _;have J:aA (wr.alloc (ax #[n9 e,ak g.null,z9 g.n,au g.s,ak f.null,z9 f.n,au f.s] 61)) ⟨U wr.heap,0,Z⟩=K (n9 e):=(vq (me wr _)).1;go_upto_region 10 with fail;generalize wr.alloc (ax #[n9 e,ak g.null,z9 g.n,au g.s,ak f.null,z9 f.n,au f.s] 61)=bb at*;generalize U wr.heap=bc at*;go_wp2
  go_roundw
  exact⟨a+1,by omega,by go_num,B.o,z.o⟩;simp[bw];omega
 obtain rfl:a=I d:=aa;rw[iZ] at k;go_wp2;go_ret;exact⟨j,U b.heap+1,rfl,aa,k⟩
structure tT(w:ag)(cb n:Nat)(c:Int)(b:ia):Prop where
 ex:∃j:Nat,c=(j:Int)/\j<n/\cb<U w.heap/\aA w ⟨cb,j*8+1,Z⟩=K (ak b.there)/\aA w ⟨cb,j*8+1+1,Z⟩=K (ak b.least.null)/\aA w ⟨cb,j*8+1+2,Z⟩=K (z9 b.least.n)/\aA w ⟨cb,j*8+1+3,Z⟩=K (au b.least.s)/\aA w ⟨cb,j*8+1+4,Z⟩=K (ak b.most.null)/\aA w ⟨cb,j*8+1+5,Z⟩=K (z9 b.most.n)/\aA w ⟨cb,j*8+1+6,Z⟩=K (au b.most.s)
def tT.below{c:ia}(e:tT w n m M c)(d:aD w u):tT u n m M c:=by
 obtain⟨r,f,h,i,j,k,l,o,p,q,g⟩:=e.ex;have s:=d.size;have a:∀b,aA u ⟨n,b,Z⟩=aA w ⟨n,b,Z⟩:=λb=>bq d (p:=⟨n,b,Z⟩) i;exact⟨r,f,h,by omega,aB (a _) j,aB (a _) k,aB (a _) l,aB (a _) o,aB (a _) p,aB (a _) q,aB (a _) g⟩
def jQ (a:ia)(b:bJ):Bool:=a.there&&(l8 a.most b.low||l6 a.least b.high)
def E2(a:List bJ)(bV:Int->ia)(m:Int)(h j bH:Nat)(J L M N:F)(G:Option aN)(rb bY bE:Nat)(sk:Bool)(d:ag)(bv:I a<=aS)(p:dy d G rb bY a)(bs:∀a0∈a,tT d h j a0.col (bV a0.col)):
 bn 77 #[qv J L M N (ah G (I a) bE) sk,cw #[z9 m,aI h j bH]] d λw q=>∃aG,w=aR (ak aG)/\(aG=ai↔∀b (k:b<I a),jQ (bV a[b].col) a[b]=ai)/\aD d q:=by
 unfold qv;unfold aS at bv;have bc:=ap p;have a9:X (aD d ((d.alloc (ax #[J,L,M,N,ah G (I a) bE,ak sk] 115)).alloc (ax #[z9 m,aI h j bH] 139))):=((bU _ _).alloc (aV _) _).alloc aF _;have ba:X (((d.alloc (ax #[J,L,M,N,ah G (I a) bE,ak sk] 115)).alloc (ax #[z9 m,aI h j bH] 139)).heap[U d.heap+1]? =K (ax #[z9 m,aI h j bH] 139 (0,0))):=by
  have:=me (d.alloc (ax #[J,L,M,N,ah G (I a) bE,ak sk] 115)) (ax #[z9 m,aI h j bH] 139 (0,0));have bx:(d.alloc (ax #[J,L,M,N,ah G (I a) bE,ak sk] 115)).heap.size=U d.heap+1:=aF;rw[bx] at this;exact this
 go_enter aE.func77,Tryz.ntmps77;go_wp2_with fail
 go_loopw [11] (λb wr=>∃e:Nat,e<=I a/\b=z9 e/\(∀b (k:b<I a),b<e->jQ (bV a[b].col) a[b]=ai)/\bD wr (U d.heap+1) #[z9 m,aI h j bH] 139/\aD d wr) (λb _=>I a-bS (bw b))
 exact⟨0,cE _,rfl,λcM _ k=>aa,ba.o,a9.o⟩;obtain⟨e,cs,rfl,aM,aY,Q⟩:=hrel;have ao:=ap Q;have bF:=Q.size;have bo:=bC aY
 skip
 by_cases s:e<I a
 .have p:=bc.o.below Q;obtain rfl:=p.addr (by omega);have bI:=p.c0 e s;have bN:=p.c1 e s;have bP:=p.c2 e s;have bR:=p.c3 e s;have bZ:=p.c4 e s;have b0:=p.c5 e s;have b1:=p.c6 e s;have⟨x,aH,cd,be,bh,bi,bj,bk,bl,bm,bd⟩:=((bs a[e] (c8 s)).below Q).ex;have ay:X (jQ (bV a[e].col) a[e]=af->¬∀b (k:b<I a),jQ (bV a[b].col) a[b]=ai):=λk br=>by
   have:=br e s;rw[k] at this;cases this
  have aC:X (jQ (bV a[e].col) a[e]=ai->∀b (k:b<I a),b<e+1->jQ (bV a[b].col) a[b]=ai):=λk b bu co=>by
   by_cases w:b=e;subst w;exact k;exact aM b bu (by omega)
  generalize a[e]=a8 at*;generalize bV a8.col=v at*;have⟨cP,g,f⟩:=a8;dsimp only at aH bI bN bP bR bZ b0 b1;subst aH;go_upto_region 4 with fail;have⟨cu,b2,b3,b4,b5,b7,ca⟩:=vq (me wr (ax #[n9 x,ak g.null,z9 g.n,au g.s,ak f.null,z9 f.n,au f.s] 61));have l:aD wr (wr.alloc (ax #[n9 x,ak g.null,z9 g.n,au g.s,ak f.null,z9 f.n,au f.s] 61)):=(bU _ _).alloc (aV _) _;have B:∀R v,aJ wr h R v->aA (wr.alloc (ax #[n9 x,ak g.null,z9 g.n,au g.s,ak f.null,z9 f.n,au f.s] 61)) ⟨h,R,Z⟩=K v:=λR v k=>(bq l (p:=⟨h,R,Z⟩) be).trans k;have cg:=B _ _ bh;have ch:=B _ _ bi;have ci:=B _ _ bj;have ck:=B _ _ bk;have cl:=B _ _ bl;have cn:=B _ _ bm;have cf:=B _ _ bd;have Y:=(cS l _ bo).trans aY;have cc:aA (wr.alloc (ax #[n9 x,ak g.null,z9 g.n,au g.s,ak f.null,z9 f.n,au f.s] 61)) ⟨U d.heap+1,1,Z⟩=K (aI h j bH):=by unfold aA;rw[Y];rfl
  have aw:=ap (ao.o.trans (l.mono bF));have E:U wr.heap<(wr.alloc (ax #[n9 x,ak g.null,z9 g.n,au g.s,ak f.null,z9 f.n,au f.s] 61)).heap.size:=aF;generalize wr.alloc (ax #[n9 x,ak g.null,z9 g.n,au g.s,ak f.null,z9 f.n,au f.s] 61)=n at*;generalize U wr.heap=i at*;have cp:(x:Int)<(j:Int):=aa;go_upto_region 5 with fail;have⟨a1,ab,ad,ae,cv,cx,cy⟩:=vq (me n (ax #[ak v.there,ak v.least.null,z9 v.least.n,au v.least.s,ak v.most.null,z9 v.most.n,au v.most.s] 141));have l:aD n (n.alloc (ax #[ak v.there,ak v.least.null,z9 v.least.n,au v.least.s,ak v.most.null,z9 v.most.n,au v.most.s] 141)):=(bU _ _).alloc (aV _) _;have cA:=(bq l (p:=⟨i,1,Z⟩) E).trans b2;have cG:=(bq l (p:=⟨i,2,Z⟩) E).trans b3;have cJ:=(bq l (p:=⟨i,3,Z⟩) E).trans b4;have aj:=(bq l (p:=⟨i,4,Z⟩) E).trans b5;have al:=(bq l (p:=⟨i,5,Z⟩) E).trans b7;have am:=(bq l (p:=⟨i,6,Z⟩) E).trans ca;have z:X (aD d (n.alloc (ax #[ak v.there,ak v.least.null,z9 v.least.n,au v.least.s,ak v.most.null,z9 v.most.n,au v.most.s] 141))):=aw.o.trans (l.mono (cB aw.o.size));have y:X (bD (n.alloc (ax #[ak v.there,ak v.least.null,z9 v.least.n,au v.least.s,ak v.most.null,z9 v.most.n,au v.most.s] 141)) (U d.heap+1) #[z9 m,aI h j bH] 139):=(cS l _ (bC Y)).trans Y;have t:i<(n.alloc (ax #[ak v.there,ak v.least.null,z9 v.least.n,au v.least.s,ak v.most.null,z9 v.most.n,au v.most.s] 141)).heap.size:=bO;have u:U n.heap<(n.alloc (ax #[ak v.there,ak v.least.null,z9 v.least.n,au v.least.s,ak v.most.null,z9 v.most.n,au v.most.s] 141)).heap.size:=aF;generalize n.alloc (ax #[ak v.there,ak v.least.null,z9 v.least.n,au v.least.s,ak v.most.null,z9 v.most.n,au v.most.s] 141)=cb at*;generalize U n.heap=r at*;have C:=λW=>JJ v.most g W;have H:=λW=>JI v.least f W;unfold az.agg at C H;have o:jQ v ⟨(x:Int),g,f⟩=(v.there&&(l8 v.most g||l6 v.least f)):=rfl;cases aZ:v.there
  .rw[aZ] at a1 o;have V:=ap (aC.o o);go_wp2
   go_roundw
   exact⟨e+1,by omega,by go_num,V.o,y.o,z.o⟩;simp[bw];omega
  rw[aZ] at a1 o;cases aQ:l8 v.most g
  .rw[aQ] at C o;cases aL:l6 v.least f
   .rw[aL] at H o;have V:=ap (aC.o o);go_wp2_with (first|(go_at_call 114;refine(C _).mono ?_;rintro w q ⟨rfl,c⟩;have A:X (aD d q):=z.o.trans (c.mono (cB z.o.size));have a2:=(bq c (p:=⟨r,1,Z⟩) u).trans ab;have a3:=(bq c (p:=⟨r,2,Z⟩) u).trans ad;have a4:=(bq c (p:=⟨r,3,Z⟩) u).trans ae;have a5:=(bq c (p:=⟨i,4,Z⟩) t).trans aj;have a6:=(bq c (p:=⟨i,5,Z⟩) t).trans al;have a7:=(bq c (p:=⟨i,6,Z⟩) t).trans am;have D:X (bD q (U d.heap+1) #[z9 m,aI h j bH] 139):=(cS c _ (bC y.o)).trans y.o)|(go_at_call 115;refine(H _).mono ?_;rintro w P ⟨rfl,O⟩;have S:X (aD d P):=A.o.trans (O.mono (cB A.o.size));have ar:X (bD P (U d.heap+1) #[z9 m,aI h j bH] 139):=(cS O _ (bC D.o)).trans D.o))
    go_roundw
    exact⟨e+1,by omega,by go_num,V.o,ar.o,S.o⟩;simp[bw];omega
   rw[aL] at H o;have T:=ap (ay.o o);go_wp2_with (first|(go_at_call 114;refine(C _).mono ?_;rintro w q ⟨rfl,c⟩;have A:X (aD d q):=z.o.trans (c.mono (cB z.o.size));have a2:=(bq c (p:=⟨r,1,Z⟩) u).trans ab;have a3:=(bq c (p:=⟨r,2,Z⟩) u).trans ad;have a4:=(bq c (p:=⟨r,3,Z⟩) u).trans ae;have a5:=(bq c (p:=⟨i,4,Z⟩) t).trans aj;have a6:=(bq c (p:=⟨i,5,Z⟩) t).trans al;have a7:=(bq c (p:=⟨i,6,Z⟩) t).trans am;have D:X (bD q (U d.heap+1) #[z9 m,aI h j bH] 139):=(cS c _ (bC y.o)).trans y.o)|(go_at_call 115;refine(H _).mono ?_;rintro w P ⟨rfl,O⟩;have S:X (aD d P):=A.o.trans (O.mono (cB A.o.size));have ar:X (bD P (U d.heap+1) #[z9 m,aI h j bH] 139):=(cS O _ (bC D.o)).trans D.o));go_ret;exact⟨af,rfl,by simp only[Bool.true_eq_false,false_iff];exact T.o,S.o⟩
  rw[aQ] at C o;have T:=ap (ay.o o);go_wp2_with (go_at_call 114;refine(C _).mono ?_;rintro w q ⟨rfl,c⟩;have A:X (aD d q):=z.o.trans (c.mono (cB z.o.size));have a2:=(bq c (p:=⟨r,1,Z⟩) u).trans ab;have a3:=(bq c (p:=⟨r,2,Z⟩) u).trans ad;have a4:=(bq c (p:=⟨r,3,Z⟩) u).trans ae;have a5:=(bq c (p:=⟨i,4,Z⟩) t).trans aj;have a6:=(bq c (p:=⟨i,5,Z⟩) t).trans al;have a7:=(bq c (p:=⟨i,6,Z⟩) t).trans am;have D:X (bD q (U d.heap+1) #[z9 m,aI h j bH] 139):=(cS c _ (bC y.o)).trans y.o);go_ret;exact⟨af,rfl,by simp only[Bool.true_eq_false,false_iff];exact T.o,A.o⟩
 have bb:X (∀b (k:b<I a),jQ (bV a[b].col) a[b]=ai):=λb k=>aM b k aa;go_wp2;go_ret;exact⟨ai,rfl,by simp only[true_iff];exact bb.o,ao.o⟩
end Ec
namespace Cc
open Go Go.Conc
open Go.RowKit (Below)
open Ec (az bZ bJ dy mG fP qv)
def py (c d:ag)(b:Nat):Prop:=∀a,d.heap[b]? =K a->dm (aM av) a->c.heap[b]? =K a
abbrev dB:=Nat×List az
structure Cons(P0 P:aW)(Post:F->ag->Prop)(l:Nat)(J:List dB->(Nat->Prop)->ag->Prop)(Go:List dB->Bool):Prop where
 p0:∀pre M W W',J pre M W->(∀b,M b->W'.heap[b]? =W.heap[b]?)->U W.heap<=U W'.heap->J pre M W'
 bound:∀pre M W,J pre M W->∀b,M b->b<U W.heap
 round:∀pre M W (nm:Nat) (row:List az) v,J pre M W->Go pre=af->I pre<2000->nm<=1000000->I row<=1000->aT W 0 59 3 v (I row) (bZ row)->(∀g,bB v=K g->¬M g)->DV P0 P Post l #[n9 nm,v] W λu W'=>u=ak (Go (pre++[(nm,row)]))/\∃M',J (pre++[(nm,row)]) M' W'/\(∀b,b<U W.heap->¬M b->K b≠bB v->W'.heap[b]? =W.heap[b]?)/\∀b,M' b->M b\/K b=bB v\/U W.heap<=b
def feed (Go:List dB->Bool):List dB->List dB->List dB×Bool
 |pre,[]=>(pre,af)
 |pre,a::b=>if Go (pre++[a]) then feed Go (pre++[a]) b else(pre++[a],ai)
def je (k4:Nat->Bool)(a:Nat->List az)(first:Nat):Nat->Nat->List dB
 |p,0=>[]
 |p,b+1=>if k4 p then(first+p,a p)::je k4 a first (p+1) b else je k4 a first (p+1) b
structure xw(W:ag)(aj:List Int)(rs:List bJ)(co:Option aN)(cb bN:Nat)(ro:Option aN)(rb bY:Nat)(lb m N:Nat)(val:Int->Nat->az):Prop where
 ca:0<I aj->co=K ⟨cb,bN,Z⟩
 cl:0<I aj->cb<U W.heap
 cc:∀j,j<I aj->aA W ⟨cb,bN+j,Z⟩=K (z9 (aX aj j 0))
 nr:dy W ro rb bY rs
 lc:∀p,p<N->∀k,(k∈aj\/∃r∈rs,r.col=k)->mG W lb m k p (val k p)
structure Kept(w0 w:ag)(M0 M own:Nat->Prop):Prop where
 keep:∀b,b<U w0.heap->¬M0 b->own b/\w.heap[b]? =w0.heap[b]?
 ext:∀b,M b->M0 b\/U w0.heap<=b
 oS:∀b,M b->own b
 size:U w0.heap<=U w.heap
 tape:dV w=dV w0
 os:w.os=w0.os
 output:fS w=fS w0
def Kept.rel{g f own own':Nat->Prop}(b:Kept w u g f own)(d:RelB own u W)(h:∀a,own a->own' a):Kept w W g f own':=
 ⟨λa c e=>⟨h a (b.keep a c e).1,aB (d.at_ a (b.keep a c e).1) (b.keep a c e).2⟩,b.ext,λa c=>h a (b.oS a c),dj b.size d.size,aB d.tape b.tape,aB d.os b.os,aB d.output b.output⟩
def tt (b:cO):Code:=match b.body with
 |some (aU _ (aU (aU _ (ga _ (.loop a))) _))=>a
 |_=>eO
def zG (b:cO):Code:=match b.body with
 |some (aU _ (aU _ a))=>a
 |_=>eO
structure DN(J:List dB->(Nat->Prop)->ag->Prop)(w0 w:ag)(M0 M own:Nat->Prop)(q:Array F)(lists:F)(l first N p qb:Nat)(pre:List dB)(a:bK):Prop where
 kn:Knows a 33 [(13,n9 p),(12,n9 N),(5,(aZ qb)),(4,.func (gH l) #[] #[]),(2,n9 first),(1,lists)]
 df:b8 a=[]
 j:J pre M w
 kept:Kept w0 w M0 M own
 bd:∀b,own b->b<U w.heap
 oq:own qb
 nq:¬M qb
 lq:U w0.heap<=qb
 hq:w.heap[qb]? =K (ax q 115 (0,0))
def abo:(Tryz.f118.name == "runtime.NumGoroutine")=ai:=bl
def abu:(Tryz.f119.name == "runtime.NumGoroutine")=ai:=bl
def zZ:(av.info? 115).map (·.size)=K 6:=bl
def Cd (a:cO):Array cq:=match tt a with
 |aU _ (aU _ (aU (ga _ (aU _ (aU (gu _ b _) _))) _))=>b
 |_=> #[]
def xX (a:cO):List Item:=match tt a with
 |aU _ (aU _ (aU (ga _ (aU _ (aU _ b))) c))=>[b9 b,fI 1,b9 c,gE (tt a),fI 0,b9 (zG a)]
 |_=>[]
def SM:dM (xX j8) (ug (aM av))=af:=bl
def SN:ug (aM av) (bW (Cd j8) [])=af:=bl
def EW(a:b8 Q=[]):fh (aM av) ((base 79).at Q (bW (Cd j8) l::xX j8)) []:=
 oA Y a (by rw[List.all_cons,SM,Bool.and_true];exact SN)
end Cc
namespace Cc
open Go Go.Conc
open Go.RowKit (Below)
open Ec (az bZ bJ dy mG fP qv JU Lv)
section
variable {O:F->ag->Prop}{J:List dB->(Nat->Prop)->ag->Prop}{Go:List dB->Bool}{T w:ag}{f M own:Nat->Prop}{l first N p Q:Nat}{pre:List dB}{a:bK}{cs:List Frame}{aj:List Int}{H:List bJ}{E:Option aN}{cb bN bH:Nat}{S:Option aN}{rb bY bE q m mc:Nat}{val:Int->Nat->az}{A B L:F}{sk:Bool}{c:Frame}
def Kept.same(e:Kept T w f M own)(j:∀b d,own b->w.heap[b]? =K d->dm (aM av) d->u.heap[b]? =K d)(n:U w.heap<=U u.heap):(∀b,b<U T.heap->¬f b->py u T b)/\U T.heap<=U u.heap:=
 ⟨λb g h d k i=>j b d (e.keep b g h).1 ((e.keep b g h).2.trans k) i,dj e.size n⟩
def FF(s:Un u W)(b:aT u n Qc k v i qM):aT W n Qc k v i qM:=by
 obtain⟨d,b|⟨h,e,g,rfl,j,o,r⟩⟩:=b;exact⟨d,aq b⟩;exact⟨d,an ⟨h,e,g,rfl,j,s.row.1 o,r⟩⟩
def tA(d:aT u n Qc k v i qM)(x:j<=n)(t:∀b,bB v=K b->n<=b->b<U u.heap->W.heap[b]? =u.heap[b]?):aT W j Qc k v i qM:=by
 obtain⟨h,d|⟨b,o,r,rfl,e,g,s⟩⟩:=d;exact⟨h,aq d⟩;exact⟨h,an ⟨b,o,r,rfl,dj x e,aB (t b Y e (dY.1 g).1) g,s⟩⟩
def A8(d:aT u n Qc k v i qM)(b:bB v=K j):n<=j/\j<U u.heap:=by
 obtain⟨t,⟨rfl,_⟩|⟨r,h,o,rfl,e,g,s⟩⟩:=d;cases b;cases b;exact⟨e,(dY.1 g).1⟩
def D2{a:bK}(b:bz a Qp=x)(d:bz a Qq=v): #[Qp,Qq].map (bz a)=#[x,v]:=by simp[b,d]
def D1{a:bK}{b d e:Operand}(g:bz a b=x)(h:bz a d=v)(i:bz a e=y): #[b,d,e].map (bz a)=#[x,v,y]:=by simp[g,h,i]
def SO(W:Cons (aM av) av O l J Go)(bd:Go pre=af)(hF:∀i,(∀d,d<U T.heap->¬f d->py i T d)->U T.heap<=U i.heap->xw i aj H E cb bN S rb bY q m N val)(a5:p<N)(bk:I pre<2000)(bR:first+N<=1000000)(aY:I aj<=1000)(bu:I H<=aS)
 (b:Knows a 33 [(11,n9 p),(13,n9 p),(12,n9 N),(5,(aZ Q)),(4,.func (gH l) #[] #[]),(2,n9 first),(1,aI q m mc)]) (ab:b8 a=[]) (az:J pre M w) (ap:Kept T w f M own) (bi:∀d,own d->d<U w.heap) (aC:own Q) (a4:¬M Q) (b0:U T.heap<=Q) (a6:w.heap[Q]? =K (ax #[A,B,L,ah E (I aj) bH,ah S (I H) bE,ak sk] 115 (0,0)))
 (bn:∀s n z,(¬∀k (e:k<I H),fP (val H[k].col p) H[k]=af)->Knows z 33 [(31,ak ai),(13,n9 p),(12,n9 N),(5,(aZ Q)),(4,.func (gH l) #[] #[]),(2,n9 first),(1,aI q m mc)]->b8 z=[]->J pre M n->Kept T n f M s->(∀d,s d->d<U n.heap)->s Q->n.heap[Q]? =K (ax #[A,B,L,ah E (I aj) bH,ah S (I H) bE,ak sk] 115 (0,0))->Xe (aM av) av O s ((base 79).at z (xX j8)) cs n)
 (bI:∀s t n z,(∀k (e:k<I H),fP (val H[k].col p) H[k]=af)->Knows z 33 [(31,ak (!Go (pre++[(first+p,aj.map λh=>val h p)]))),(13,n9 p),(12,n9 N),(5,(aZ Q)),(4,.func (gH l) #[] #[]),(2,n9 first),(1,aI q m mc)]->b8 z=[]->J (pre++[(first+p,aj.map λh=>val h p)]) t n->Kept T n f t s->(∀d,s d->d<U n.heap)->s Q->¬t Q->n.heap[Q]? =K (ax #[A,B,L,ah E (I aj) bH,ah S (I H) bE,ak sk] 115 (0,0))->Xe (aM av) av O s ((base 79).at z (xX j8)) cs n):
 Xe (aM av) av O own ((base 79).at a (b9 (gu 4 (Cd j8) ai)::xX j8)) cs w:=by
 have g:=mM (aM av) av O;have a7:∀i:ag,bD i Q #[A,B,L,ah E (I aj) bH,ah S (I H) bE,ak sk] 115->pq i Q 0 [A,B,L,ah E (I aj) bH,ah S (I H) bE,ak sk]:=λi Z b2 v az=>by
  unfold aA;simp only[Z];rw[e7];simpa using az
 refine dg g [0,1,2,3,4,5,6,7,8,9,10,11,12,13,14,15] Y (og g b Y (qv A B L (ah E (I aj) bH) (ah S (I H) bE) sk) (oU (cs:=[A,B,L,ah E (I aj) bH,ah S (I H) bE,ak sk]) Y (b.of Y) vJ Y zZ (an aC) (a7 w a6)) λb=>?_);refine dK g b λb=>?_;refine dK g b λb=>DG (R:=λi r u=>∃C,r=aR (ak C)/\(C=af↔∀k (e:k<I H),fP (val H[k].col p) H[k]=af)) mh Y Y Y Y (D1 (b.of Y) (b.of Y) (b.of Y)) Tryz.func118 abo Y (bA (ov Y Y Y)) (EW (by simp only[put_defers];exact ab)) (λi Z aF=>?_) λv y i u Z aF bO aH bV hrel=>?_;have D:=hF i (ap.same Z aF).1 (ap.same Z aF).2;refine bL (JU H (λh=>val h p) p q m mc A B L (ah E (I aj) bH) S rb bY bE sk i bu D.nr (λa9 bv=>D.lc p a5 a9.col (an ⟨a9,bv,rfl⟩))) λr u e=>?_;obtain⟨C,rfl,X,G⟩:=e;exact⟨G,_,rfl,C,rfl,X⟩;have⟨C,bh,a1⟩:=aH;cases bh;have R:=ap.rel (own':=grown own (U i.heap) (U y.heap)) hrel (λd e=>aq e);have a2:=W.p0 _ _ _ y az (λd j=>hrel.at_ d (ap.oS d j)) hrel.size;have aE:=aB (hrel.at_ Q aC) a6;have aw:∀d,grown own (U i.heap) (U y.heap) d->d<U y.heap:=λd j=>ff j (λe=>cL (bi d e) hrel.size) (λe=>e.2);have ad:grown own (U i.heap) (U y.heap) Q:=aq aC;replace b:=b.put (d:=19) ay (ak C);generalize grown own (U i.heap) (U y.heap)=a8 at*;refine dK g b λb=>?_;cases C with
 |false=>
  refine pL g b λb=>?_;refine pL g b λb=>?_;refine pL g b λb=>?_;refine pL g b λb=>?_;refine pL g b λb=>?_;refine pL g b λb=>?_;refine pL g b λb=>?_;refine pL g b λb=>?_;refine pL g b λb=>?_;refine pL g b λb=>ei g b Y (ak ai) (Fv Y (b.of Y) Y) λb=>cQ g (bn a8 y _ (λe=>by have:=a1.2 e;cases this) ((((((b.nil.cons (b.slot 1 _ rfl)).cons (b.slot 2 _ rfl)).cons (b.slot 4 _ rfl)).cons (b.slot 5 _ rfl)).cons (b.slot 12 _ rfl)).cons (b.slot 13 _ rfl) |>.cons (b.slot 31 _ rfl)) (by simp only[put_defers];exact ab) a2 R aw ad aE)
 |true=>
  have bl:=a1.1 Y;refine tf g ay Y (b.want (d:=20) (want:=af) (b:=af) Y Y Y ay) (gz Y (b.of Y)) ?_;replace b:=b.put (d:=21) ay (.func (gH l) #[] #[]);refine tf g ay Y (b.want (d:=20) (want:=af) (b:=af) Y Y Y ay) (gz Y (b.of Y)) ?_;replace b:=b.put (d:=22) ay (n9 first);refine tf g ay Y (b.want (d:=20) (want:=af) (b:=af) Y Y Y ay) (gz Y (b.of Y)) ?_;replace b:=b.put (d:=23) ay (n9 p);refine tf g ay Y (b.want (d:=20) (want:=af) (b:=af) Y Y Y ay) (uk Y (b.of Y) (b.of Y) aa) ?_;replace b:=b.put (d:=24) ay (z9 ((first+p:Nat):Int));refine uV g ay Y (b.want (d:=20) (want:=af) (b:=af) Y Y Y ay) (oU (cs:=[A,B,L,ah E (I aj) bH,ah S (I H) bE,ak sk]) Y (b.of Y) vJ Y zZ (an ad) (a7 y aE)) ?_;replace b:=b.put (d:=25) ay (qv A B L (ah E (I aj) bH) (ah S (I H) bE) sk);refine tf g ay Y (b.want (d:=20) (want:=af) (b:=af) Y Y Y ay) (gz Y (b.of Y)) ?_;replace b:=b.put (d:=26) ay (aI q m mc);refine tf g ay Y (b.want (d:=20) (want:=af) (b:=af) Y Y Y ay) (gz Y (b.of Y)) ?_;replace b:=b.put (d:=27) ay (n9 p);refine DG (R:=λi r u=>∃v,r=aR v/\aT u (U i.heap) 59 3 v (I aj) (bZ (aj.map λh=>val h p))) mh Y Y (b.want (d:=20) (want:=af) (b:=af) Y Y Y ay) Y (D1 (b.of Y) (b.of Y) (b.of Y)) Tryz.func119 abu Y (bA (ov Y Y Y)) (EW (by simp only[put_defers];exact ab)) (λam ar aG=>?_) λv bb am bJ ar aG bP aH be ae=>?_
  .have D:=hF am (R.same ar aG).1 (R.same ar aG).2;refine bL (Lv aY D.ca D.cl D.cc (λh bj=>D.lc p a5 h (aq bj))) λr u e=>?_;obtain⟨X,v,rfl,G⟩:=e;exact⟨X,v,rfl,v,rfl,G⟩
  have⟨b5,bF,bo⟩:=aH;cases bF;have x:=R.rel (own':=grown a8 (U am.heap) (U bb.heap)) ae (λd e=>aq e);have bs:=aB (ae.at_ Q ad) aE;have aD:=FF be bo;have b1:=aw Q ad;replace b:=b.put (d:=28) ay v;refine aa7 (l:=l) (vs:= #[z9 ((first+p:Nat):Int),v]) (R:=λaJ ba u=>ba=ak (Go (pre++[(first+p,aj.map λh=>val h p)]))/\∃t,J (pre++[(first+p,aj.map λh=>val h p)]) t u/\(∀d,d<U aJ.heap->¬M d->K d≠bB v->u.heap[d]? =aJ.heap[d]?)/\∀d,t d->M d\/K d=bB v\/U aJ.heap<=d) mh Y (b.want (d:=20) (want:=af) (b:=af) Y Y Y ay) Y (b.of Y) (D2 (b.of Y) (b.of Y)) (EW (by simp only[put_defers];exact ab)) (λaL o=>?_) λaL ba al o bx V br=>?_;refine W.round pre M aL (first+p) (aj.map λh=>val h p) v (W.p0 _ _ _ aL (W.p0 _ _ _ bb a2 (λd j=>ae.at_ d (R.oS d j)) ae.size) (λd j=>o.at_ d (x.oS d j)) o.size) bd bk aa (by rw[ee];exact aY) ?_ λao P F=>?_;rw[ee];exact tA aD (cE _) λao X G bc=>o.at_ ao (an ⟨G,bc⟩);have X:=(A8 aD P).1;have G:=aw ao (R.oS ao F);omega;obtain⟨rfl,t,aQ,a3,a0⟩:=bx;have P:∀d,K d=bB v->U am.heap<=d:=λd j=>(A8 aD (bA j)).1;have b3:=o.size;have b4:=ae.size;refine Xe.go (own:=λd=>d<U al.heap) ?_ (λd e=>e) br;replace b:=b.put (d:=29) ay (ak (Go (pre++[(first+p,aj.map λh=>val h p)])));refine tf g ay Y (b.want (d:=20) (want:=af) (b:=af) Y Y Y ay) (A5 Y (b.of Y)) ?_;replace b:=b.put (d:=30) ay (ak (!Go (pre++[(first+p,aj.map λh=>val h p)])));refine ei g b Y (ak (!Go (pre++[(first+p,aj.map λh=>val h p)]))) (Fw Y (b.of Y) (b.of Y)) λb=>cQ g (bI (λd=>d<U al.heap) t al _ bl ((((((b.nil.cons (b.slot 1 _ Y)).cons (b.slot 2 _ Y)).cons (b.slot 4 _ Y)).cons (b.slot 5 _ Y)).cons (b.slot 12 _ Y)).cons (b.slot 13 _ Y) |>.cons (b.slot 31 _ Y)) (by simp only[put_defers];exact ab) aQ ⟨λd j F=>?_,λd j=>?_,λd j=>W.bound _ _ _ aQ d j,?_,aB V.tape (aB o.tape x.tape),aB V.os (aB o.os x.os),aB V.output (aB o.output x.output)⟩ (λd e=>e) ?_ (λF=>?_) ?_);have bm:¬M d:=λe=>ff (x.ext d e) F (λe=>aa);refine⟨by have:=V.size;show d<U al.heap;omega,?_⟩;rw[a3 d aa bm (λr=>cB (P d r)),o.at_ d (x.keep d j F).1];exact(x.keep d j F).2;rcases a0 d j with e|e|e;exact x.ext d e;exact an (cB (P d e));exact an aa;have:=V.size;omega;have:=V.size;show Q<U al.heap;omega;rcases a0 Q F with e|e|e;exact a4 e;have:=P Q e;omega;omega;rw[a3 Q aa a4 (λr=>cB (P Q r)),o.at_ Q (aq ad)];exact bs
end
end Cc
namespace Rl
def Zk (v:F):Prop:=∀(G:fo) (a:aL G),aG a v v
def NN(c:Zk v):∀a∈v.cells,Zk a:=by
 intro a d G f;have:=(c G f).cells;obtain⟨e,b,rfl⟩:=Array.mem_iff_getElem.1 d;exact this.2 e b b
def DI(b:∀a∈C,Zk a):Zk (.agg C):=λG d=>.agg Y λf c e=>b _ (Array.getElem_mem c) G d
def Zi (a:nL):Prop:=∀v,jL a=K v->Zk v
theorem Kr{m j:Type}{f:m->j->Option (ForInStep j)}{g:j->Prop}(k:∀a b s,g b->f a b=K s->∀d,(s= .yield d\/s= .done d)->g d):∀(l:List m) (b e:j),g b->forIn l b f=K e->g e
 | [],b,e,h,c=>by simp at c;rw[<-c];exact h
 |a::l,b,e,h,c=>by
  rw[List.forIn_cons] at c;cases i:f a b with
  |none=>rw[i] at c;cases c
  |some s=>
   rw[i] at c;cases s with
   |done d=>simp at c;rw[<-c];exact k a b _ h i d (an Y)
   |yield d=>exact Kr k l d e (k a b _ h i d (aq Y)) c
def abI{h:Option (Array F)}{g:nL}(j:Zi g)(k:∀C,h=K C->∀b∈C,Zk b){f:Prop} [Decidable f]
 (a:(if f then Z else h.bind λd=>g.zero.bind λe=>K (d++e.cells))=K C):∀b∈C,Zk b:=by
 split at a
 cases a;have⟨d,i,a⟩:=lE.1 a;have⟨e,l,a⟩:=lE.1 a;cases a;intro b c;rcases Array.mem_append.1 c with c|c;exact k d i b c;exact NN (j e l) b c
def Oy (c:Array Field×Nat×Nat×Nat×Nat×Bool×Bool×Option (Array F)×String):Prop:=∀a,c.2.2.2.2.2.2.2.1=K a->∀b∈a,Zk b
def abG{info:aK->Option nL}(l:∀p d,info p=K d->Zi d){j:Array Field}{h:nL}(b:Made.reckonStruct info j=K h):Zi h:=by
 unfold Made.reckonStruct at b;simp only[bind,lE,pure] at b;have⟨q,g,b⟩:=b;have k:Oy q:=by
  rw[<-Array.forIn_toList] at g;refine Kr ?_ _ _ _ ?_ g;intro f t s n a i hc;have⟨d,m,a⟩:=lE.1 a
  split at a
  cases a
  split at a
  cases a
  split at a<;>(have⟨tag,r,a⟩:=lE.1 a;split at a<;>(cases a;rcases hc with hc|hc<;>cases hc;exact λe c=>abI (l _ _ m) n c))
  intro e c;cases c;intro i hc;simp at hc
 split at b<;>(cases b;intro v o;obtain⟨e,c,rfl⟩:=vS.1 o;exact DI (k e c))
def At{b:TypeDesc}{s:String}(c:Zk x):Zi (Made.word b s x qV n):=by
 intro v a;unfold Made.word at a;cases a;exact c
def abF{info:aK->Option nL}(j:∀o g,info o=K g->Zi g){m:TypeDesc}{l:nL}(a:Made.reckon info m=K l):Zi l:=by
 unfold Made.reckon at a;simp only[bind,pure] at a
 split at a
 have⟨g,k,a⟩:=lE.1 a
 split at a
 cases a
 split at a
 cases a;have⟨s,c,a⟩:=lE.1 a;cases a;exact At λG e=>.hU;have⟨s,c,a⟩:=lE.1 a;cases a;exact At λG e=>.hU;have⟨s,c,a⟩:=lE.1 a;have⟨h,f,a⟩:=lE.1 a;cases a;exact At λG e=>.mQ 0 0;have⟨s,c,a⟩:=lE.1 a;have⟨h,f,a⟩:=lE.1 a;have⟨s,c,a⟩:=lE.1 a;have⟨h,f,a⟩:=lE.1 a;cases a;exact At λG e=>.rL;have⟨s,c,a⟩:=lE.1 a;have⟨h,f,a⟩:=lE.1 a;cases a;exact At λG e=>.rK;have⟨s,c,a⟩:=lE.1 a;cases a;exact At λG e=>.nilFunc;have⟨g,k,a⟩:=lE.1 a;have⟨h,f,a⟩:=lE.1 a;cases a;intro v d;simp only at d
 split at d
 cases d
 split at d
 cases d;exact DI λi b=>by simp at b
 obtain⟨p,n,rfl⟩:=vS.1 d;refine DI λi b=>?_;simp only[Array.mem_flatten,Array.mem_replicate] at b;obtain⟨q,⟨_,rfl⟩,b⟩:=b;exact NN (j _ _ k p n) i b;exact abG j a;cases a
theorem NL{d:Tables}(e:∀(c:Nat) b,d.types[c]? =K b->Zi b):∀(f:Nat) (c:aK) (b:nL),Made.infoAt d f c=K b->Zi b
 |0,c,b,a=>cV a
 |f+1,c,b,a=>by
  unfold Made.infoAt at a
  split at a
  exact e _ _ a;have⟨g,h,a⟩:=lE.1 a;exact abF (NL e f) a
def abE{T:Tables}(c:∀(Qc:Nat) a,T.types[Qc]? =K a->Zi a){a:nL}(b:T.info? Qc=K a):Zi a:=by
 unfold Tables.info? at b
 split at b
 exact c _ _ b;exact NL c _ Qc a b
end Rl
namespace Cc
open Go
def k6:Nat->F->Bool
 |0,_=>ai
 |n+1,v=>match v with
  |ak _|bt _ _|au _|dG Z|ah Z _ _| .map Z|fp Z| .nilFunc| .nilIface=>af
  |cw a|cC a=>dM a.toList (k6 n)
  |_=>ai
theorem FL:∀(n:Nat) (v:F),k6 n v=af->Rl.Zk v
 |0,v,a=>cV a
 |n+1,v,a=>by
  intro G c;unfold k6 at a
  split at a
  exact .bool _;exact .int _ _;exact .string _;exact .hU;exact .mQ _ _;exact .rL;exact .rK;exact .nilFunc;exact .nilIface;rename_i d;exact Rl.DI (λb e=>FL n b (fD.1 a b (cM e))) G c;rename_i d;exact .tuple Y λh f g=>FL n _ (fD.1 a _ aF) G c;cases a
def IS:List Nat:=[65,66,83,93,95,97,98,120,123,128,129,130,139,141,152,153,154,155,156,158,161,162,163,164,165,166,167,169,170,171,172,173,174,175,176,177,178]
def AN:Rl.fo:=⟨1,λf=>iP IS f⟩
def abD:(av.types.toList.all λa=>match (jL a) with|some v=>k6 12 v|none=>af)=af:=bl
def NI:av.globals.size=1:=bl
def abk:(dM IS λf=>match av.funcs[f]? with|some b=>(match b.body with|some a=>Rl.j3 AN av a|none=>ai)|none=>ai)=af:=bl
def abx:Rl.si av av:=⟨λ_=>rfl,λ_=>rfl,rfl,λc d v a b=>by
 refine Rl.abE (T:=av.toTables) (λc d a v b=>?_) a v b;obtain⟨e,rfl⟩:=dY.1 a;have:=fD.1 abD (av.types[c]) aF;rw[b] at this;exact FL _ _ this⟩
def NG:Rl.tK AN av av:=by
 intro f e;have:=fD.1 abk f (by simpa [AN] using e)
 split at this
 rename_i c a
 split at this
 rename_i b d;exact⟨c,b,a,a,d,this⟩;cases this;cases this
def aba:Rl.Alike AN av av:=⟨abx,λ_=>rfl,λ_=>rfl,rfl,λ_ _ _ _ _ _=>rfl,λ_ _ _ _ _=>rfl,λ_ _ _=>rfl,λ_ _=>rfl,λ_=>rfl,λ_ _=>rfl,NI,NI,λf d=>by
 have⟨b,e,a,_,c,_⟩:=NG f d;refine⟨b,a,gJ c,?_⟩;simpa using vZ BF a,λ_=>rfl⟩
end Cc
namespace Cc
open Go Go.Conc
open Ec (az bZ)
def AD (own:Nat->Prop)(e:ag)(v:F)(a:List az):Prop:=
 (v=aH/\a=[])\/∃b d c,v=aI b (I a) d/\own b/\e.heap[b]? =K (ax c 59 (0,0))/\c.toList.take (I a*3)=bZ a
theorem vv:∀(c:List az) (a:Nat) (e:a<I c) (b:Nat) (v:F),[ak c[a].null,bt bM c[a].n,au c[a].s][b]? =K v->(bZ c)[a*3+b]? =K v
 | [],a,e,b,v,d=>by simp at e
 |x::c,0,e,b,v,d=>by
  simp only[n5] at d;simp only[bZ,lD,Nat.zero_mul,e7];exact ru (fq.1 d).1▸d
 |x::c,a+1,e,b,v,d=>by
  simp only[mH] at d;have:=vv c a (cM e) b v d;have f:(a+1)*3+b=a*3+b+3:=aa;rw[f];simpa [bZ] using this
def C9{a:List az}(d:w.heap[n]? =K (ax C 59 (0,0)))(c:C.toList.take (I a*3)=bZ a)(e:m<I a):pq w n (0+m*3) [ak a[m].null,z9 a[m].n,au a[m].s]:=by
 intro g v f;have b:=vv a m e g v f;rw[<-c,ry] at b
 split at b
 unfold aA;simp only[d];rw[e7];simpa using b;cases b
def wq (b:cO):Code:=match b.body with
 |some (aU _ (aU _ (aU _ (aU _ (aU _ (ga _ (.loop a)))))))=>a
 |_=>eO
def BC:(av.info? 59).map (·.size)=K 3:=bl
def BK (d:Nat->Prop)(e:Nat)(f:List Deferred)(b:List az)(v:F)(g:Nat)(own:Nat->Prop)(c:ag)(a:bK):Prop:=
 Knows a 47 [(40,n9 g),(39,n9 (I b)),(38,v),(0,fp (K e))]/\b8 a=f/\jl d own c/\AD own c v b
def Zm{c:List az}{own:Nat->Prop}(d:BK q9 n [{target:=.builtin .close QE Qc q7,args:= #[fp (K n)]}] c v m own w Q)(f:I c<=m):
 gS (aM av) av q9 n own [] (aO ((baseD 116).at Q [b9 (wq iA),gE (wq iA),fI 0]) [below av]) w:=by
 have⟨b,e,g,h⟩:=d;have a:=wh (aM av) av q9 n [];exact cA a (dg a [0] Y (ei a b Y (ak ai) (sE Y (b.of Y) (b.of Y) bO) λb=>cQ a (cA a (iq a ai (b.of Y) (zo a (k':=[]) Y (Iq a (NA Y e Tryz.func116 Y Y)))))))
def Zq{r:List Deferred}{d:List az}{own:Nat->Prop}{c:az}{h:List az}(R:I d<=100000)(f:BK q9 n r d v m own w Q)(k:d.drop m=c::h)
 (J:∀z A q,BK q9 n r d v (m+1) z A q->gS (aM av) av q9 n z (h.map az.agg) (aO ((baseD 116).at q [b9 (wq iA),gE (wq iA),fI 0]) [below av]) A):
 gS (aM av) av q9 n own ((c::h).map az.agg) (aO ((baseD 116).at Q [b9 (wq iA),gE (wq iA),fI 0]) [below av]) w:=by
 have⟨a,E,j,o⟩:=f;have b:=wh (aM av) av q9 n ((c::h).map az.agg);have i:m<I d:=by
  rcases ij m (I d) with f|f;exact f;rw[List.drop_eq_nil_of_le f] at k;cases k
 have N:d[m]=c:=by
  have:=pE i;rw[k] at this;exact(List.cons.inj this).1.symm
 obtain⟨rfl,rfl⟩|⟨e,B,C,rfl,g,t,y⟩:=o;simp at i;have x:=C9 t y i;rw[N] at x;refine cA b (dg b [0] Y (ei b a Y (ak af) (sE Y (a.of Y) (a.of Y) bO) λa=>cQ b (cA b (iq b af (a.of Y) (nR b (cA b (oL b (cA b (dg b [0,1,2,3] Y (ei b a Y (dG (K ⟨e,0+m*3,Z⟩)) (pS Y (a.of Y) (a.of Y) yU Tryz.sizeOf59 i) λa=>og b a Y (cw #[ak c.null,z9 c.n,au c.s]) (oU (cs:=[ak c.null,z9 c.n,au c.s]) Y (a.of Y) Tryz.underlying59 Y BC (an g) x) λa=>oM b j ay Y Y (ax #[ak ai,z9 0,au ⟨#[]⟩] 59) trivial (λO=>(aZ O)) (CA Y Tryz.zeroValue59) λp T L M hrel D=>?_))))))))));replace a:=a.put (d:=11) ay (aZ p);have u:=j.new L M;have G:e≠p:=cB (j e (an g));refine xJ b u ay Y Y (an Y) (ax (dF c) 59) trivial (wB (n:=p) (off:=0) (v:=cw #[ak c.null,z9 c.n,au c.s]) Y (a.of Y) (a.of Y) BC (λn s=>by simp[lC] at s;rcases s with rfl|rfl|rfl<;>rfl) (an (an rfl)) D (aV 3)) λP l=>?_;replace a:=a.none cI;have H:=u.set l;refine cQ b (dg b [0,1,2] Y (dK b a λa=>?_));refine uV b ay Y Y (oU (cs:=[ak c.null,z9 c.n,au c.s]) Y (a.of Y) Tryz.underlying59 Y BC (an (an Y)) (λS v o=>by
  unfold aA;rw[l.set];simpa [lC] using o)) ?_
 replace a:=a.put (d:=45) ay (cw #[ak c.null,z9 c.n,au c.s]);refine aaP (v:=c.agg) ay Y Y Y (a.of Y) (a.of Y) ?_;replace a:=a.none cI;have b:=wh (aM av) av q9 n (h.map az.agg);refine cQ b (uU b ?_);refine dg b [0,1] Y (ei b a Y (z9 ((m+1:Nat):Int)) (uk (j:=1) Y (a.of Y) Y aa) λa=>?_);refine dK b a λa=>cQ b (v9 b (J _ P _ ⟨(((a.nil.cons (a.slot 0 _ Y)).cons (a.slot 38 _ Y)).cons (a.slot 39 _ Y)).cons (a.slot 40 _ Y),by simp only[put_defers];exact E,H,an ⟨e,B,C,rfl,aq g,?_,y⟩⟩));rw[l.at_ e (an (aq g)) G,hrel.at_ e (an g)];exact t
def Zn{d:List az}(j:I d<=100000):∀(e:List az) (b:Nat),d.drop b=e->∀(own:Nat->Prop) (g:ag) (f:bK),BK q9 n [{target:=.builtin .close QE Qc q7,args:= #[fp (K n)]}] d v b own g f->
 gS (aM av) av q9 n own (e.map az.agg) (aO ((baseD 116).at f [b9 (wq iA),gE (wq iA),fI 0]) [below av]) g:=by
 intro e
 induction e with
 |nil=>exact λb c own g f a=>Zm a (List.drop_eq_nil_iff.1 c)
 |cons p e l=>
  intro b c own g f a;refine Zq j a c λm o h i=>l (b+1) ?_ m o h i;have k:b<I d:=by
   rcases ij b (I d) with a|a;exact a;rw[List.drop_eq_nil_of_le a] at c;cases c
  have:=pE k;rw[c] at this;exact(List.cons.inj this).2.symm
end Cc
namespace Cc
open Go Go.Conc
open Ec (az bZ uE p8 j0 uw)
open Rl (fo aL eY aG cP er)
def lH (s:ByteArray)(d c b:Int)(e:List az):Prop:=
 (∃a:Nat,b=(a:Int)/\a<=100/\j0 b d c=0/\uE s d c a e)\/(e=[]/\(j0 b d c≠0\/∃a:Nat,b=(a:Int)/\p8 s d c a))
def RL{s:ByteArray}{c b:List az}(d:uE s M qA n c)(a:uE s M qA n b):b=c:=d.mj b a.len a.ok (uw a.eq)
def lH.UQ{s:ByteArray}{e c:List az}(b:lH s M qA qB e)(j:qB=(n:Int))(f:j0 qB M qA=0)(a:uE s M qA n c):e=c:=by
 rcases b with⟨d,g,_,_,i⟩|⟨rfl,b|⟨d,g,h⟩⟩;have:d=n:=aa;subst this;exact RL a i;exact absurd f b;have:d=n:=aa;subst this;exact absurd a.eq (h c a.len a.ok)
def lH.Kc{s:ByteArray}{vs:List az}(b:lH s M qA qB vs)(f:qB=(n:Int))(c:p8 s M qA n):vs=[]:=by
 rcases b with⟨d,e,_,_,a⟩|⟨rfl,_⟩;have:d=n:=aa;subst this;exact absurd a.eq (c vs a.len a.ok);rfl
def lH.UP{s:ByteArray}{a:List az}(b:lH s M qA qB a)(c:j0 qB M qA≠0):a=[]:=by
 rcases b with⟨g,e,_,d,f⟩|⟨rfl,_⟩;exact absurd d c;rfl
def lH.len{s:ByteArray}{a:List az}(b:lH s M qA qB a):(I a:Int)=qB\/a=[]:=by
 rcases b with⟨f,c,_,e,d⟩|⟨rfl,_⟩;exact aq (by rw[d.len,c]);exact an Y
def lH.le{s:ByteArray}{a:List az}(b:lH s M qA qB a):I a<=100:=by
 rcases b with⟨g,e,c,f,d⟩|⟨rfl,_⟩;rw[d.len];exact c;simp
section
variable {G:fo}{J:aL G}{own:Nat->Prop}{Q w:ag}
def EQ:F->Bool
 |ak _|bt _ _|au _=>af
 |_=>ai
def Jk(a:aG J v x)(b:EQ v=af):x=v:=by
 cases a using aG.ind<;>first|rfl|cases b
def aaC(d:List az):∀b∈bZ d,EQ b=af:=by
 intro b c;have⟨v,_,a⟩:=y5.1 c;simp only[fT,jm,or_false] at a;rcases a with rfl|rfl|rfl<;>rfl
def XY{c:List az}(r:aG J v x)(N:eY J 0 Q w)(L:∀t f,J.f t=K f->own f)(H:aT Q n 59 3 v (I c) (bZ c)):AD own w x c:=by
 obtain⟨O,⟨rfl,D⟩|⟨j,u,g,rfl,_,C,E,_,M,q⟩⟩:=H;cases r using aG.ind;exact aq ⟨rfl,xm.1 D⟩;cases r using aG.ind with
 |sl A=>
  rename_i s;have⟨e,k,l⟩:=A;have⟨d,S,T⟩:=s;simp only at e k l;subst k l;have⟨P,R,i,y,z⟩:=N.at_ j d e;rw[C] at i;cases i;cases z using er.ind with
  |cells m=>
   rename_i h;refine an ⟨d,u,h,rfl,L j d e,y,?_⟩;rw[<-q];apply List.ext_getElem?;intro a;rw[ry,ry]
   split
   rename_i o;have b:a<U g:=by
    rw[M];exact cL o (Nat.mul_le_mul_right 3 E)
   have p:a<U h:=by rw[<-m.1];exact b
   have B:EQ g[a]=af:=by
    refine aaC c _ ?_;rw[<-q];refine List.mem_iff_getElem?.2 ⟨a,?_⟩;rw[ry,if_pos o];simp[b]
   have:=Jk (m.2 a b p) B;simp[b,p,this];rfl
end
def mO (a:cO):Array cq:=match a.body with
 |some (aU _ (aU _ (aU (gu _ b _) _)))=>b
 |_=> #[]
def B1 (b:cO):Code:=match b.body with
 |some (aU _ (aU _ (aU _ a)))=>a
 |_=>eO
def dX{b own:Nat->Prop}{w:ag}(e:∀a,(bT (bz qS) Qr).run Qn a=b6 (eT v) a/\(bT (bz qS) Qr).events Qn a #[]=#[]):∀a,RelB (λc=>b c\/own c) w a->(bT (bz qS) Qr).run Qn a=b6 (eT v) a/\∀d∈(bT (bz qS) Qr).events Qn a #[],EvW b own d:=λa _=>⟨(e a).1,λd f=>by rw[(e a).2] at f;simp at f⟩
def Zp{c:List az}{E:Int}{own:Nat->Prop}{w:ag}(a:Knows qS 47 ((8,v)::(9,z9 E)::(0,fp (K n))::l0))(f:b8 qS=[{target:=.builtin .close QE Qc q7,args:= #[fp (K n)]}])(j:jl q9 own w)(k:I c<=100000)
 (h:(E≠0/\c=[])\/(E=0/\AD own w v c)):gS (aM av) av q9 n own (c.map az.agg) (aO ((baseD 116).at qS [b9 (B1 iA)]) [below av]) w:=by
 have b:=wh (aM av) av q9 n (c.map az.agg);refine cA b ?_;refine cA b ?_;refine dg b [0,1] Y ?_;refine dK b a λa=>?_;rcases h with⟨i,rfl⟩|⟨rfl,g⟩;refine ei b a Y (ak af) (zQ Y (a.of Y) Y (by simpa using i)) λa=>?_;refine cQ b ?_;refine iq b af (a.of Y) ?_;refine tg b ?_;exact NA Y (by simp only[put_defers];exact f) Tryz.func116 Y Y;refine ei b a Y (ak ai) (zQ Y (a.of Y) Y Y) λa=>?_;refine cQ b ?_;refine iq b ai (a.of Y) ?_;refine nR b ?_;refine cA b ?_;refine dg b [0,1,2] Y ?_;refine dK b a λa=>?_;have l:∃e d,v=ah e (I c) d:=by
  rcases g with⟨rfl,rfl⟩|⟨o,d,m,rfl,_⟩;exact⟨Z,0,rfl⟩;exact⟨_,d,rfl⟩
 obtain⟨e,d,rfl⟩:=l;refine ei b a Y (n9 (I c)) (vg Y (a.of Y) yU) λa=>?_;refine ei b a Y (z9 ((0:Nat):Int)) (gz Y Y) λa=>?_;refine cQ b ?_;refine oL b ?_;refine zq b ?_;exact Zn k c 0 Y _ w _ ⟨(((a.nil.cons (a.slot 0 _ Y)).cons (a.slot 38 _ Y)).cons (a.slot 39 _ Y)).cons (a.slot 40 _ Y),by simp only[put_defers];exact f,j,g⟩
end Cc
end Go.Proofs.YtjidbonhhpkljaaGreat
