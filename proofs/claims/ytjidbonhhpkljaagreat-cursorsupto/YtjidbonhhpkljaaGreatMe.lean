/- Parts. -/
import Derived.Test.YtjidbonhhpkljaaGreatMd
set_option linter.all false
open Array renaming getD->cB,getElem?_eq_some_iff->dn,replicate->jw,size->U,toList->dY
open Bool renaming false->aj,false_eq_true->eN,true->af
open ByteArray renaming extract->fw,size->bg,toList->jE
open Eq renaming symm->bq,trans->aB
open False renaming elim->ff
open Go renaming Act->bt,Addr->aL,Code->cQ,Ending->gN,Frame->aO,Func->cF,Item->ez,Oper->cC,Operand->eg,Program->bn,TypeId->aP,Value->F,World->ag,bodyPost->jI,execOp->bX,exitTo->jJ,info_parts->eW,lt_of_block->bE,madeCells->m7,maxLen->aV,results->dB,undef->bR,zeroValue->lG
open Int renaming toNat->bO
open List renaming all->dI,all_eq_true->fA,contains->iT,getD->aW,length->I,mem_range->nP,range->fp,replicate->dH,set->gh,toArray->cR
open List.Pairwise renaming nil->aeH
open Option renaming none->Z,some->K
open Or renaming elim->eD,inl->av,inr->ai
open Prod renaming fst->bf,snd->dD
open Go
open Act renaming defers->bU,eval->bp,put->bw
open Addr renaming add_mid->vN,block->cD
open Builtin renaming copy_->sV
open CallKind renaming normal->dM
open Calls renaming mono->bG
open Code renaming block->fT,region->iB,seq->aS,skip->ey
open Conc renaming G->aX
open Ending renaming returned->aN
open Exit renaming normal->cX,panic->ig
open Fn renaming yield->gP
open Frame renaming enter->eT,finish->dR,kind->dj,round->mZ
open FrameMode renaming returning->jj
open Func renaming results->rR
open Instr renaming endRound->tQ
open IntKind renaming i64->aM
open Item renaming code->bJ,inBlock->fh,inLoop->gx,inRegion->bY
open Next renaming value->fi
open Obj renaming cells->aq
open Program renaming underlying->g9
open Proofs.Tryz renaming f116->iC,f117->rj,f53->jG,f54->mB,f78->ee,f79->j8,isAgg3->xp,prog->ax,sizeOf3->vR,underlying115->vS,underlying139->tS,underlying160->vT,underlying43->y3
open Region renaming binds->jl,ready->fY,schedule->y4,wanted->eI
open Region.Mode renaming any->eu
open Region.linearise renaming go->lX
open Result renaming ok->cm
open RowKit renaming intOf->bB
open RowKit.Below renaming block->cT,cell->bA,grown->jy,setCell->vU,trans->fN
open TypeInfo renaming bytes->jm,zero->jH
open Value renaming agg->bZ,bool->ak,cells->jn,chan->fZ,int->aJ,oneCell'->m3,ownBlock->bI,pointer->cU,slice->ah,string->ay,tuple->cP
open World renaming alloc->cG,cell?->ap,drawn->dU,drewN->cI,frozen?->cE,grownBy->kg,output->ga,ownsRow->aT,ownsRow_nil->iS,rangeAt->pF,setCell->aY,setCells->m5,tape->dG
open World.ownsRow renaming cellAt->s0,frozenAt->vV,kept->fI
variable{Q qT:bt}{qQ:aL}{q8 q9:Array Bool}{QF ats:Array aP}{C qK tmps:Array F}{qW:Bool}{QK assign body:cQ}{Qg:aO}{M qB qC:Int}{H l0 q5:List (Nat×F)}{QB ws:List Bool}{an qZ:List Int}{QO B:List ez}{l:List Nat}{S qN:List F}{c cap gn i j k m n bb db eb fb kb n0 wb:Nat}{Qa M0:Nat→Prop}{Ql:Go.Obj}{Qs:cC}{Qq Qr:eg}{O P co dO:Option aL}{Qo Qp:bn}{Qd ty:aP}{T qs qt v x y z:F}{W u w w0:ag}{J Post:F→ag→Prop}{cs:List aO}{ch:Nat→Nat}{L μ:Nat→Option (List F)}
set_option maxRecDepth 100000
set_option maxHeartbeats 8000000
namespace Go.Proofs.YtjidbonhhpkljaaGreat
namespace Ec
open Go.RowKit Pk Pm
def Pq (c:ag)(s:ByteArray)(d:gN)(f:ag):Prop:=
 aD c f/\((∃(a:List (bx×Int)) (b:List (di×F)) (h i g:F),d=aN (cP #[(aK<|U c.heap+1),ak af])/\zh (bytesOf s) a (b.map bf)/\PF c f h i g (e6<|b.map bf) (a.map bf) (a.map dD) b)\/
  (∃v,d=aN (cP #[v,ak aj])/\∀a e,oo a e->bytesOf s≠lg a e))
structure H7(l:List (bx×Int)):Prop where
 n:∀y∈l,bg y.1.name<=16/\0<=y.1.kind/\y.1.kind<256/\0<=y.2/\y.2<256
def YT{a:List (bx×Int)}(h:n<I a):iN (a.drop n)=lR a[n]++iN (a.drop<|n+1):=by
 rw[ru h];unfold iN;rw[kX]
def ME(a:List di)(h:∀b∈a,1<=b.rows):I a<=e6 a:=by
 induction a with
 |nil=>simp[e6]
 |cons b i e=>
  have g:=h b (by simp);have c:=e (λf d=>h f<|by simp[d]);simp[e6] at c ⊢;omega
def DI{c:Type}{a m:List c}{b:c}(d:m=a.take n)(h:n<I a)(hx:b=a[n]):m++[b]=a.take (n+1):=by
 rw[gm h,d,hx]
def Su{s:ByteArray}{a:List (bx×Int)}{rs:List di}(h:(bytesOf s).drop m=iN (a.drop n)++l)(b:n<I a):
 (bytesOf s).drop m=bh a[n].1.name.size++(bytesOf a[n].1.name++([byteOf a[n].1.kind]++([byteOf a[n].2]++(iN (a.drop<|n+1)++l)))):=by
 rw[h,YT b];unfold lR;simp
def YM(s:ByteArray)(d:ag)(kN:s.size<=65536):
 bc 67 #[ay s] d (Pq d s):=by
 have⟨km,jN,kh,kj,kk⟩:=eW aE.Kj;have⟨ks,dz,kd,ke,kf⟩:=eW aE.pN;have⟨kw,bv,kb,fJ,kc⟩:=eW aE.Vf;have⟨iY,iu,iv,iw,ix⟩:=eW aE.Ve;have b4:s.size<=aV:=fW;go_enter aE.func67,Tryz.ntmps67;go_upto_region 3 with fail;have hS:((d.alloc<|aq #[ay s,aJ aM 0,ak aj] 157).alloc<|aq #[ah Z 0 0,ah Z 0 0,ah Z 0 0,aJ aM 0] 113).heap[U d.heap]? =K (rb s 0 aj):=alloc_old (by simp)<|iI d _;have h1:PF d ((d.alloc<|aq #[ay s,aJ aM 0,ak aj] 157).alloc<|aq #[ah Z 0 0,ah Z 0 0,ah Z 0 0,aJ aM 0] 113) (ah Z 0 0) (ah Z 0 0) (ah Z 0 0) 0 [] [] []:=
  ⟨B2 d,iS _ _ _ _,iS _ _ _ _,iS _ _ _ _,λO H=>by simp at H,aeH,B3⟩
 have fr:U d.heap+1<((d.alloc<|aq #[ay s,aJ aM 0,ak aj] 157).alloc<|aq #[ah Z 0 0,ah Z 0 0,ah Z 0 0,aJ aM 0] 113).heap.size:=aI;generalize (d.alloc<|aq #[ay s,aJ aM 0,ak aj] 157).alloc (aq #[ah Z 0 0,ah Z 0 0,ah Z 0 0,aJ aM 0] 113)=hE at*;have fd:=aA hS;have hu:X (PF d hE (ah Z 0 0) (ah Z 0 0) (ah Z 0 0) 0 [] [] []):=h1;clear hS h1;go_wp2_with fail;refine(yz (U d.heap) 0 8 aj s (by omega) b4 (cH _) fd.o).mono ?_;rintro x ky ⟨hN,b8,iV,hK,rfl,kP,fD,hT,fJ,-⟩;have hv:X (PF d ky (ah Z 0 0) (ah Z 0 0) (ah Z 0 0) 0 [] [] []):=hu.o.kp hN;have hq:=aA hT;have hg:X (∀c b,Hf s c b->hK=aj/\I c=b8/\(bytesOf s).drop iV=iN c++(bh (I b)++gZ (c.map bf) b)):=λc b e=>by
  have j:=e.2;unfold lg kL at j;rw[ij] at j;have aC:I c<=8:=by have:=e.1.pl.1.2.1;simpa using this
  have⟨am,ao,a4⟩:=fJ (I c) aC (wX (Y:=iN c++(bh (I b)++gZ (c.map bf) b))<|by rw[tW];exact j);refine⟨a4,am.symm,?_⟩;have:=wW (q:=0) (B:=bytesOf s) (by rw[tW];exact j);rw[ao];exact this
 clear hN hT fJ fd hu fr;clear hE;go_wp2_with fail
 go_loopw [7] (λba wr=>∃(a:List (bx×Int)) (d0 dc:F) (r:Nat) (w:Bool),ba=aJ aM (I a:Int)/\I a<=b8/\H7 a/\PF d wr d0 dc (ah Z 0 0) 0 (a.map bf) (a.map dD) []/\r<=s.size/\wr.heap[U d.heap]? =K (rb s r w)/\
  (∀c b,Hf s c b->w=aj/\I c=b8/\a=c.take (I a)/\(bytesOf s).drop r=iN (c.drop<|I a)++(bh (I b)++gZ (c.map bf) b))) (λba _=>b8-bO (bB ba))
 case atStart=>exact⟨[],_,_,iV,hK,rfl,cH _,⟨λfK g4=>by simp at g4⟩,hv.o,fD,hq.o,λc b e=>by have⟨j,k,q⟩:=hg.o c b e;exact⟨j,k,aI,by simpa using q⟩⟩
 case round=>
  clear hv hq hg;obtain⟨a,d0,dc,r,w,rfl,jS,h7,d5,fD,cv,hF⟩:=hrel;have fR:=aA h7;have B:X (PF d wr d0 dc (ah Z 0 0) 0 (a.map bf) (a.map dD) []):=d5;have aw:=aA cv;have aF:=aA hF;clear h7 d5 cv hF;by_cases gW:I a<b8
  .have hk:X (∀c b,Hf s c b->∃e:I a<I c,w=aj/\I c=b8/\a=c.take (I a)/\s9 c[I a]/\c[I a].1.name.size<=16/\(bytesOf s).drop r=bh c[I a].1.name.size++(bytesOf c[I a].1.name++([byteOf c[I a].1.kind]++([byteOf c[I a].2]++(iN (c.drop<|I a+1)++(bh (I b)++gZ (c.map bf) b)))))):=λc b e=>by
    have⟨j,k,q,v⟩:=aF.o c b e;have C:I a<I c:=aa;have H:=e.1.pl.each.1 _<|dm C;have j1:c[I a].1.name.size<=16:=by
     have:=La e.1.pl.1 c[I a].1<|jW.2 ⟨_,dm C,rfl⟩;exact this
    exact⟨C,j,k,q,H,j1,Su (rs:=b) v C⟩
   clear aF;go_wp2_with fail;refine(yz (U d.heap) r 16 w s (by omega) b4 fD aw.o).mono ?_;rintro x ar ⟨a5,e5,aK,aH,rfl,jO,cN,a9,b5,-⟩;have dq:X (PF d ar d0 dc (ah Z 0 0) 0 (a.map bf) (a.map dD) []):=B.o.kp a5;have eq:=aA a9;have bQ:X (∀c b,Hf s c b->∃e:I a<I c,aH=aj/\I c=b8/\a=c.take (I a)/\s9 c[I a]/\c[I a].1.name.size=e5/\(bytesOf s).drop aK=bytesOf c[I a].1.name++([byteOf c[I a].1.kind]++([byteOf c[I a].2]++(iN (c.drop<|I a+1)++(bh (I b)++gZ (c.map bf) b))))):=λc b e=>by
    have⟨C,j,k,q,v,y,L⟩:=hk.o c b e;have⟨am,ao,a4⟩:=b5 _ y<|wX L;exact⟨C,by rw[a4,j],k,q,v,am.symm,by rw[ao];exact wW L⟩
   clear a5 a9 b5 B aw hk;go_wp2_with fail;refine(w_ (U d.heap) aK e5 aH s (by omega) b4 cN eq.o).mono ?_;rintro x kz ⟨hO,bd,iX,hL,rfl,j3,j4,hW,iK,-⟩;have hw:X (PF d kz d0 dc (ah Z 0 0) 0 (a.map bf) (a.map dD) []):=dq.o.kp hO;have c6:=aA hW;have hh:X (∀c b,Hf s c b->∃e:I a<I c,hL=aj/\I c=b8/\a=c.take (I a)/\s9 c[I a]/\c[I a].1.name=bd/\(bytesOf s).drop iX=[byteOf c[I a].1.kind]++([byteOf c[I a].2]++(iN (c.drop<|I a+1)++(bh (I b)++gZ (c.map bf) b)))):=λc b e=>by
    have⟨C,j,k,q,v,y,L⟩:=bQ.o c b e;have⟨am,ao,a4⟩:=iK _ y<|wX L;have a8:=wW L;rw[cM,y] at a8;exact⟨C,by rw[a4,j],k,q,v,am.symm,by rw[ao];exact a8⟩
   have im:bd.size<=16:=aa;clear hO hW iK dq eq bQ j3;go_wp2_with fail;refine(Gt (U d.heap) iX hL s _ b4 j4 c6.o).mono ?_;rintro x d9 ⟨eF,bb,ca,cq,rfl,jP,e2,eJ,e3,-⟩;have c8:X (PF d d9 d0 dc (ah Z 0 0) 0 (a.map bf) (a.map dD) []):=hw.o.kp eF;have dl:=aA eJ;have hi:X (∀c b,Hf s c b->∃e:I a<I c,cq=aj/\I c=b8/\a=c.take (I a)/\s9 c[I a]/\c[I a].1=⟨bd,(bb:Int)⟩/\(bytesOf s).drop ca=[byteOf c[I a].2]++(iN (c.drop<|I a+1)++(bh (I b)++gZ (c.map bf) b))):=λc b e=>by
    have⟨C,j,k,q,v,y,L⟩:=hh.o c b e;have⟨am,ao,a4⟩:=e3 _<|wX L;have aC:=B5 v.k0 v.k1;refine⟨C,by rw[a4,j],k,q,v,?_,by rw[ao];exact wW L⟩;rw[<-am] at aC;generalize c[I a].1=dT at*;cases dT;simp only at y aC;rw[y,aC]
   clear eF eJ e3 hw c6 hh;have⟨⟨G,D,ae,al⟩,bL⟩:=c8.o.cells;have je:=bL 0;have R:=c8.o.an;have kM:I a<=8:=aa;rw[er] at R;obtain⟨cs,W,rfl⟩:=e9 R;have ka:=bE c8.o.file;go_upto_region 11 with(at_builtin;refine wpList_append_lies _ Y _ _ 44 Y (U d.heap+1) 63 km _ 2 24 aE.underlying44 jN kh kj kk Y az _ (I a) _ Y (R.alloc _) ⟨U d9.heap,0,Z⟩ 1 1 [ay bd,aJ aM (bb:Int)] Y Y (Of d9) (by intro g6 bv;simp at bv;rcases bv with rfl|rfl<;>rfl) az fW aa bS _ rfl ?_;intro d1 ds M is ic h3 jX;have fv:=dx.mh (n:=I a+1) (cap:=ds) ic h3;have⟨⟨cu,bW,b0,du⟩,b1⟩:=c8.o.CC c8.o.an az fv;have i9:=b1 0);have ip:aT M (U d.heap+1) 63 2 (ah (K ⟨d1,0,Z⟩) (I a+1) ds) (I<|a.map bf++[(⟨bd,(bb:Int)⟩:bx)]) (k4<|a.map bf++[(⟨bd,(bb:Int)⟩:bx)]):=by
    rw[I9,cJ,er];exact is
   have h2:PF d (aY M ⟨U d.heap+1,0,Z⟩<|ah (K ⟨d1,0,Z⟩) (I a+1) ds) (ah (K ⟨d1,0,Z⟩) (I a+1) ds) dc (ah Z 0 0) 0 (a.map bf++[(⟨bd,(bb:Int)⟩:bx)]) (a.map dD) []:=c8.o.UP fv ip;have hX:(aY M ⟨U d.heap+1,0,Z⟩<|ah (K ⟨d1,0,Z⟩) (I a+1) ds).heap[U d.heap]? =K (rb s ca cq):=PF.reader dl.o c8.o.an fv;clear R is ic h3 jX fv ip cu bW b0 du b1 i9 G D ae al bL je ka c8 dl;generalize aY M ⟨U d.heap+1,0,Z⟩ (ah (K ⟨d1,0,Z⟩) (I a+1) ds)=u at*;generalize ah (K ⟨d1,0,Z⟩) (I a+1) ds=eA at*;have P:X (PF d u eA dc (ah Z 0 0) 0 (a.map bf++[(⟨bd,(bb:Int)⟩:bx)]) (a.map dD) []):=h2;have a6:=aA hX;clear h2 hX;have R:=P.o.gA;rw[er] at R;obtain⟨ad,ab,rfl⟩:=e9 R;have hd:X (bc 101 #[cU<|K ⟨U d.heap,0,Z⟩] u.drew λx br=>Kp (U d.heap) u.drew br/\∃(dT r:Nat) (w:Bool),x=aN (aJ aM (dT:Int))/\dT<256/\r<=s.size/\br.heap[U d.heap]? =K (rb s r w)/\(∀bP,aQ (bytesOf s) ca [bP]->dT=bP/\r=ca+1/\w=cq)/\(cq=af->w=af)):=Gt (U d.heap) ca cq s u.drew b4 e2 a6.o;obtain⟨⟨G,D,ae,al⟩,-⟩:=P.o.cells;refine Un.open_ (λh=>bl h (U d.heap+1) 1<|ah ad (I a) ab) 11 (λ_ _ _ _ _ e=>e) λdA=>?_;have N:(λh=>bl h (U d.heap+1) 1<|ah ad (I a) ab) u.drew:=D;refine Un.pk 0 ?_;refine Un.pk 1 ?_;refine Un.pk 2 ?_;refine Un.pk 3 ?_;refine Un.ld [11] 4 ?_;refine Un.pk 5 ?_;try simp only[bw,ct,cj,b9]
   refine Un.on 6 λt l=>?_;go_simp;go_at_call 101;refine hd.o.mono ?_;rintro x bs ⟨eG,ck,d8,J,rfl,jD,g2,eK,e4,-⟩;have hP:Kp (U d.heap) u bs:=(Kp.iW<|(bN (U u.heap) u).drew).trans eG;have a3:X (PF d bs eA (ah ad (I a) ab) (ah Z 0 0) 0 (a.map bf++[(⟨bd,(bb:Int)⟩:bx)]) (a.map dD) []):=P.o.kp hP;have dp:=aA eK;have fU:X (∀c b,Hf s c b->J=aj/\I c=b8/\a++[((⟨bd,(bb:Int)⟩:bx),(ck:Int))]=c.take (I a+1)/\(bytesOf s).drop d8=iN (c.drop<|I a+1)++(bh (I b)++gZ (c.map bf) b)):=λc b e=>by
    have⟨C,j,k,q,v,y,L⟩:=hi.o c b e;have⟨am,ao,a4⟩:=e4 _<|wX L;have aC:=B5 v.e0 v.e1;refine⟨by rw[a4,j],k,DI q C ?_,by rw[ao];exact wW L⟩;rw[<-am] at aC;generalize c[I a]=fK at*;have⟨fL,i0⟩:=fK;simp only at y aC;rw[y,aC]
   obtain⟨⟨kB,fL,i0,kC⟩,-⟩:=a3.o.cells;refine l.o _ _ (λ_=>fL) ?_;clear l t N eG hP eK e4 hi G D ae al P a6 hd R;try simp only[bw,ct,cj,b9]
   have N:(λh=>bl h (U d.heap+1) 1<|ah ad (I a) ab) bs:=fL;refine Un.on 7 λt l=>?_;go_simp;have hx:X (PF d (bs.alloc<|aq #[aJ aM (ck:Int)] 3) eA (ah ad (I a) ab) (ah Z 0 0) 0 (a.map bf++[(⟨bd,(bb:Int)⟩:bx)]) (a.map dD) []):=a3.o.below<|(bN _ _).alloc (aZ _) _;refine l.o _ _ (λ_=>hx.o.cells.1.2.1) ?_;clear l t N;try simp only[bw,ct,cj,b9]
   refine Un.one (i:=8) aR Y λt l=>?_;have R:=a3.o.gA;rw[er] at R;have k2:=bE a3.o.file;refine step_append_lies _ (by rfl) _ _ 22 (by rfl) (U d.heap+1) 3 ks _ 1 8 aE.underlying22 dz kd ke kf Y az _ (I a) _ (by rfl) (R.alloc _) ⟨U bs.heap,0,Z⟩ 1 1 [aJ aM (ck:Int)] (by rfl) Y (pU bs) (by intro g6 bv;simp at bv;subst bv;rfl) az fW aa bS _ rfl ?_;intro d2 dt cW g1 ih h5 j0;have fy:=dx.mh (n:=I a+1) (cap:=dt) ih h5;have ir:aT cW (U d.heap+1) 3 1 (ah (K ⟨d2,0,Z⟩) (I a+1) dt) (I<|a.map dD++[(ck:Int)]) (cO<|a.map dD++[(ck:Int)]):=by
    unfold cO at g1 ⊢;rw[gD,cJ,er];exact g1
   have ec:X (PF d (aY cW ⟨U d.heap+1,1,Z⟩<|ah (K ⟨d2,0,Z⟩) (I a+1) dt) eA (ah (K ⟨d2,0,Z⟩) (I a+1) dt) (ah Z 0 0) 0 (a.map bf++[(⟨bd,(bb:Int)⟩:bx)]) (a.map dD++[(ck:Int)]) []):=a3.o.UQ fy ir;have c7:X ((aY cW ⟨U d.heap+1,1,Z⟩<|ah (K ⟨d2,0,Z⟩) (I a+1) dt).heap[U d.heap]? =K (rb s d8 J)):=PF.reader dp.o a3.o.gA fy;have⟨⟨cu,bW,b0,du⟩,b1⟩:=a3.o.CC a3.o.gA az fy;have jb:=b1 1;refine l.o _ _ (λ_=>bW) ?_;clear l t R g1 ih h5 j0 ir fy b1;try simp only[bw,ct,cj,b9]
   have N:(λh=>bl h (U d.heap+1) 1<|ah ad (I a) ab) cW:=bW;refine Un.pk 9 ?_;refine Un.pk 10 ?_;try simp only[bw,ct,cj,b9]
   refine Un.on 11 λt l=>?_;go_simp;refine l.o _ _ (λe=>absurd e az) ?_;clear l t N cu bW b0 du jb kB fL i0 kC;refine Un.done aR ?_ _;try simp only[bw,ct,cj,b9]
   clear a3 hx dp;generalize aY cW ⟨U d.heap+1,1,Z⟩ (ah (K ⟨d2,0,Z⟩) (I a+1) dt)=hI at*;generalize ah (K ⟨d2,0,Z⟩) (I a+1) dt=jd at*;have i2:X (H7<|a++[((⟨bd,(bb:Int)⟩:bx),(ck:Int))]):=⟨λfK g4=>by
    rcases eP.1 g4 with e|e;exact fR.o.n fK e;simp at e;subst e;exact⟨im,by show(0:Int)<=(bb:Int);omega,by show(bb:Int)<256;omega,by show(0:Int)<=(ck:Int);omega,by show(ck:Int)<256;omega⟩⟩
   clear jP jD im jO fR;go_wp2_with fail
   go_roundw
   case rel=>exact⟨a++[((⟨bd,(bb:Int)⟩:bx),(ck:Int))],eA,jd,d8,J,by rw[cJ];go_num,by rw[cJ,rY];omega,i2.o,by rw[gD,gD];exact ec.o,g2,c7.o,by rw[cJ];exact fU.o⟩
   case measure=>simp[bB];omega
  .have j2:b8=I a:=by omega
   have hj:X (∀c b,Hf s c b->w=aj/\c=a/\(bytesOf s).drop r=bh (I b)++gZ (a.map bf) b):=λc b e=>by
    have⟨j,k,q,v⟩:=aF.o c b e;have y:c=a:=by rw[q,iF<|by omega]
    rw[y] at v;refine⟨j,y,?_⟩;rw[v,List.drop_length];simp[iN]
   clear aF jS gW;subst j2;obtain⟨⟨G,D,ae,al⟩,-⟩:=B.o.cells;have⟨cs,W,h8⟩:=e9 B.o.an;have⟨ad,ab,h9⟩:=e9 B.o.gA;rw[er] at h8 h9;subst h8;subst h9;have gV:I (a.map bf)<=aV:=by rw[er];unfold aV;omega
   have ii:I (a.map dD)<=aV:=by rw[er];unfold aV;omega
   have fQ:=aA<|px.gB B.o.an;have he:=aA<|iE.gB B.o.gA;have ha:X (bc 102 #[ah cs (I a) W] wr λx br=>∃db,x=aN (ak db)/\(db=af↔nJ (a.map bf))/\aD wr br):=SF (a.map bf) wr gV fQ.o;have hb:X (∀h,aD wr h->bc 103 #[ah cs (I a) W,ah ad (I a) ab] h λx br=>∃db,x=aN (ak db)/\(db=af↔rP (a.map bf) (a.map dD))/\aD h br):=λh fr=>TY (a.map bf) (a.map dD) h gV ii (fQ.o.below fr)<|he.o.lower fr;clear gV ii fQ he;go_wp2_with fail;refine ha.o.mono ?_;rintro x cn ⟨i7,rfl,eE,eU⟩;have cf:=aA eE;have gf:X (PF d cn (ah cs (I a) W) (ah ad (I a) ab) (ah Z 0 0) 0 (a.map bf) (a.map dD) []):=B.o.below eU;have f6:X (cn.heap[U d.heap]? =K (rb s r w)):=(eU.block _<|bE aw.o).trans aw.o;have hc:X (bc 103 #[ah cs (I a) W,ah ad (I a) ab] cn.drew λx br=>∃db,x=aN (ak db)/\(db=af↔rP (a.map bf) (a.map dD))/\aD cn.drew br):=hb.o _<|eU.trans<|(bN (U cn.heap) cn).drew.mono eU.size;clear eE eU ha hb G D ae al B aw;obtain⟨⟨G,D,ae,al⟩,-⟩:=gf.o.cells;go_upto_region 13 with fail;refine Un.open_ (λh=>bl h (U d.heap+1) 0 (ah cs (I a) W)/\bl h (U d.heap+1) 1 (ah ad (I a) ab)) 9 (λ_ _ _ _ _ e=>e) λdA=>?_;have N:(λh=>bl h (U d.heap+1) 0 (ah cs (I a) W)/\bl h (U d.heap+1) 1 (ah ad (I a) ab)) cn.drew:=⟨G,D⟩;refine Un.pk 0 ?_;refine Un.pk 1 ?_;refine Un.pk 2 ?_;refine Un.ld [9] 3 ?_;refine Un.pk 4 ?_;refine Un.pk 5 ?_;refine Un.pk 6 ?_;refine Un.ld [9] 7 ?_;try simp only[bw,ct,cj,b9]
   refine Un.on 8 λt l=>?_;go_simp;go_at_call 103;refine hc.o.mono ?_;rintro x g8 ⟨i8,rfl,gt,h6⟩;have gL:aD cn g8:=(bN (U cn.heap) cn).drew.trans h6;have fP:=aA gt;have dQ:X (PF d g8 (ah cs (I a) W) (ah ad (I a) ab) (ah Z 0 0) 0 (a.map bf) (a.map dD) []):=gf.o.below gL;have fg:X (g8.heap[U d.heap]? =K (rb s r w)):=(gL.block _<|bE f6.o).trans f6.o;have gK:=dQ.o.cells.1;refine l.o _ _ (λ_=>⟨gK.1,gK.2.1⟩) ?_;clear l t N h6 gL gt gf f6 hc G D ae al gK;try simp only[bw,ct,cj,b9]
   refine Un.on 9 λt l=>?_;go_simp;refine l.o _ _ (λe=>absurd e az) ?_;clear l t;try simp only[bw,ct,cj,b9]
   refine Un.done aR ?_ _;try simp only[bw,ct,cj,b9]
   go_wp2_with fail;refine(yz (U d.heap) r 2000 w s (by omega) b4 fD fg.o).mono ?_;rintro x ar ⟨a5,m,aK,aH,rfl,kO,cN,a9,b5,fH⟩;have dq:X (PF d ar (ah cs (I a) W) (ah ad (I a) ab) (ah Z 0 0) 0 (a.map bf) (a.map dD) []):=dQ.o.kp a5;have eq:=aA a9;have bQ:X (∀c b,Hf s c b->aH=aj/\c=a/\I b=m/\(bytesOf s).drop aK=gZ (a.map bf) b):=λc b e=>by
    have⟨j,k,q⟩:=hj.o c b e;have v:I b<=2000:=by
     have y:=e.1.rows;have L:I b<=e6 b:=ME b λw a2=>(e.1.e7 w a2).lo;omega
    have⟨am,ao,a4⟩:=b5 _ v<|wX q;exact⟨by rw[a4,j],k,am.symm,by rw[ao];exact wW q⟩
   have hV:=a9;have⟨cZ,c0,cd,c1,c2,c3⟩:=nY hV;have co:=aA dq.o.jZ;clear a5 a9 b5 fH dQ fg hj hV;cases i7
   .have bH:X (∀c b,oo c b->bytesOf s≠lg c b):=λc b j k=>by
     have q:=(bQ.o c b ⟨j,k⟩).2.1;rw[q] at j;exact absurd (cf.o.2 j.pl.1) aI
    go_wp2;go_ret2;exact⟨co.o,ai ⟨_,rfl,bH.o⟩⟩
   cases i8
   .have bH:X (∀c b,oo c b->bytesOf s≠lg c b):=λc b j k=>by
     have q:=(bQ.o c b ⟨j,k⟩).2.1;rw[q] at j;exact absurd (fP.o.2 j.pl.2) aI
    go_wp2;go_ret2;exact⟨co.o,ai ⟨_,rfl,bH.o⟩⟩
   cases aH;rotate_left
   .have bH:X (∀c b,oo c b->bytesOf s≠lg c b):=λc b j k=>absurd (bQ.o c b ⟨j,k⟩).1 aI;go_wp2;go_ret2;exact⟨co.o,ai ⟨_,rfl,bH.o⟩⟩
   have em:X (k3 a):=⟨cf.o.1 Y,fP.o.1 Y⟩;clear cf fP co;go_upto_region 17 with fail;clear cZ c0 cd c1 c2 c3;have kK:1<=I a:=by have:=em.o.1.1;simpa using this
   have jR:I a<=8:=by have:=em.o.1.2.1;simpa using this
   obtain⟨cb,jB,-,-,-⟩:=EM dq.o.an (by rw[er];omega);subst jB;have f2:=aA<|Kn em.o;clear fR;go_wp2_with fail
   go_loopw [14] (λba wr=>∃(g:List (di×F)) (V:F) (r:Nat) (w:Bool),ba=aJ aM (I g:Int)/\I g<=m/\PF d wr (ah (K ⟨cb,0,Z⟩) (I a) W) (ah ad (I a) ab) V (e6<|g.map bf) (a.map bf) (a.map dD) g/\e6 (g.map bf)<=I g*100/\r<=s.size/\wr.heap[U d.heap]? =K (rb s r w)/\(w=aj->∀O∈g,uY (a.map bf) O.1)/\
    (∀c b,Hf s c b->w=aj/\c=a/\I b=m/\g.map bf=b.take (I g)/\(bytesOf s).drop r=gZ (a.map bf) (b.drop<|I g))) (λba _=>m-bO (bB ba))
   case atStart=>exact⟨[],_,aK,aj,rfl,cH _,dq.o,by simp[e6],cN,eq.o,λ_ O H=>by simp at H,λc b e=>by have⟨j,k,q,v⟩:=bQ.o c b e;exact⟨rfl,k,q,aI,by simpa using v⟩⟩
   case round=>
    clear dq eq bQ cN
    rename ag=>E
    obtain⟨g,V,r,w,rfl,jv,d5,fG,dz,cv,hM,hF⟩:=hrel;have B:=aA d5;have aw:=aA cv;have f0:=aA hM;have aF:=aA hF;have f7:=aA fG;have g3:e6 (g.map bf)<=200000:=aa;have gt:=bE d5.file;have⟨cZ,c0,cd,c1,c2,c3⟩:=nY cv;clear d5 cv hM hF fG;cases w;rotate_left
    .have bH:X (∀c b,oo c b->bytesOf s≠lg c b):=λc b j k=>absurd (aF.o c b ⟨j,k⟩).1 aI;have co:=aA B.o.jZ;by_cases gW:I g<m
     .go_wp2;go_ret2;exact⟨co.o,ai ⟨_,rfl,bH.o⟩⟩
     go_wp2;go_ret2;exact⟨co.o,ai ⟨_,rfl,bH.o⟩⟩
    have dJ:=aA<|f0.o Y;by_cases gW:I g<m
    ·
     have dE:X (∀c b,Hf s c b->c=a/\I b=m/\g.map bf=b.take (I g)/\∃e:I g<I b,uY (a.map bf) b[I g]/\(bytesOf s).drop r=bh b[I g].rows++(mN (a.map bf) 0 b[I g].parts++gZ (a.map bf) (b.drop<|I g+1))):=λc b e=>by
      have⟨j,k,q,v,y⟩:=aF.o c b e;have C:I g<I b:=aa;have ib:=e.1.e7 _<|dm C;rw[k] at ib;refine⟨k,q,v,C,ib,?_⟩;rw[y,ru C];unfold gZ;rw[kX,L7,ij]
     clear aF cZ c0 cd c1 c2 c3;have cd:=(nY aw.o).2.2.1;go_upto_region 20 with fail;clear cd;go_wp2_with fail;refine(yz (U d.heap) r 100 aj s (by omega) b4 dz aw.o).mono ?_;rintro x ar ⟨a5,i,aK,aH,rfl,fB,cN,a9,b5,-⟩;have d3:PB d E (ar.alloc<|aq #[aJ aM (i:Int),ah Z 0 0] 122) (U ar.heap) i (ah Z 0 0) []:=⟨iI ar _,iS _ _ _ _,a5.size,a5.alloc _⟩;have d4:(ar.alloc<|aq #[aJ aM (i:Int),ah Z 0 0] 122).heap[U d.heap]? =K (rb s aK aH):=by rw[fM _ _ _<|bE a9];exact a9
     have bQ:X (∀c b,Hf s c b->aH=aj/\c=a/\I b=m/\g.map bf=b.take (I g)/\∃e:I g<I b,uY (a.map bf) b[I g]/\b[I g].rows=i/\(bytesOf s).drop aK=mN (a.map bf) 0 b[I g].parts++gZ (a.map bf) (b.drop<|I g+1)):=λc b e=>by
      have⟨k,q,v,C,y,L⟩:=dE.o c b e;have⟨am,ao,a4⟩:=b5 _ y.hi<|wX L;exact⟨a4,k,q,v,C,y,am.symm,by rw[ao];exact wW L⟩
     go_upto_region 21 with fail;generalize ar.alloc (aq #[aJ aM (i:Int),ah Z 0 0] 122)=hG at*;generalize U ar.heap=n at*;have el:X (PB d E hG n i (ah Z 0 0) []):=d3;have c6:=aA d4;clear a5 a9 b5 d3 d4 dE f0 aw;clear ar;go_wp2_with fail
     go_loopw [16] (λba iZ=>∃(f:List fu) (iU:F) (r:Nat) (w:Bool),ba=aJ aM (I f:Int)/\I f<=I a/\PB d E iZ n i iU f/\r<=s.size/\iZ.heap[U d.heap]? =K (rb s r w)/\(w=aj->n6 (AO<|a.map bf) f)/\
      (∀c b,Hf s c b->w=aj/\c=a/\I b=m/\g.map bf=b.take (I g)/\∃e:I g<I b,uY (a.map bf) b[I g]/\b[I g].rows=i/\f=b[I g].parts.take (I f)/\(bytesOf s).drop r=mN (a.map bf) (I f) (b[I g].parts.drop<|I f)++gZ (a.map bf) (b.drop<|I g+1))) (λba _=>I a-bO (bB ba))
     case atStart=>exact⟨[],_,aK,aH,rfl,cH _,el.o,cN,c6.o,λ_ ba C=>by simp at C,λc b e=>by have⟨j,k,q,v,C,y,L,a8⟩:=bQ.o c b e;exact⟨j,k,q,v,C,y,L,aI,by simpa using a8⟩⟩
     case round=>
      clear el c6 bQ cN;obtain⟨f,iU,r,w,rfl,k1,d3,dz,cv,eE,hF⟩:=hrel;have ch:=aA d3;have aw:=aA cv;have cf:=aA eE;have aF:=aA hF;obtain⟨p,o,rfl⟩:=e9 d3.own;clear d3 cv eE hF;by_cases ik:I f<I a
      .have gT:I f<I (a.map bf):=by rw[er];exact ik
       have dL:=aA<|f2.o _ gT;have hl:X ((aW (a.map bf) (I f) ⟨⟨#[]⟩,0⟩).kind=(a.map bf)[I f].kind):=by show _=_;rw[ep,dV gT];rfl
       have c5:X (∀h,Kp (U d.heap) E h->bl h (U d.heap+1) 0 (ah (K ⟨cb,0,Z⟩) (I a) W)/\bl h cb (I f*2+1) (aJ aM (a.map bf)[I f].kind)):=λh e5=>⟨(B.o.kp e5).cells.1.1,(B.o.kp e5).kind _ gT⟩;have hm:X (∀a0,bI (ah p (I f) o)=K a0->a0<U wr.heap):=λa0 e=>(ch.o.own.lt a0 e).2;have kJ:=bE ch.o.box;have ju:U E.heap<=U wr.heap:=ch.o.kp.size;generalize jQ:(a.map bf)[I f].kind=S at*;clear jQ;go_wp2_with fail;refine(yz (U d.heap) r 65536 w s (by omega) b4 dz aw.o).mono ?_;rintro x ar ⟨a5,T,aK,aH,rfl,iJ,cN,a9,b5,fH⟩;have gG:PP d E (ar.alloc<|aq (cR<|eO ⟨T,hU,⟨#[]⟩⟩) 128) n i (ah p (I f) o) f (U ar.heap) T hU:=⟨(ch.o.step aa a5).below aa<|(bN _ _).alloc (aZ _) _,iI ar _,λe=>by have:=hm.o _ e;have:=a5.size;omega,by have:=a5.size;omega,dW ju a5.size⟩;have d4:(ar.alloc<|aq (cR<|eO ⟨T,hU,⟨#[]⟩⟩) 128).heap[U d.heap]? =K (rb s aK aH):=by rw[fM _ _ _<|bE a9];exact a9
       have hB:=aA b5;have hy:=aA fH;rw[show cR (eO ⟨T,hU,⟨#[]⟩⟩)=#[aJ aM (T:Int),ak aj,ak aj,aJ aM 0,ay ⟨#[]⟩,ak aj,aJ aM 0,ay ⟨#[]⟩,ay ⟨#[]⟩] from rfl] at gG d4;clear a9 b5 fH;go_upto_region 25 with fail;generalize ar.alloc (aq #[aJ aM (T:Int),ak aj,ak aj,aJ aM 0,ay ⟨#[]⟩,ak aj,aJ aM 0,ay ⟨#[]⟩,ay ⟨#[]⟩] 128)=hG at*;generalize U ar.heap=e at*;have el:=aA gG;have c6:=aA d4;clear gG d4 a5 ch aw;clear ar;go_wp2_with fail;refine(Gt (U d.heap) aK aH s _ b4 cN c6.o).mono ?_;rintro x d9 ⟨eF,dd,ca,cq,rfl,jL,e2,eJ,e3,iy⟩;have f3:X (PP d E d9 n i (ah p (I f) o) f e T hU):=el.o.step aa eF;have dl:=aA eJ;have fk:=aA e3;have gg:=aA iy;clear eF eJ e3 iy el c6
       go_upto_if 119 with fail
       go_cut [] from 118 to 122 (λe8=>∃cr,PP d E e8 n i (ah p (I f) o) f e T hU/\e8.heap[U d.heap]? =K (rb s ca cr)/\((dd<=1/\cr=cq)\/(1<dd/\cr=af)))
       case first=>
        have⟨cZ,c0,cd,c1,c2,c3⟩:=nY dl.o;by_cases j:1<dd
        .have df:decide ((1:Int)<(dd:Int))=af:=by simp;omega
         have i4:X (PP d E (aY d9 ⟨U d.heap,2,Z⟩<|ak af) n i (ah p (I f) o) f e T hU):=f3.o.step aa<|Kp.tE<|Kp.refl _ _;have i5:=aA<|wR dl.o;go_wp2
         go_meet
         exact⟨af,i4.o,i5.o,ai ⟨j,rfl⟩⟩
        have df:decide ((1:Int)<(dd:Int))=aj:=bS;go_wp2
        go_meet
        exact⟨cq,f3.o,dl.o,av ⟨aa,rfl⟩⟩
       case rest=>
        have⟨cr,Q,bu,ia⟩:=hcut
        rename ag=>M
        have aU:=aA Q;have ci:=aA bu;have dE:=aA ia;clear Q bu ia f3 dl
        go_upto_if 124 with fail
        go_cut [19,20,21] from 123 to 186 (λk5 k6 k7 e8=>∃bP dC dr,PP d E e8 n i (ah p (I f) o) f e T bP/\e8.heap[U d.heap]? =K (rb s dC dr)/\RB s S aK aH bP dC dr)
        case first=>
         by_cases j:dd=1
         .have jz:cr=cq:=by rcases dE.o with⟨-,e⟩|⟨e,-⟩;exact e;omega
          subst jz;subst j;have⟨⟨bz,bC,be,bi,bj,bk,bm,bo,bD⟩,bM⟩:=aU.o.cells;have jf:=bM 1;go_upto_region 30 with fail;have gu:PP d E (aY M ⟨e,1,Z⟩<|ak af) n i (ah p (I f) o) f e T ⟨af,hU.least,hU.most⟩:=PP.Y2 (x:=hU) aU.o;have cl:(aY M ⟨e,1,Z⟩<|ak af).heap[U d.heap]? =K (rb s ca cr):=aU.o.Zv aa ci.o;clear bz bC be bi bj bk bm bo bD bM jf;generalize aY M ⟨e,1,Z⟩ (ak af)=u at*;have dk:=aA gu;have a6:=aA cl;have⟨G,D⟩:=c5.o u gu.pb.kp;clear gu cl aU ci;go_wp2_with fail;refine(GX S dL.o (U d.heap) ca cr s b4 e2 a6.o).mono ?_;rintro x bs ⟨eG,z,rfl,iM,d8,J,g2,eK,e4,iA⟩;have gj:=aA iM;have hC:=aA e4;have hz:=aA iA;have gz:=dk.o.step aa eG;have dO:=aA gz;have dp:=aA eK;have⟨⟨bz,bC,be,bi,bj,bk,bm,bo,bD⟩,bM⟩:=gz.cells;have jg:=bM 2;have ji:=bM 3;have jp:=bM 4;clear G D iM e4 iA gz eK eG dk a6;go_upto_region 31 with fail;have gC:=dO.o.Y5 z;have hY:(aY (aY (aY bs ⟨e,2,Z⟩<|ak z.null) ⟨e,3,Z⟩<|aJ aM z.n) ⟨e,4,Z⟩<|ay z.s).heap[U d.heap]? =K (rb s d8 J):=dO.o.L8 aa dp.o;clear bz bC be bi bj bk bm bo bD bM jg ji jp;generalize aY (aY (aY bs ⟨e,2,Z⟩<|ak z.null) ⟨e,3,Z⟩<|aJ aM z.n) ⟨e,4,Z⟩ (ay z.s)=hH at*;have ho:=aA gC;have hr:=aA hY;have⟨G,D⟩:=c5.o hH gC.pb.kp;clear gC hY dO dp;clear bs u;go_wp2_with fail;refine(GX S dL.o (U d.heap) d8 J s b4 g2 hr.o).mono ?_;rintro x cW ⟨hQ,A,rfl,iO,cc,da,j7,hZ,iL,iH⟩;have gl:=aA iO;have hD:=aA iL;have hA:=aA iH;have gF:=ho.o.step aa hQ;have f4:=aA gF;have c7:=aA hZ;have⟨⟨bz,bC,be,bi,bj,bk,bm,bo,bD⟩,bM⟩:=gF.cells;have jr:=bM 5;have js:=bM 6;have jt:=bM 7;clear G D iO iL iH gF hZ hQ ho hr;go_upto_region 32 with fail;have hR:=f4.o.Y6 A;have h0:(aY (aY (aY cW ⟨e,5,Z⟩<|ak A.null) ⟨e,6,Z⟩<|aJ aM A.n) ⟨e,7,Z⟩<|ay A.s).heap[U d.heap]? =K (rb s cc da):=f4.o.L8 aa c7.o;clear bz bC be bi bj bk bm bo bD bM jr js jt;generalize aY (aY (aY cW ⟨e,5,Z⟩<|ak A.null) ⟨e,6,Z⟩<|aJ aM A.n) ⟨e,7,Z⟩ (ay A.s)=c9 at*;have fb:=aA hR;have f8:=aA h0;clear hR h0 f4 c7;clear cW hH;obtain⟨⟨bz,bC,be,bi,bj,bk,bm,bo,bD⟩,-⟩:=fb.o.cells;have⟨G,D⟩:=c5.o c9 fb.o.pb.kp;have eh:X (bc 47 #[bZ<|eC z,aJ aM S] c9.drew λx br=>x=aN (ak<|gR z S)/\aD c9.drew br):=x8 z S _ dL.o;refine Un.open_ (λh=>(bl h e 2 (ak z.null)/\bl h e 3 (aJ aM z.n)/\bl h e 4 (ay z.s))/\bl h (U d.heap+1) 0 (ah (K ⟨cb,0,Z⟩) (I a) W)/\bl h cb (I f*2+1) (aJ aM S)) 11 (λ_ _ _ _ _ e=>e) λdA=>?_;have N:(λh=>(bl h e 2 (ak z.null)/\bl h e 3 (aJ aM z.n)/\bl h e 4 (ay z.s))/\bl h (U d.heap+1) 0 (ah (K ⟨cb,0,Z⟩) (I a) W)/\bl h cb (I f*2+1) (aJ aM S)) c9.drew:=⟨⟨be,bi,bj⟩,G,D⟩;refine Un.pk 0 ?_;refine Un.ld [11] 1 ?_;refine Un.pk 2 ?_;refine Un.pk 3 ?_;refine Un.pk 4 ?_;refine Un.ld [11] 5 ?_;refine Un.pk 6 ?_;refine Un.pk 7 ?_;refine Un.pk 8 ?_;refine Un.ld [11] 9 ?_;try simp only[bw,ct,cj,b9]
          refine Un.on 10 λt l=>?_;go_simp;go_at_call 47;refine eh.o.mono ?_;rintro x bK ⟨rfl,cA⟩;have dy:aD c9 bK:=(bN (U c9.heap) c9).drew.trans cA;have dP:X (PP d E bK n i (ah p (I f) o) f e T ⟨af,z,A⟩):=fb.o.below aa dy;have f9:X (bK.heap[U d.heap]? =K (rb s cc da)):=(dy.block _<|bE f8.o).trans f8.o;have cK:=dP.o.cells.1;have eV:=c5.o bK dP.o.pb.kp;refine l.o _ _ (λ_=>⟨⟨cK.2.2.1,cK.2.2.2.1,cK.2.2.2.2.1⟩,eV⟩) ?_;clear l t N cA dy cK eV bz bC be bi bj bk bm bo bD G D eh fb f8;try simp only[bw,ct,cj,b9]
          refine Un.on 11 λt l=>?_;go_simp;refine l.o _ _ (λe=>absurd e az) ?_;clear l t;try simp only[bw,ct,cj,b9]
          refine Un.done aR ?_ _;try simp only[bw,ct,cj,b9]
          clear c9;go_upto_region 33 with fail;obtain⟨⟨bz,bC,be,bi,bj,bk,bm,bo,bD⟩,-⟩:=dP.o.cells;have⟨G,D⟩:=c5.o bK dP.o.pb.kp;have eh:X (bc 47 #[bZ<|eC A,aJ aM S] bK.drew λx br=>x=aN (ak<|gR A S)/\aD bK.drew br):=x8 A S _ dL.o;refine Un.open_ (λh=>(bl h e 5 (ak A.null)/\bl h e 6 (aJ aM A.n)/\bl h e 7 (ay A.s))/\bl h (U d.heap+1) 0 (ah (K ⟨cb,0,Z⟩) (I a) W)/\bl h cb (I f*2+1) (aJ aM S)) 11 (λ_ _ _ _ _ e=>e) λdA=>?_;have N:(λh=>(bl h e 5 (ak A.null)/\bl h e 6 (aJ aM A.n)/\bl h e 7 (ay A.s))/\bl h (U d.heap+1) 0 (ah (K ⟨cb,0,Z⟩) (I a) W)/\bl h cb (I f*2+1) (aJ aM S)) bK.drew:=⟨⟨bk,bm,bo⟩,G,D⟩;refine Un.pk 0 ?_;refine Un.ld [11] 1 ?_;refine Un.pk 2 ?_;refine Un.pk 3 ?_;refine Un.pk 4 ?_;refine Un.ld [11] 5 ?_;refine Un.pk 6 ?_;refine Un.pk 7 ?_;refine Un.pk 8 ?_;refine Un.ld [11] 9 ?_;try simp only[bw,ct,cj,b9]
          refine Un.on 10 λt l=>?_;go_simp;go_at_call 47;refine eh.o.mono ?_;rintro x et ⟨rfl,cA⟩;have dy:aD bK et:=(bN (U bK.heap) bK).drew.trans cA;have eo:X (PP d E et n i (ah p (I f) o) f e T ⟨af,z,A⟩):=dP.o.below aa dy;have gb:X (et.heap[U d.heap]? =K (rb s cc da)):=(dy.block _<|bE f9.o).trans f9.o;have cK:=eo.o.cells.1;have eV:=c5.o et eo.o.pb.kp;refine l.o _ _ (λ_=>⟨⟨cK.2.2.2.2.2.1,cK.2.2.2.2.2.2.1,cK.2.2.2.2.2.2.2.1⟩,eV⟩) ?_;clear l t N cA dy cK eV bz bC be bi bj bk bm bo bD G D eh dP f9;try simp only[bw,ct,cj,b9]
          refine Un.on 11 λt l=>?_;go_simp;refine l.o _ _ (λe=>absurd e az) ?_;clear l t;try simp only[bw,ct,cj,b9]
          refine Un.done aR ?_ _;try simp only[bw,ct,cj,b9]
          clear bK;obtain⟨⟨bz,bC,be,bi,bj,bk,bm,bo,bD⟩,-⟩:=eo.o.cells;have iP:z.s.size<=aV:=by have:=gj.o.sz;unfold aV;omega
          have iQ:A.s.size<=aV:=by have:=gl.o.sz;unfold aV;omega
          go_wp2_with fail;refine(Bf A z _ iQ iP).mono ?_;rintro x gn ⟨rfl,gM⟩;have hp:X (PP d E gn n i (ah p (I f) o) f e T ⟨af,z,A⟩):=eo.o.below aa gM;have gc:X (gn.heap[U d.heap]? =K (rb s cc da)):=(gM.block _<|bE gb.o).trans gb.o;have c4:X (∀gq,(gq=if gR z S=af/\gR A S=af/\¬gv A z<0 then da else af)->RB s S aK aH ⟨af,z,A⟩ cc gq):=λgq ft=>RB.one dL.o j7 fk.o gg.o Y gj.o hC.o hz.o gl.o hD.o hA.o ft;have⟨cZ,c0,cd,c1,c2,c3⟩:=nY gc.o;have f5:X (PP d E (aY gn ⟨U d.heap,2,Z⟩<|ak af) n i (ah p (I f) o) f e T ⟨af,z,A⟩):=hp.o.step aa<|Kp.tE<|Kp.refl _ _;have ge:=aA<|wR gc.o;clear bz bC be bi bj bk bm bo bD iP iQ gM eo gb hC hz hD hA gj gl c5;clear et;cases g0:gR z S
          .rw[g0] at c4;go_wp2
           go_meet
           exact⟨_,cc,af,f5.o,ge.o,c4.o af aI⟩
          cases il:gR A S
          .rw[g0,il] at c4;go_wp2
           go_meet
           exact⟨_,cc,af,f5.o,ge.o,c4.o af aI⟩
          by_cases d7:gv A z<0
          .have jC:decide (gv A z<0)=af:=by simpa using d7
           have fO:X (RB s S aK aH ⟨af,z,A⟩ cc af):=c4.o af (by rw[if_neg λe=>e.2.2 d7]);clear c4 d7;go_wp2
           go_meet
           exact⟨_,cc,af,f5.o,ge.o,fO.o⟩
          have jC:decide (gv A z<0)=aj:=by simpa using d7
          have fO:X (RB s S aK aH ⟨af,z,A⟩ cc da):=c4.o da (by rw[if_pos ⟨g0,il,d7⟩]);clear c4 d7;go_wp2
          go_meet
          exact⟨_,cc,da,hp.o,gc.o,fO.o⟩
         have fg:X (RB s S aK aH hU ca cr):=by
          rcases dE.o with⟨k,q⟩|⟨k,q⟩;rw[q];exact RB.zero e2 fk.o gg.o aa;rw[q];exact RB.many e2 fk.o k
         have df:((dd:Int)==1)=aj:=bS;have kI:¬(dd:Int)=1:=aa;go_wp2
         go_meet
         exact⟨hU,ca,cr,aU.o,ci.o,fg.o⟩
        case rest=>
         have⟨bP,dC,dr,Q,bu,gI⟩:=hcut
         rename ag=>g7
         have hs:=aA gI;have dk:=aA Q;have a6:=aA bu;have j6:dC<=s.size:=gI.le;obtain⟨⟨bz,bC,be,bi,bj,bk,bm,bo,bD⟩,-⟩:=Q.cells;have⟨a1,a7,de⟩:=Q.pb.cells;have R:=Q.pb.own;have iR:U E.heap<=U g7.heap:=Q.pb.kp.size;clear Q bu gI aU ci dE c5 hm;go_upto_region 23 with(at_builtin;refine wpList_append_lies _ Y _ _ 120 Y (U E.heap) 128 kw _ 9 96 aE.underlying120 bv kb fJ kc Y az _ (I f) _ Y (R.alloc _) ⟨U g7.heap,0,Z⟩ 1 1 (eO ⟨T,bP,⟨#[]⟩⟩) Y Y (Xm g7) Xn (by decide) (by unfold aV;omega) aa bS _ Y ?_;intro fl ew bs it ie h4 jY;have fx:=dx.mh (n:=I f+1) (cap:=ew) ie h4;have⟨cu,bW⟩:=dk.o.pb.kept fx);have iq:aT bs (U E.heap) 128 9 (ah (K ⟨fl,0,Z⟩) (I f+1) ew) (I<|f++[(⟨T,bP,⟨#[]⟩⟩:fu)]) ((f++[(⟨T,bP,⟨#[]⟩⟩:fu)]).flatMap eO):=by
          rw[oN,pH,cJ];exact it
         have dO:=aA<|dk.o.pb.oX fx iq;unfold aG at dO;have dp:X ((aY bs ⟨n,1,Z⟩<|ah (K ⟨fl,0,Z⟩) (I f+1) ew).heap[U d.heap]? =K (rb s dC dr)):=dk.o.pb.reader aa fx a6.o;clear bz bC be bi bj bk bm bo bD a1 a7 de R it ie h4 jY iq fx cu bW dk a6;generalize aY bs ⟨n,1,Z⟩ (ah (K ⟨fl,0,Z⟩) (I f+1) ew)=kD at*;generalize ah (K ⟨fl,0,Z⟩) (I f+1) ew=kr at*;have fC:=RB.part (cs:=a.map bf) (i:=I f) iJ hB.o hy.o (by rw[hl.o];exact hs.o);have i1:X (dr=aj->n6 (AO<|a.map bf) (f++[(⟨T,bP,⟨#[]⟩⟩:fu)])):=λa2=>(cf.o (fC.1 a2).1).snoc (fC.1 a2).2;have fU:X (∀c b,Hf s c b->dr=aj/\c=a/\I b=m/\g.map bf=b.take (I g)/\∃e:I g<I b,uY (a.map bf) b[I g]/\b[I g].rows=i/\f++[(⟨T,bP,⟨#[]⟩⟩:fu)]=b[I g].parts.take (I f+1)/\(bytesOf s).drop dC=mN (a.map bf) (I f+1) (b[I g].parts.drop<|I f+1)++gZ (a.map bf) (b.drop<|I g+1)):=λc b eX=>by
          have⟨j,k,q,v,C,y,L,a8,aC⟩:=aF.o c b eX;have gU:I f<b[I g].parts.length:=by rw[y.len,er];exact ik
          rw[ru gU,mN,ij] at aC;have⟨am,ao,a4⟩:=fC.2 b[I g].parts[I f] _ (y.each _ gU) aC;exact⟨by rw[ao,j],k,q,v,C,y,L,DI a8 gU am,a4⟩
         clear fC hs hB hy fk gg cf aF hl dL iJ jL;go_wp2_with fail
         go_roundw
         case rel=>exact⟨f++[(⟨T,bP,⟨#[]⟩⟩:fu)],kr,dC,dr,by rw[cJ];go_num,by rw[cJ,rY];omega,dO.o,j6,dp.o,i1.o,by rw[cJ];exact fU.o⟩
         case measure=>simp[bB];omega
      .have fa:X (I f=I a):=by show _=_;omega
       have⟨cZ,c0,cd,c1,c2,c3⟩:=nY aw.o;have⟨a1,a7,de⟩:=ch.o.cells;by_cases j:i=0
       .have df:decide ((i:Int)=0)=af:=by simp;omega
        have Q:PB d E (aY wr ⟨U d.heap,2,Z⟩<|ak af) n i (ah p (I f) o) f:=ch.o.step aa<|Kp.tE<|Kp.refl _ _;have bu:=wR aw.o;have fd:=aA j;have gS:((i:Int)==0)=af:=bS;clear j;go_upto_region 40 with fail;clear df gS cZ c0 cd c1 c2 c3 a1 a7 de;generalize aY wr ⟨U d.heap,2,Z⟩ (ak af)=M at*;have cA:∃J,J=af:=⟨_,rfl⟩;have⟨J,dw⟩:=cA;rw[<-dw] at bu;have eS:(i=0/\J=af)\/(1<=i/\J=w):=av ⟨fd.o,dw⟩;clear dw;have dg:=aA eS;have cp:=aA<|B.o.kp Q.kp;have aU:=aA Q;have ci:=aA bu;have⟨a1,a7,de⟩:=Q.cells;have⟨⟨G,D,ae,al⟩,bL⟩:=cp.o.cells;have gr:=bL 3;have eb:X (∀O∈g,∀a0,bI O.2=K a0->bI (ah p (I f) o)≠K a0):=λO H a0 j k=>by
         have am:=((B.o.each O H).lt a0 j).2;have ao:=(aU.o.own.lt a0 k).1;omega
        have jM:U E.heap<=n:=Q.gJ;have ed:X (bI V≠K n):=λe=>by have:=(B.o.own.lt n e).2;omega
        clear Q bu eS ch aw B;refine Un.open_ (λh=>bl h (U d.heap+1) 3 (aJ aM (e6 (g.map bf):Int))/\bl h n 0 (aJ aM (i:Int))) 10 (λ_ _ _ _ _ e=>e) λdA=>?_;have N:(λh=>bl h (U d.heap+1) 3 (aJ aM (e6 (g.map bf):Int))/\bl h n 0 (aJ aM (i:Int))) M.drew:=⟨al,a1⟩;refine Un.pk 0 ?_;refine Un.pk 1 ?_;refine Un.pk 2 ?_;refine Un.pk 3 ?_;refine Un.ld [10] 4 ?_;refine Un.pk 5 ?_;refine Un.ld [10] 6 ?_;refine Un.pk 7 ?_;refine Un.pk 8 ?_;refine Un.pk 9 ?_;try simp only[bw,ct,cj,b9]
        refine Un.on 10 λt l=>?_;go_simp;refine l.o _ _ (λe=>absurd e az) ?_;clear l t N;refine Un.done aR ?_ _;try simp only[bw,ct,cj,b9]
        rw[OD g3 fB];have cx:PF d (aY M ⟨U d.heap+1,3,Z⟩<|aJ aM ((e6 (g.map bf)+i:Nat):Int)) (ah (K ⟨cb,0,Z⟩) (I a) W) (ah ad (I a) ab) V (e6 (g.map bf)+i) (a.map bf) (a.map dD) g:=cp.o.L2;have cl:(aY M ⟨U d.heap+1,3,Z⟩<|aJ aM ((e6 (g.map bf)+i:Nat):Int)).heap[U d.heap]? =K (rb s r J):=by rw[ei _ _ _ _<|by simp];exact ci.o
        have cy:(aY M ⟨U d.heap+1,3,Z⟩<|aJ aM ((e6 (g.map bf)+i:Nat):Int)).heap[n]? =K (aq #[aJ aM (i:Int),(ah p (I f) o)] 122 (0,0)):=by rw[ei _ _ _ _<|by simp;omega];exact aU.o.box
        have dv:aT (aY M ⟨U d.heap+1,3,Z⟩<|aJ aM ((e6 (g.map bf)+i:Nat):Int)) (U d.heap+1) 128 9 (ah p (I f) o) (I f) (f.flatMap eO):=by
         have:=j5 aU.o.own (show U d.heap+1<=U E.heap by omega);exact this.kept (eM M _ 3 _)<|ai (dS this cp.o.file az).symm
        rw[show((e6 (g.map bf)+i:Nat):Int)=(e6 (g.map bf):Int)+(i:Int) from by omega] at cx cl cy dv;clear a1 a7 de G D ae al bL gr cp aU ci;generalize aY M ⟨U d.heap+1,3,Z⟩ (aJ aM<|(e6 (g.map bf):Int)+(i:Int))=u at*;have P:=aA cx;have a6:=aA cl;have bT:=aA cy;have ej:=aA dv;have⟨⟨G,D,ae,al⟩,bL⟩:=cx.cells;have⟨a1,a7⟩:=w9 cy;clear cx cl cy dv bL;go_upto_region 41 with fail;refine Un.open_ (λh=>bl h (U d.heap+1) 2 V/\bl h n 0 (aJ aM (i:Int))/\bl h n 1 (ah p (I f) o)) 10 (λ_ _ _ _ _ e=>e) λdA=>?_;have N:(λh=>bl h (U d.heap+1) 2 V/\bl h n 0 (aJ aM (i:Int))/\bl h n 1 (ah p (I f) o)) u.drew:=⟨ae,a1,a7⟩;refine Un.pk 0 ?_;refine Un.pk 1 ?_;refine Un.pk 2 ?_;refine Un.pk 3 ?_;refine Un.ld [10] 4 ?_;refine Un.ld [10] 5 ?_;try simp only[bw,ct,cj,b9]
        refine Un.on 6 λt l=>?_;go_simp;have a3:X (PF d (u.drew.alloc<|aq (cR<|hJ (⟨i,f⟩,(ah p (I f) o))) 122) (ah (K ⟨cb,0,Z⟩) (I a) W) (ah ad (I a) ab) V (e6 (g.map bf)+i) (a.map bf) (a.map dD) g):=P.o.below<|((bN (U u.heap) u).drew).alloc (aZ _) _;have eL:(u.drew.alloc<|aq (cR<|hJ (⟨i,f⟩,(ah p (I f) o))) 122).heap[n]? =K (aq #[aJ aM (i:Int),(ah p (I f) o)] 122 (0,0)):=alloc_old (bE (show u.drew.heap[n]? =_ from bT.o)) (show u.drew.heap[n]? =_ from bT.o);have⟨b6,b7⟩:=w9 eL;refine l.o _ _ (λ_=>⟨a3.o.cells.1.2.2.1,b6,b7⟩) ?_;clear l t N;try simp only[bw,ct,cj,b9]
        refine Un.one (i:=7) aR Y λt l=>?_;have R:=P.o.own;have iR:=bE P.o.file;refine step_append_lies _ (by rfl) _ _ 111 (by rfl) (U d.heap+1) 122 iY _ 2 32 aE.underlying111 iu iv iw ix Y az V (I g) _ (by rfl) ((fc R (bN _ _).drew).alloc _) ⟨U u.heap,0,Z⟩ 1 1 (hJ (⟨i,f⟩,(ah p (I f) o))) (by rfl) Y (Og u.drew) (by intro g6 bv;simp[hJ] at bv;rcases bv with rfl|rfl<;>rfl) az fW aa bS _ rfl ?_;intro b2 bV bF e1 eY eR gY;have b3:dx u bF V (ah (K ⟨b2,0,Z⟩) (I g+1) bV):=Cw<|Cw<|dx.mh (w:=u.drew.drew) (o:=aq (cR<|hJ (⟨i,f⟩,ah p (I f) o)) 122) (show kg _ _ _ from eY) eR;have e0:aT bF (U d.heap+1) 122 2 (ah (K ⟨b2,0,Z⟩) (I g+1) bV) (I<|g++[((⟨i,f⟩:di),ah p (I f) o)]) ((g++[((⟨i,f⟩:di),ah p (I f) o)]).flatMap hJ):=by
         rw[oN,pH,cJ];exact e1
        have ec:=aA<|P.o.Cx b3 ej.o eb.o e0;have c7:X ((aY bF ⟨U d.heap+1,2,Z⟩<|ah (K ⟨b2,0,Z⟩) (I g+1) bV).heap[U d.heap]? =K (rb s r J)):=PF.reader a6.o P.o.own b3;have⟨⟨cu,bW,b0,du⟩,b1⟩:=P.o.CC P.o.own az b3;have gs:=b1 2;have eQ:bF.heap[n]? =K (aq #[aJ aM (i:Int),(ah p (I f) o)] 122 (0,0)):=(b3.dK.block n (bE bT.o) λx=>ed.o x.symm).trans bT.o;have⟨b6,b7⟩:=w9 eQ;refine l.o _ _ (λ_=>⟨b0,b6,b7⟩) ?_;clear l t R e1 eY eR gY e0 b3 b1 eQ eL;try simp only[bw,ct,cj,b9]
        have N:(λh=>bl h (U d.heap+1) 2 V/\bl h n 0 (aJ aM (i:Int))/\bl h n 1 (ah p (I f) o)) bF:=⟨b0,b6,b7⟩;refine Un.pk 8 ?_;refine Un.pk 9 ?_;try simp only[bw,ct,cj,b9]
        refine Un.on 10 λt l=>?_;go_simp;refine l.o _ _ (λe=>absurd e az) ?_;clear l t N cu bW b0 du gs b6 b7 G D ae al a1 a7;refine Un.done aR ?_ _;try simp only[bw,ct,cj,b9]
        clear P a3 a6 bT ej eb ed;generalize aY bF ⟨U d.heap+1,2,Z⟩ (ah (K ⟨b2,0,Z⟩) (I g+1) bV)=hI at*;generalize ah (K ⟨b2,0,Z⟩) (I g+1) bV=gp at*;have es:X (e6 ((g++[((⟨i,f⟩:di),ah p (I f) o)]).map bf)=e6 (g.map bf)+i):=by show _=_;rw[gD,rZ,MF]
        have f1:X (J=aj->∀O∈g++[((⟨i,f⟩:di),ah p (I f) o)],uY (a.map bf) O.1):=λa2 O H=>by
         rcases eP.1 H with H|H;exact dJ.o O H;simp at H;subst H;rcases dg.o with⟨-,k⟩|⟨j,k⟩;rw[k] at a2;cases a2;exact⟨j,fB,by show I f=_;rw[er];exact fa.o,cf.o<|by rw[<-k];exact a2⟩
        have fS:X (∀c b,Hf s c b->J=aj/\c=a/\I b=m/\(g++[((⟨i,f⟩:di),ah p (I f) o)]).map bf=b.take (I g+1)/\(bytesOf s).drop r=gZ (a.map bf) (b.drop<|I g+1)):=λc b eX=>by
         have⟨j,k,q,v,C,y,L,a8,aC⟩:=aF.o c b eX;have eZ:b[I g].parts.length=I f:=by rw[y.len,er,fa.o]
         rw[<-eZ,jq] at a8;rw[<-eZ,List.drop_length,mN,s6] at aC;refine⟨?_,k,q,?_,aC⟩;rcases dg.o with⟨eB,-⟩|⟨-,eB⟩;have:=y.lo;omega;rw[eB,j];rw[gD,rZ];refine DI v C ?_;generalize b[I g]=g5 at*;have⟨kt,ku⟩:=g5;simp only at L a8;rw[L,a8]
        clear dg cf aF dJ;have fG:=f7.o;go_wp2_with fail
        go_roundw
        case rel=>exact⟨g++[((⟨i,f⟩:di),ah p (I f) o)],gp,r,J,by rw[cJ];go_num,by rw[cJ,rY];omega,by rw[es.o];exact ec.o,by rw[es.o,cJ,rY];omega,dz,c7.o,f1.o,by rw[cJ];exact fS.o⟩
        case measure=>simp[bB];omega
       .have df:decide ((i:Int)=0)=aj:=by simp;omega
        have Q:PB d E wr n i (ah p (I f) o) f:=ch.o;have bu:wr.heap[U d.heap]? =K (rb s r w):=aw.o;have gS:((i:Int)==0)=aj:=bS;go_upto_region 40 with fail;clear df gS cZ c0 cd c1 c2 c3 a1 a7 de;have cA:∃J,J=w:=⟨_,rfl⟩;have⟨J,dw⟩:=cA;rw[<-dw] at bu;have eS:(i=0/\J=af)\/(1<=i/\J=w):=ai ⟨aa,dw⟩;clear dw;generalize wr=M at*;have dg:=aA eS;have cp:=aA<|B.o.kp Q.kp;have aU:=aA Q;have ci:=aA bu;have⟨a1,a7,de⟩:=Q.cells;have⟨⟨G,D,ae,al⟩,bL⟩:=cp.o.cells;have gr:=bL 3;have eb:X (∀O∈g,∀a0,bI O.2=K a0->bI (ah p (I f) o)≠K a0):=λO H a0 j k=>by
         have am:=((B.o.each O H).lt a0 j).2;have ao:=(aU.o.own.lt a0 k).1;omega
        have jM:U E.heap<=n:=Q.gJ;have ed:X (bI V≠K n):=λe=>by have:=(B.o.own.lt n e).2;omega
        clear Q bu eS ch aw B;refine Un.open_ (λh=>bl h (U d.heap+1) 3 (aJ aM (e6 (g.map bf):Int))/\bl h n 0 (aJ aM (i:Int))) 10 (λ_ _ _ _ _ e=>e) λdA=>?_;have N:(λh=>bl h (U d.heap+1) 3 (aJ aM (e6 (g.map bf):Int))/\bl h n 0 (aJ aM (i:Int))) M.drew:=⟨al,a1⟩;refine Un.pk 0 ?_;refine Un.pk 1 ?_;refine Un.pk 2 ?_;refine Un.pk 3 ?_;refine Un.ld [10] 4 ?_;refine Un.pk 5 ?_;refine Un.ld [10] 6 ?_;refine Un.pk 7 ?_;refine Un.pk 8 ?_;refine Un.pk 9 ?_;try simp only[bw,ct,cj,b9]
        refine Un.on 10 λt l=>?_;go_simp;refine l.o _ _ (λe=>absurd e az) ?_;clear l t N;refine Un.done aR ?_ _;try simp only[bw,ct,cj,b9]
        rw[OD g3 fB];have cx:PF d (aY M ⟨U d.heap+1,3,Z⟩<|aJ aM ((e6 (g.map bf)+i:Nat):Int)) (ah (K ⟨cb,0,Z⟩) (I a) W) (ah ad (I a) ab) V (e6 (g.map bf)+i) (a.map bf) (a.map dD) g:=cp.o.L2;have cl:(aY M ⟨U d.heap+1,3,Z⟩<|aJ aM ((e6 (g.map bf)+i:Nat):Int)).heap[U d.heap]? =K (rb s r J):=by rw[ei _ _ _ _<|by simp];exact ci.o
        have cy:(aY M ⟨U d.heap+1,3,Z⟩<|aJ aM ((e6 (g.map bf)+i:Nat):Int)).heap[n]? =K (aq #[aJ aM (i:Int),(ah p (I f) o)] 122 (0,0)):=by rw[ei _ _ _ _<|by simp;omega];exact aU.o.box
        have dv:aT (aY M ⟨U d.heap+1,3,Z⟩<|aJ aM ((e6 (g.map bf)+i:Nat):Int)) (U d.heap+1) 128 9 (ah p (I f) o) (I f) (f.flatMap eO):=by
         have:=j5 aU.o.own (show U d.heap+1<=U E.heap by omega);exact this.kept (eM M _ 3 _)<|ai (dS this cp.o.file az).symm
        rw[show((e6 (g.map bf)+i:Nat):Int)=(e6 (g.map bf):Int)+(i:Int) from by omega] at cx cl cy dv;clear a1 a7 de G D ae al bL gr cp aU ci;generalize aY M ⟨U d.heap+1,3,Z⟩ (aJ aM<|(e6 (g.map bf):Int)+(i:Int))=u at*;have P:=aA cx;have a6:=aA cl;have bT:=aA cy;have ej:=aA dv;have⟨⟨G,D,ae,al⟩,bL⟩:=cx.cells;have⟨a1,a7⟩:=w9 cy;clear cx cl cy dv bL;go_upto_region 41 with fail;refine Un.open_ (λh=>bl h (U d.heap+1) 2 V/\bl h n 0 (aJ aM (i:Int))/\bl h n 1 (ah p (I f) o)) 10 (λ_ _ _ _ _ e=>e) λdA=>?_;have N:(λh=>bl h (U d.heap+1) 2 V/\bl h n 0 (aJ aM (i:Int))/\bl h n 1 (ah p (I f) o)) u.drew:=⟨ae,a1,a7⟩;refine Un.pk 0 ?_;refine Un.pk 1 ?_;refine Un.pk 2 ?_;refine Un.pk 3 ?_;refine Un.ld [10] 4 ?_;refine Un.ld [10] 5 ?_;try simp only[bw,ct,cj,b9]
        refine Un.on 6 λt l=>?_;go_simp;have a3:X (PF d (u.drew.alloc<|aq (cR<|hJ (⟨i,f⟩,(ah p (I f) o))) 122) (ah (K ⟨cb,0,Z⟩) (I a) W) (ah ad (I a) ab) V (e6 (g.map bf)+i) (a.map bf) (a.map dD) g):=P.o.below<|((bN (U u.heap) u).drew).alloc (aZ _) _;have eL:(u.drew.alloc<|aq (cR<|hJ (⟨i,f⟩,(ah p (I f) o))) 122).heap[n]? =K (aq #[aJ aM (i:Int),(ah p (I f) o)] 122 (0,0)):=alloc_old (bE (show u.drew.heap[n]? =_ from bT.o)) (show u.drew.heap[n]? =_ from bT.o);have⟨b6,b7⟩:=w9 eL;refine l.o _ _ (λ_=>⟨a3.o.cells.1.2.2.1,b6,b7⟩) ?_;clear l t N;try simp only[bw,ct,cj,b9]
        refine Un.one (i:=7) aR Y λt l=>?_;have R:=P.o.own;have iR:=bE P.o.file;refine step_append_lies _ (by rfl) _ _ 111 (by rfl) (U d.heap+1) 122 iY _ 2 32 aE.underlying111 iu iv iw ix Y az V (I g) _ (by rfl) ((fc R (bN _ _).drew).alloc _) ⟨U u.heap,0,Z⟩ 1 1 (hJ (⟨i,f⟩,(ah p (I f) o))) (by rfl) Y (Og u.drew) (by intro g6 bv;simp[hJ] at bv;rcases bv with rfl|rfl<;>rfl) az fW aa bS _ rfl ?_;intro b2 bV bF e1 eY eR gY;have b3:dx u bF V (ah (K ⟨b2,0,Z⟩) (I g+1) bV):=Cw<|Cw<|dx.mh (w:=u.drew.drew) (o:=aq (cR<|hJ (⟨i,f⟩,ah p (I f) o)) 122) (show kg _ _ _ from eY) eR;have e0:aT bF (U d.heap+1) 122 2 (ah (K ⟨b2,0,Z⟩) (I g+1) bV) (I<|g++[((⟨i,f⟩:di),ah p (I f) o)]) ((g++[((⟨i,f⟩:di),ah p (I f) o)]).flatMap hJ):=by
         rw[oN,pH,cJ];exact e1
        have ec:=aA<|P.o.Cx b3 ej.o eb.o e0;have c7:X ((aY bF ⟨U d.heap+1,2,Z⟩<|ah (K ⟨b2,0,Z⟩) (I g+1) bV).heap[U d.heap]? =K (rb s r J)):=PF.reader a6.o P.o.own b3;have⟨⟨cu,bW,b0,du⟩,b1⟩:=P.o.CC P.o.own az b3;have gs:=b1 2;have eQ:bF.heap[n]? =K (aq #[aJ aM (i:Int),(ah p (I f) o)] 122 (0,0)):=(b3.dK.block n (bE bT.o) λx=>ed.o x.symm).trans bT.o;have⟨b6,b7⟩:=w9 eQ;refine l.o _ _ (λ_=>⟨b0,b6,b7⟩) ?_;clear l t R e1 eY eR gY e0 b3 b1 eQ eL;try simp only[bw,ct,cj,b9]
        have N:(λh=>bl h (U d.heap+1) 2 V/\bl h n 0 (aJ aM (i:Int))/\bl h n 1 (ah p (I f) o)) bF:=⟨b0,b6,b7⟩;refine Un.pk 8 ?_;refine Un.pk 9 ?_;try simp only[bw,ct,cj,b9]
        refine Un.on 10 λt l=>?_;go_simp;refine l.o _ _ (λe=>absurd e az) ?_;clear l t N cu bW b0 du gs b6 b7 G D ae al a1 a7;refine Un.done aR ?_ _;try simp only[bw,ct,cj,b9]
        clear P a3 a6 bT ej eb ed;generalize aY bF ⟨U d.heap+1,2,Z⟩ (ah (K ⟨b2,0,Z⟩) (I g+1) bV)=hI at*;generalize ah (K ⟨b2,0,Z⟩) (I g+1) bV=gp at*;have es:X (e6 ((g++[((⟨i,f⟩:di),ah p (I f) o)]).map bf)=e6 (g.map bf)+i):=by show _=_;rw[gD,rZ,MF]
        have f1:X (J=aj->∀O∈g++[((⟨i,f⟩:di),ah p (I f) o)],uY (a.map bf) O.1):=λa2 O H=>by
         rcases eP.1 H with H|H;exact dJ.o O H;simp at H;subst H;rcases dg.o with⟨-,k⟩|⟨j,k⟩;rw[k] at a2;cases a2;exact⟨j,fB,by show I f=_;rw[er];exact fa.o,cf.o<|by rw[<-k];exact a2⟩
        have fS:X (∀c b,Hf s c b->J=aj/\c=a/\I b=m/\(g++[((⟨i,f⟩:di),ah p (I f) o)]).map bf=b.take (I g+1)/\(bytesOf s).drop r=gZ (a.map bf) (b.drop<|I g+1)):=λc b eX=>by
         have⟨j,k,q,v,C,y,L,a8,aC⟩:=aF.o c b eX;have eZ:b[I g].parts.length=I f:=by rw[y.len,er,fa.o]
         rw[<-eZ,jq] at a8;rw[<-eZ,List.drop_length,mN,s6] at aC;refine⟨?_,k,q,?_,aC⟩;rcases dg.o with⟨eB,-⟩|⟨-,eB⟩;have:=y.lo;omega;rw[eB,j];rw[gD,rZ];refine DI v C ?_;generalize b[I g]=g5 at*;have⟨kt,ku⟩:=g5;simp only at L a8;rw[L,a8]
        clear dg cf aF dJ;have fG:=f7.o;go_wp2_with fail
        go_roundw
        case rel=>exact⟨g++[((⟨i,f⟩:di),ah p (I f) o)],gp,r,J,by rw[cJ];go_num,by rw[cJ,rY];omega,by rw[es.o];exact ec.o,by rw[es.o,cJ,rY];omega,dz,c7.o,f1.o,by rw[cJ];exact fS.o⟩
        case measure=>simp[bB];omega
    have fV:X (∀c b,Hf s c b->c=a/\b=g.map bf):=λc b e=>by
     obtain⟨-,k,q,v,-⟩:=aF.o c b e;refine⟨k,?_⟩;rw[v,iF<|by omega]
    have hn:X (I g<=2000):=by show _<=_;omega
    obtain⟨⟨G,D,ae,al⟩,-⟩:=B.o.cells;clear aF f0;by_cases kH:2000<e6 (g.map bf)
    .have df:decide ((2000:Int)<(e6 (g.map bf):Int))=af:=by simp;omega
     have bH:X (∀c b,oo c b->bytesOf s≠lg c b):=λc b j k=>by
      have q:=(fV.o c b ⟨j,k⟩).2;have v:=j.rows;rw[q] at v;omega
     have co:=aA B.o.jZ;go_wp2;go_ret2;exact⟨co.o,ai ⟨_,rfl,bH.o⟩⟩
    have df:decide ((2000:Int)<(e6 (g.map bf):Int))=aj:=bS;have ht:X (oo a<|g.map bf):=⟨em.o,λw a2=>by
     obtain⟨O,H,rfl⟩:=jW.1 a2;exact dJ.o O H,aa⟩
    have fX:X (bc 105 #[cU<|K ⟨U d.heap+1,0,Z⟩] E λx br=>x=aN (ay<|strOf<|zO (a.map bf) (a.map dD)<|g.map bf)/\aD E br):=by
     refine Um (a.map bf) (a.map dD) (g.map bf) (U d.heap+1) E (by rw[er];exact jR) (by rw[er,er]) (La em.o.1) (λdT jA=>?_) (by rw[er];exact hn.o) (λw a2=>?_) B.o.file (px.gB B.o.an) (iE.gB B.o.gA) ⟨g,rfl,uJ.gB Co B.o.own,λO H=>uJ.gB Bu<|B.o.each O H⟩;obtain⟨ba,C,rfl⟩:=m9 jA;exact f2.o ba C;exact Zr f2.o<|ht.o.e7 w a2
    rw[Ul] at fX;have dQ:X (∀h,aD E h->PF d h (ah (K ⟨cb,0,Z⟩) (I a) W) (ah ad (I a) ab) V (e6<|g.map bf) (a.map bf) (a.map dD) g):=λh e=>B.o.below e;clear dJ g3 jv f7 hn;go_wp2_with fail;refine fX.o.mono ?_;rintro x kA ⟨rfl,ft⟩;have gi:=aA<|dQ.o kA ft;clear ft fX dQ B aw G D ae al cZ c0 cd c1 c2 c3;by_cases d6:strOf (lg a<|g.map bf)=s
    .have i3:X (zh (bytesOf s) a<|g.map bf):=⟨ht.o,by rw[<-d6,IZ Ur],λkn kv j k=>fV.o kn kv ⟨j,k⟩⟩;have hf:=aA d6;clear d6;generalize strOf (lg a<|g.map bf)=i6 at*;obtain rfl:=hf.o;clear hf;go_wp2;go_ret2;exact⟨gi.o.jZ,av ⟨a,g,_,_,V,rfl,i3.o,gi.o⟩⟩
    have k0:(jE (strOf<|lg a<|g.map bf)==jE s)=aj:=by
     rw[beq_eq_false_iff_ne];intro e;exact d6<|toList_inj e
    have bH:X (∀c b,oo c b->bytesOf s≠lg c b):=λc b j k=>by
     have⟨am,ao⟩:=fV.o c b ⟨j,k⟩;rw[am,ao] at k;exact d6 (by rw[<-k,DG])
    clear d6;generalize strOf (lg a<|g.map bf)=i6 at*;go_wp2;go_ret2;exact⟨gi.o.jZ,ai ⟨_,rfl,bH.o⟩⟩
def Pj (f:ag)(s:ByteArray)(e:gN)(g:ag):Prop:=
 aD f g/\((∃(b:List (bx×Int)) (a:List Bd) (d:List (di×F)) (c:ag) (i j h:F),e=aN (cP #[(aK<|U c.heap+1),ak af])/\mC s b a/\U c.heap=U f.heap/\PF c g i j h (gW a) (b.map bf) (b.map dD) d/\d.map bf=a.map pe/\oa s (b.map bf) (gW a) 0)\/
  (∃v,e=aN (cP #[v,ak aj])/\oa s [] 0 3))
def Ze(s:ByteArray)(c1:s.size<=aV):
 bc 46 #[ay s] w (Pj w s):=by
 have c6:=c1;unfold aV at c6;by_cases aF:65536<s.size
 .have W:decide ((65536:Int)<(s.size:Int))=af:=by simp;omega
  have k:X (oa s [] 0 3):=A3 (λaI aK h=>by have:=h.1;omega);go_enter aE.func46,Tryz.ntmps46;go_wp2;go_ret2;exact⟨bN _ _,ai ⟨_,rfl,k.o⟩⟩
 have W:decide ((65536:Int)<(s.size:Int))=aj:=bS;by_cases d8:s.size<12
 .have cO:decide ((s.size:Int)<12)=af:=by simp;omega
  have k:X (oa s [] 0 3):=A3 (λaI aK h=>by have:=h.len;omega);go_enter aE.func46,Tryz.ntmps46;go_wp2;go_ret2;exact⟨bN _ _,ai ⟨_,rfl,k.o⟩⟩
 have cO:decide ((s.size:Int)<12)=aj:=bS;have aH:(4:Int)<=(s.size:Int):=aa;cases bV:(jE (fw s 0 4)==[83,84,82,65])
 .have k:X (oa s [] 0 3):=A3 (λaI aK h=>by
   have:=(Au).2<|(Gn<|by omega).2 h.marks.1;rw[bV] at this;cases this)
  go_enter aE.func46,Tryz.ntmps46;go_wp2;go_ret2;exact⟨bN _ _,ai ⟨_,rfl,k.o⟩⟩
 cases b1:(jE (fw s (s.size-4) s.size)==[83,84,82,65])
 .have k:X (oa s [] 0 3):=A3 (λaI aK h=>by
   have:=(Au).2<|(Hz<|by omega).2 h.marks.2.1;rw[b1] at this;cases this)
  have cq:((s.size:Int)-4).toNat=s.size-4:=aa;go_enter aE.func46,Tryz.ntmps46;go_wp2;go_ret2;exact⟨bN _ _,ai ⟨_,rfl,k.o⟩⟩
 have b7:X (∃br,bytesOf s=[83,84,82,65]++br):=(Gn aa).1<|(Au).1 bV;have a3:X (∃br,bytesOf s=br++[83,84,82,65]):=(Hz aa).1<|(Au).1 b1;have cq:((s.size:Int)-4).toNat=s.size-4:=aa;go_enter aE.func46,Tryz.ntmps46;go_upto_region 4 with fail;obtain⟨m,c5⟩:∃m,s.size=m+8:=⟨s.size-8,aa⟩;obtain⟨M,c2⟩:∃M,M=m+1:=⟨_,rfl⟩;obtain⟨O,c3⟩:∃O,O=m+2:=⟨_,rfl⟩;obtain⟨P,c4⟩:∃P,P=m+3:=⟨_,rfl⟩;have de:m<s.size:=aa;have df:M<s.size:=aa;have dg:O<s.size:=aa;have dk:P<s.size:=aa;have ej:(m:Int)<(s.size:Int):=aa;have el:(M:Int)<(s.size:Int):=aa;have em:(O:Int)<(s.size:Int):=aa;have eo:(P:Int)<(s.size:Int):=aa;obtain⟨n,bK⟩:∃n,s[m].toNat=n:=⟨_,rfl⟩;obtain⟨j,aC⟩:∃j,s[M].toNat=j:=⟨_,rfl⟩;obtain⟨o,bM⟩:∃o,s[O].toNat=o:=⟨_,rfl⟩;obtain⟨t,bP⟩:∃t,s[P].toNat=t:=⟨_,rfl⟩;have cl:X (sJ s m=n+256*j+65536*o+16777216*t):=by
  show _=_;unfold sJ;rw[<-c2,<-c3,<-c4,ep,ep,ep,ep,va s m de,va s M df,va s O dg,va s P dk,<-bK,<-aC,<-bM,<-bP];rfl
 have d0:n<256:=by rw[<-bK];exact s[m].toNat_lt
 have d1:j<256:=by rw[<-aC];exact s[M].toNat_lt
 have d2:o<256:=by rw[<-bM];exact s[O].toNat_lt
 have d3:t<256:=by rw[<-bP];exact s[P].toNat_lt
 have eb:aM.wrap ((s.size:Int)-8)=(m:Int):=by rw[kF];omega
 have ec:aM.wrap ((s.size:Int)-7)=(M:Int):=by rw[kF];omega
 have ed:aM.wrap ((s.size:Int)-6)=(O:Int):=by rw[kF];omega
 have eh:aM.wrap ((s.size:Int)-5)=(P:Int):=by rw[kF];omega
 have eV:aM.wrap (n:Int)=(n:Int):=by rw[kF];omega
 have eX:aM.wrap (j:Int)=(j:Int):=by rw[kF];omega
 have eY:aM.wrap (o:Int)=(o:Int):=by rw[kF];omega
 have eZ:aM.wrap (t:Int)=(t:Int):=by rw[kF];omega
 have eq:aM.wrap (256*(j:Int))=256*(j:Int):=by rw[kF];omega
 have es:aM.wrap (65536*(o:Int))=65536*(o:Int):=by rw[kF];omega
 have et:aM.wrap (16777216*(t:Int))=16777216*(t:Int):=by rw[kF];omega
 have eM:aM.wrap ((n:Int)+256*(j:Int))=(n:Int)+256*(j:Int):=by rw[kF];omega
 have eQ:aM.wrap ((n:Int)+256*(j:Int)+65536*(o:Int))=(n:Int)+256*(j:Int)+65536*(o:Int):=by rw[kF];omega
 have eR:aM.wrap ((n:Int)+256*(j:Int)+65536*(o:Int)+16777216*(t:Int))=(n:Int)+256*(j:Int)+65536*(o:Int)+16777216*(t:Int):=by rw[kF];omega
 have u:X (s.size=m+8):=c5;have d7:s.size<=65536:=aa;have d4:12<=s.size:=aa;clear bV b1 W cO cq aH c6 c1 c5 aF d8 c2 c3 c4 d0 d1 d2 d3;go_quiet (fail);obtain⟨r,cv⟩:∃r:Nat,r=n+256*j+65536*o+16777216*t:=⟨_,rfl⟩;have cx:(n:Int)+256*(j:Int)+65536*(o:Int)+16777216*(t:Int)=(r:Int):=aa;rw[cx];have ao:X (sJ s m=r):=by show _=_;rw[cv];exact cl.o
 have fy:r<4294967296:=by have:=NV s m;rw[ao.o] at this;exact this
 have aQ:X (aD w<|cI w nq):=below_drewN (bN _ _) _;have T:X ((cI w nq).heap.size=U w.heap):=rfl;generalize cI w nq=G at*;clear bK aC bM bP cl eb ec ed eh eq es et eM eQ eR de df dg dk ej el em eo cv cx;clear eV eX eY eZ;by_cases d9:s.size-12<r
 .have W:decide ((s.size:Int)-12<(r:Int))=af:=by simp;omega
  have k:X (oa s [] 0 3):=A3 (λaI aK h=>by
   have A:=h.marks;have J:=u.o;rw[show s.size-8=m by omega,ao.o] at A;omega)
  go_wp2;go_ret2;exact⟨aQ.o,ai ⟨_,rfl,k.o⟩⟩
 .have W:decide ((s.size:Int)-12<(r:Int))=aj:=by simp;omega
  obtain⟨f,cW⟩:∃f,m=f+r:=⟨m-r,by have:=u.o;omega⟩;have bd:X (m=f+r):=cW;have fg:(s.size:Int)-8=(m:Int):=by have:=u.o;omega
  have fk:(m:Int)-(r:Int)=(f:Int):=by omega
  have fl:(f:Int)<=(m:Int):=by omega
  have fr:(m:Int)<=(s.size:Int):=by have:=u.o;omega
  have d5:4<=f:=by have:=u.o;omega
  have fH:m<=65536:=by have:=u.o;omega
  have al:X (Cut s (bytesOf<|fw s 4 f)<|bytesOf<|fw s f m):=by
   have J:=u.o;have:=TC d4 d7 b7.o a3.o (by rw[show s.size-8=m by omega,ao.o];omega);rw[show s.size-8=m by omega,ao.o,show m-r=f by omega] at this;exact this
  have dw:X ((fw s f m).size<=65536):=by show _<=_;rw[tN];omega
  have aU:X ((fw s 4 f).size=f-4):=by show _=_;have:=u.o;rw[tN];omega
  clear cW d9 b7 a3 ao;go_wp2_with fail;refine(YM (fw s f m) G dw.o).mono ?_;rintro fd eS ⟨bL,⟨e,a,fc,a8,fb,rfl,ad,p⟩|⟨v,rfl,c7⟩⟩;rotate_left
  .have k:=aA<|Uc al.o c7;have du:X (aD w eS):=aQ.o.trans (bL.mono<|by rw[T.o];exact aZ _);clear c7 bL;go_wp2;go_ret2;exact⟨du.o,ai ⟨_,rfl,k.o⟩⟩
  .have a2:=aA ad;have cf:=aA p;have e2:X (U w.heap=U G.heap):=bq T.o;have dy:X (∀b (h:b<I a),a[b].1.parts.length=I e):=λb h=>by
    have:=(ad.ok.e7 a[b].1<|jW.2 ⟨_,dm h,rfl⟩).len;rw[er] at this;exact this
   have dA:X (I a<=2000):=by
    show _<=_;have C:=ME (a.map bf) λj aC=>(ad.ok.e7 j aC).lo;have A:=ad.ok.rows;rw[er] at C;omega
   have fG:I e<=8:=by have:=ad.ok.pl.1.2.1;simpa using this
   have⟨aw,ar,cN⟩:=e9 p.an;rw[er] at cN;subst cN;have⟨bu,V,bb⟩:=e9 p.own;subst bb;clear ad bL p;go_upto_region 10 with fail;go_wp2_with fail
   go_loopw [8,9] (λbs R wr=>∃(b:Nat) (B:List (di×F)),R=n9 b/\b<=I a/\bs=z9 ((4+tot ((a.map bf).take b):Nat):Int)/\jg B=jg a/\PF G wr (ah aw (I e) ar) a8 (ah bu (I a) V) (e6<|a.map bf) (e.map bf) (e.map dD) B/\4+tot ((a.map bf).take b)<=f/\pJ s a B b 0) (λ_ R _=>I a-(bB R).toNat)
   exact⟨0,a,rfl,cH _,by simp[tot],rfl,cf.o,by simpa [tot] using d5,λn j _ _ h=>aa⟩;clear cf;obtain⟨b,B,rfl,fC,rfl,bD,p,cy,dc⟩:=hrel;have bo:X (pJ s a B b 0):=dc;clear dc;have a1:X (jg B=jg a):=bD;have dC:=aA<|DH bD;have q:=aA p;obtain⟨⟨bv,bx,a7,bz⟩,-⟩:=p.cells;clear bD p;have fD:=dA.o;by_cases L:b<I a
   .obtain⟨g,D⟩:∃g,4+tot ((a.map bf).take b)=g:=⟨_,rfl⟩;have bm:=aA D;rw[D] at cy;rw[D];have a0:=aA<|dy.o b L;clear D;go_upto_region 14 with fail;clear bv bx a7 bz;go_wp2_with fail
    go_loopw [8,10] (λbs R eU=>∃(d:Nat) (N:List (di×F)),R=n9 d/\d<=I e/\bs=z9 ((g+eJ (a[b].1.parts.take d):Nat):Int)/\jg N=jg a/\PF G eU (ah aw (I e) ar) a8 (ah bu (I a) V) (e6<|a.map bf) (e.map bf) (e.map dD) N/\g+eJ (a[b].1.parts.take d)<=f/\pJ s a N b d) (λ_ R _=>I e-(bB R).toNat)
    case atStart=>exact⟨0,B,rfl,cH _,by simp[eJ],a1.o,q.o,by simpa [eJ] using cy,bo.o⟩
    case round=>
     clear q a1 dC bo;obtain⟨d,N,rfl,fB,rfl,bF,p,cK,dd⟩:=hrel;have ck:X (pJ s a N b d):=dd;clear dd;have am:X (jg N=jg a):=bF;have b5:=aA<|DH bF;have q:=aA p;have⟨⟨bv,bx,a7,bz⟩,cn⟩:=p.cells;clear bF;by_cases c0:d<I e
     .have E:b<I N:=by rw[b5.o];exact L
      have b6:X (N[b].1.parts.length=I e):=by
       show _=_;have:=congrArg I<|HB am.o E L;rw[er,er,a0.o] at this;exact this
      have ab:d<N[b].1.parts.length:=by rw[b6.o];exact c0
      have bQ:d<a[b].1.parts.length:=by rw[a0.o];exact c0
      have ca:X (N[b].1.parts[d].size=a[b].1.parts[d].size):=NW am.o E L ab bQ;have dx:X (g+eJ (a[b].1.parts.take d)+a[b].1.parts[d].size<=4+tot (a.map bf)):=by
       show _<=_;have:=N9 (rs:=a.map bf) (k:=b) (i:=d) (by rw[er];exact L) (by simpa using bQ);simp only[oO] at this;have A:=bm.o;omega
      have dK:X (g+eJ (a[b].1.parts.take<|d+1)=g+eJ (a[b].1.parts.take d)+a[b].1.parts[d].size):=by
       show _=_;rw[NX bQ];omega
      have⟨Q,fa,x,b2,bb,bW,aH,y,ew,fO,fP⟩:=p.part E ab;rw[b5.o] at bb;cases bb;rw[bW,b6.o] at aH;have dp:=y 0 _ Y;have eA:=y 1 _ Y;have eB:=y 2 _ Y;have eC:=y 3 _ Y;have eE:=y 4 _ Y;have eF:=y 5 _ Y;have eG:=y 6 _ Y;have eK:=y 7 _ Y;have eL:=y 8 _ Y;have ch:X (N[b].1.parts[d].size<=65536\/True):=ai trivial;have dL:X (∀dl dq,(eO N[b].1.parts[d])[dl]? =K dq->ap wr ⟨x,d*9+dl,Z⟩=K dq):=y;have bh:X (N[b].2=aG x N[b].1.parts.length b2):=bW;generalize c8:N[b].1.parts[d]=c at*;have b8:X (N[b].1.parts[d]=c):=c8;generalize cA:g+eJ (a[b].1.parts.take d)=l at*;have dt:X (g+eJ (a[b].1.parts.take d)=l):=cA;simp only[tY] at dp;clear p y bW c8 cA cn;go_upto_region 18 with fail;obtain⟨S,c9⟩:∃S,f=l+S:=⟨f-l,aa⟩;have cd:X (f=l+S):=c9;have ft:(f:Int)-(l:Int)=(S:Int):=by omega
      clear c9;by_cases aF:S<c.size
      .have W:decide (S<c.size)=af:=by simpa using aF
       have k:X (oa s [] 0 3):=JQ al.o a2.o (by
        have C:=dx.o;have A:=ca.o;have J:=aU.o;have fv:=cd.o;omega)
       have ae:X (aD w wr):=aQ.o.trans (q.o.jZ.mono<|by rw[T.o];exact aZ _);go_wp2;go_ret2;exact⟨ae.o.alloc ae.o.size _,ai ⟨_,rfl,k.o⟩⟩
      .have W:decide (S<c.size)=aj:=by simpa using aF
       obtain⟨z,cu⟩:∃z,z=l+c.size:=⟨_,rfl⟩;have fx:(l:Int)+(c.size:Int)=(z:Int):=by omega
       have cc:X (z=l+c.size):=cu;have bi:X (z<=f):=by show _<=_;have:=cd.o;omega
       have e4:(l:Int)<=(z:Int):=by omega
       have e5:(z:Int)<=(s.size:Int):=by have C:=bi.o;have A:=bd.o;have J:=u.o;omega
       have e8:z<=65536:=by have C:=bi.o;have A:=bd.o;have J:=u.o;omega
       clear cu aF;go_upto_region 21 with fail;obtain⟨i,db⟩:∃i,fw s l z=i:=⟨_,rfl⟩;rw[db];have ba:aD wr (wr.alloc<|aq (cR<|eO ⟨c.size,c.bT,i⟩) 128):=(bN _ _).alloc (aZ _) _;have b0:pF (wr.alloc<|aq (cR<|eO ⟨c.size,c.bT,i⟩) 128) (U wr.heap) 0 (eO ⟨c.size,c.bT,i⟩):=Dp<|iI wr _;have bk:=aA<|q.o.below ba;have co:=(bA ba (p:=⟨U G.heap+1,2,Z⟩)<|bE q.o.file).trans a7;have cp:=(bA ba (p:=⟨Q,b*2+1,Z⟩) (q.o.own.lt Q Y).2).trans aH;have ci:X ((wr.alloc<|aq (cR<|eO ⟨c.size,c.bT,i⟩) 128).drew.there x (d*9) 9):=(bk.o.below (bN _ _).drew).there E ab bh.o;have dJ:X (U wr.heap≠x):=by show _≠_;omega
       have hx:wr.alloc (aq #[n9 c.size,ak c.bT.there,ak c.bT.least.null,z9 c.bT.least.n,ay c.bT.least.s,ak c.bT.most.null,z9 c.bT.most.n,ay c.bT.most.s,ay i] 128)=wr.alloc (aq (cR<|eO ⟨c.size,c.bT,i⟩) 128):=rfl;rw[hx];clear hx;generalize wr.alloc (aq (cR<|eO ⟨c.size,c.bT,i⟩) 128)=a6 at*;generalize U wr.heap=a9 at*;clear ba bv bx a7 bz dp eA eB eC eE eF eG eK eL aH ew q dL;refine Un.open_ (λH=>bl H (U G.heap+1) 2 (aG Q (I a) V)/\bl H Q (b*2+1) (aG x (I e) b2)/\pF H a9 0 (eO ⟨c.size,c.bT,i⟩)) 11 (λ_ _ _ _ _ h=>h) λfL=>?_;have cr:(λH=>bl H (U G.heap+1) 2 (aG Q (I a) V)/\bl H Q (b*2+1) (ah (K ⟨x,0,Z⟩) (I e) b2)/\pF H a9 0 (eO ⟨c.size,c.bT,i⟩)) a6.drew:=⟨co,cp,b0⟩;refine Un.pk 0 ?_;try simp only[bw,l6,kG,jK,ct,cj,b9]
       refine Un.pk 1 ?_;try simp only[bw,l6,kG,jK,ct,cj,b9]
       refine Un.pk 2 ?_;try simp only[bw,l6,kG,jK,ct,cj,b9]
       refine Un.ld [11] 3 ?_;try simp only[bw,l6,kG,jK,ct,cj,b9]
       refine Un.pk 4 ?_;try simp only[bw,l6,kG,jK,ct,cj,b9]
       refine Un.pk 5 ?_;try simp only[bw,l6,kG,jK,ct,cj,b9]
       refine Un.pk 6 ?_;try simp only[bw,l6,kG,jK,ct,cj,b9]
       refine Un.ld [11] 7 ?_;try simp only[bw,l6,kG,jK,ct,cj,b9]
       refine Un.pk 8 ?_;try simp only[bw,l6,kG,jK,ct,cj,b9]
       refine Un.take (i:=9) (v:=bZ<|cR<|eO ⟨c.size,c.bT,i⟩) Y aR aR aR aR aR aR (λ_ _ _ h=>h) ?y9 cr ?_
       case y9=>
        refine yieldsIf_load_mid ?_ 128 (.tmp 11) ?_ a9 0 ?_ (eO ⟨c.size,c.bT,i⟩) _ (λH h=>h.2.2) aE.underlying128 Y ?_
        .rfl
        .rfl
        .kernel_rfl
        .kernel_rfl
       try simp only[bw,l6,kG,jK,ct,cj,b9]
       refine Un.pk 10 ?_;try simp only[bw,l6,kG,jK,ct,cj,b9]
       refine Un.on 11 λdT cs=>?_;refine wp_store_mid 128 (.tmp 132) (.tmp 131) Y x (d*9) (cR<|eO ⟨c.size,c.bT,i⟩) ?hx ?hy ci.o aR Zu ?_
       case hx=>kernel_rfl
       case hy=>kernel_rfl
       refine cs.o _ _ (λh=>absurd h az) ?_;clear cs dT;try simp only[bw,l6,kG,jK,ct,cj,b9]
       refine Un.done (by kernel_rfl) ?_ _;try simp only[bw,l6,kG,jK,ct,cj,b9]
       have bH:=(bk.o.below (bN _ _).drew).text E ab bh.o i;rw[b8.o] at bH;have dO:X (PF G (m5 a6.drew x (d*9)<|eO ⟨c.size,c.bT,i⟩) (ah aw (I e) ar) a8 (ah (K ⟨Q,0,Z⟩) (I a) V) (e6<|a.map bf) (e.map bf) (e.map dD)<|sO N b d i):=bH;have fu:ap (m5 a6.drew x (d*9)<|eO ⟨c.size,c.bT,i⟩) ⟨a9,0,Z⟩=K (n9 c.size):=by
        rw[World.cell?_setCells_out x _ _ _ _ λh=>absurd h dJ.o];have:=b0 0 _ Y;exact this
       have dQ:X (pJ s a (sO N b d i) b<|d+1):=by
        show pJ _ _ _ _ _;rw[<-db];refine ck.o.step E ab ?_ (by rw[b8.o];exact cc.o);unfold Ab;rw[ep,dV L];show _+eJ (a[b].1.parts.take d)=l;rw[bm.o];exact dt.o
       have ch:X (jg (sO N b d i)=jg a):=(acv E ab).trans am.o;have b3:X (g+eJ (a[b].1.parts.take<|d+1)=z):=by show _=_;rw[dK.o,<-ca.o,cc.o]
       try simp only[List.toList_toArray]
       generalize m5 a6.drew x (d*9) (eO ⟨c.size,c.bT,i⟩)=e3 at*;clear bH bk cr co cp b0 ci bh;go_wp2
       go_roundw
       case rel=>exact⟨d+1,sO N b d i,by go_num,aa,by rw[b3.o],ch.o,dO.o,by rw[b3.o];exact bi.o,dQ.o⟩
       case measure=>simp[bB];omega
     .have cZ:d=I e:=by omega
      have b4:X (g+eJ (a[b].1.parts.take d)=4+tot ((a.map bf).take<|b+1)):=by
       show _=_;rw[cZ,<-a0.o,jq,Oa<|by rw[er];exact L,oO];have:=bm.o;omega
      have dr:X (g+eJ (a[b].1.parts.take d)<=f):=cK;obtain⟨l,bC⟩:∃l,g+eJ (a[b].1.parts.take d)=l:=⟨_,rfl⟩;have ds:X (g+eJ (a[b].1.parts.take d)=l):=bC;rw[bC];have dS:X (pJ s a N (b+1) 0):=ck.o.next λE=>by
       have:=congrArg I<|HB am.o E L;rw[er,er,a0.o] at this;rw[this];exact cZ
      clear p cn bC cK;go_wp2
      go_roundw
      case rel=>exact⟨b+1,N,by go_num,by omega,by rw[<-b4.o,ds.o],am.o,q.o,by rw[<-b4.o];exact dr.o,dS.o⟩
      case measure=>simp[bB];omega
   have d6:b=I a:=aa;have a5:X (4+tot ((a.map bf).take b)=4+tot (a.map bf)):=by
    show _=_;rw[iF<|by rw[er];omega]
   have ae:X (aD w wr):=aQ.o.trans (q.o.jZ.mono<|by rw[T.o];exact aZ _);obtain⟨g,D⟩:∃g,4+tot ((a.map bf).take b)=g:=⟨_,rfl⟩;have a4:X (4+tot ((a.map bf).take b)=g):=D;rw[D];have e0:X (aT wr (U w.heap) 63 2 (ah aw (I e) ar) (I<|e.map bf)<|k4<|e.map bf):=j5 q.o.an (by have:=T.o;omega);have e1:X _:=q.o.file;by_cases da:g=f
   .have k:X (oa s (e.map bf) (e6<|a.map bf) 0):=Ud al.o a2.o (by
     have C:=a5.o;have J:=a4.o;have A:=aU.o;omega)
    subst da;clear D;have dE:=DH a1.o;have dP:X (B.map bf=(kJ (fw s 4 g) 0<|a.map bf).map pe):=acI a1.o (by rw[<-d6];exact bo.o) (by have C:=a5.o;have J:=a4.o;omega) (by have C:=bd.o;have A:=u.o;omega);have be:=Ub al.o a2.o (by
     have C:=a5.o;have J:=a4.o;have A:=aU.o;omega)
    have bj:gW (kJ (fw s 4 g) 0<|a.map bf)=e6 (a.map bf):=be.2;have a3:X (PF G wr (ah aw (I e) ar) a8 (ah bu (I a) V) (gW<|kJ (fw s 4 g) 0<|a.map bf) (e.map bf) (e.map dD) B):=by
     show PF _ _ _ _ _ _ _ _ _;rw[bj];exact q.o
    have dz:=aA be.1;have dv:X (oa s (e.map bf) (gW<|kJ (fw s 4 g) 0<|a.map bf) 0):=by
     show oa _ _ _ _;rw[bj];exact k.o
    clear be bj dE;go_wp2;go_ret2;exact⟨ae.o,av ⟨_,_,_,_,_,_,_,rfl,dz.o,T.o,a3.o,dP.o,dv.o⟩⟩
   .have k:X (oa s [] 0 3):=JQ al.o a2.o (by
     have C:=a5.o;have J:=a4.o;have A:=aU.o;omega)
    have fJ:((g:Int)==(f:Int))=aj:=bS;have fK:decide (g=f)=aj:=by simpa using da
    clear D;go_wp2;go_ret2;exact⟨ae.o,ai ⟨_,rfl,k.o⟩⟩
def aaa(e:List bH)(n o:Option aL)(p r q s u t:Nat)(g:ag)(x:I e<=aV)(c:dJ g n p r e)(d:dJ g o s u e):
 bc 18 #[ah n (I e) q,ah o (I e) t] g λv y=>v=aN (ak af)/\∃f,y=cI g f:=by
 unfold aV at x;have i:=aA c;have j:=aA d;go_enter aE.func18,Tryz.ntmps18;go_wp2_with fail
 go_loopw [5] (λl wr=>∃a:Nat,a<=I e/\l=z9 a/\∃f,wr=cI g f) (λl _=>I e-bO (bB l))
 exact⟨0,cH _,rfl,0,rfl⟩;obtain⟨a,z,rfl,f,h⟩:=hrel;have m:=aA h;by_cases b:a<I e
 .have k:aD g wr:=by rw[h];exact below_drewN (bN _ _) f
  have c:=i.o.below k;have d:=j.o.below k;obtain rfl:=c.addr aa;obtain rfl:=d.addr aa;have A:=c.c0 a b;have B:=c.c1 a b;have C:=c.c2 a b;have D:=c.c3 a b;have E:=c.c4 a b;have F:=c.c5 a b;have G:=c.c6 a b;have H:=d.c0 a b;have J:=d.c1 a b;have K:=d.c2 a b;have L:=d.c3 a b;have M:=d.c4 a b;have N:=d.c5 a b;have O:=d.c6 a b;have w:(a:Int)<(I e:Int):=aa;clear c d k i j h;generalize e[a]=P at*;go_wp2_with fail;go_quiet (fail);go_wp2
  go_roundw
  exact⟨a+1,aa,by go_num,f+nq,by rw[m.o];exact World.drewN_drewN _ _ _⟩;simp[bB];omega
 have w:¬(a:Int)<(I e:Int):=aa;clear i j h;go_wp2;go_ret;exact⟨rfl,f,m.o⟩
def yH:bH:=⟨0,zeroV,zeroV⟩
def Ep:bH:=⟨-77,zeroV,zeroV⟩
def mM (b:List bH)(a:Nat):List bH:=b++(dH a Ep++dH (8-a) yH)
def FP(a:List bH)(b:Nat)(h:b<=8):I (mM a b)=I a+8:=by unfold mM;simp;omega
def WG(b:List bH)(a:Nat)(c:a<8):gh (mM b a) (I b+a) Ep=mM b (a+1):=by
 unfold mM;rw[List.set_append_right _ _<|by omega,show I b+a-I b=a by omega,List.set_append_right _ _<|by simp];simp only[List.length_replicate,Nat.sub_self];rw[show 8-a=(8-(a+1))+1 by omega,List.replicate_succ,cj,List.replicate_succ' (n:=a)];simp
def Lb{a b:List bH}:eZ (a++b)=eZ a++eZ b:=by simp[eZ]
def Xi(c:List bH):∀v∈eZ c,m3 v=af:=by
 intro v a;unfold eZ at a;have⟨d,_,b⟩:=xy.1 a;simp[tt] at b;rcases b with rfl|rfl|rfl|rfl|rfl|rfl|rfl<;>rfl
def Xj{b:List bH}:∀(a:Nat) (v:bH),a<I b->gh (gh (gh (gh (gh (gh (gh (eZ b) (a*7)<|z9 v.col) (a*7+1)<|ak v.low.null) (a*7+2)<|z9 v.low.n) (a*7+3)<|ay v.low.s) (a*7+4)<|ak v.high.null) (a*7+5)<|z9 v.high.n) (a*7+6) (ay v.high.s)=eZ (gh b a v):=by
 have f:∀d c,eZ (d::c)=tt d++eZ c:=λd c=>by simp[eZ]
 induction b with
 |nil=>intro a v e;simp at e
 |cons d c g=>
  intro a v e;cases a with
  |zero=>simp[f,tt]
  |succ a=>
   have:=g a v (by simpa using e);rw[b9,f,f,<-this,show(a+1)*7=a*7+1+1+1+1+1+1+1 by omega];simp[tt,b9]
def W0:dY (m7 (jn<|bZ #[z9 0,ak aj,z9 0,ay ⟨#[]⟩,ak aj,z9 0,ay ⟨#[]⟩])<|n*7)=eZ (dH n yH):=by
 apply List.ext_getElem?;intro c;by_cases f:c<n*7
 .obtain⟨b,a,g,h,rfl⟩:∃b a,b<n/\a<7/\c=b*7+a:=⟨c/7,c%7,by omega,by omega,by omega⟩;have d:=λv=>yb (dH n yH) b (by simpa using g) a v;rw[List.getElem_replicate] at d;have e:(b*7+a)%7=a:=by omega
  rcases(by omega:a=0\/a=1\/a=2\/a=3\/a=4\/a=5\/a=6) with rfl|rfl|rfl|rfl|rfl|rfl|rfl
  all_goals
   rw[d _ Y];simp[m7,jn,yH,zeroV,f,e,show b*7<n*7 by omega]
 rw[uS<|by simp[size_madeCells];omega,uS<|by rw[uk];simp;omega]
def Xt(h:w.heap[m]? =K (aq (cR S) 61 (0,0)))(a:I S=k*7)(b:n<=m)(c:k<=aV):
 aT w n 61 7 (aG m k k) k S:=
 ⟨a,ai ⟨m,k,cR S,rfl,b,h,aZ _,c,by simp[a],by simp;exact iF aa⟩⟩
def Xg(h:aT w n 61 7 (aG m k k) k S):w.heap[m]? =K (aq (cR S) 61 (0,0)):=by
 rcases h.2 with⟨a,_⟩|⟨g,f,b,a,_,c,_,_,d,e⟩;simp at a;simp only[j9,iG,nM,and_true,true_and] at a;obtain⟨rfl,rfl⟩:=a;rw[c];have:dY b=S:=by rw[<-e];exact bq (iF<|by simp[d])
 rw[<-this]
def Xo(a:List bH)(o:dJ w O n m a)(h:aD w u)(y:U w.heap<=k)
 (g:u.heap[k]? =K (aq (cR<|eZ<|dH (I a+8) yH) 61 (0,0))):
 ∃i,(sV #[23,23] 3 #[aG k (I a+8)<|I a+8,ah O (I a) cap]).run (aH ax) u=cm (n9<|I a) i/\
  X (i.heap[k]? =K (aq (cR<|eZ<|mM a 0) 61 (0,0)))/\aD w i:=by
 have⟨B,j,E,A,G⟩:=eW aE.Fq;have e:=o.below h;by_cases t:0<I a
 .obtain rfl:=o.addr t;have z:∀f v,(eZ a)[f]? =K v->ap u ((⟨n,m,Z⟩:aL).add f)=K v:=by
   intro f v r;have D:f<I a*7:=by have:=(fF.1 r).1;rwa [uk] at this
   obtain⟨c,b,d,C,rfl⟩:∃c b,c<I a/\b<7/\f=c*7+b:=⟨f/7,f%7,aa,aa,aa⟩;rw[kQ];have s:=λv=>yb a c d b v;rcases(aa:b=0\/b=1\/b=2\/b=3\/b=4\/b=5\/b=6) with rfl|rfl|rfl|rfl|rfl|rfl|rfl
   all_goals rw[<-r,s _ Y,<-gH]
   exact e.c0 c d;exact e.c1 c d;exact e.c2 c d;exact e.c3 c d;exact e.c4 c d;exact e.c5 c d;exact e.c6 c d
  have l:Nat.min (I a) (I a+8)=I a:=xA aa;have p:=MO (P:=(aH ax)) u 23 23 3 61 k 0 (I a+8) (I a+8) ⟨n,m,Z⟩ (I a) cap 7 61 (eZ a) B aE.underlying23 j A g (by rw[uk,l]) z (by simp[uk];omega)<|Xi a;rw[l] at p;refine⟨_,p,?_,below_setRow h y _⟩;show _=_;have q:(eZ<|dH (I a+8) yH).take 0++eZ a++(eZ<|dH (I a+8) yH).drop (0+I (eZ a))=eZ (mM a 0):=by
   rw[List.take_zero,s6,fq,<-List.replicate_append_replicate,Lb,List.drop_append_of_le_length<|by simp[uk],za<|by simp[uk],s6];unfold mM;rw[Lb];simp
  have:=setRow_heap u k _ (cR<|eZ<|mM a 0) 61 _ g;rw[<-q];rw[<-q] at this;simpa using this
 have x:a=[]:=s4 aa;subst x;exact⟨u,MP (P:=(aH ax)) aE.underlying23 j<|by simp,by show _=_;simpa [mM] using g,h⟩
def acn{b:List bH}(h:aT w n 61 7 (aG m k i) k (eZ b))(a:Nat)(v:bH)(c:a<I b):
 aT (aY (aY (aY (aY (aY (aY (aY w ⟨m,a*7,Z⟩<|z9 v.col) ⟨m,a*7+1,Z⟩<|ak v.low.null) ⟨m,a*7+2,Z⟩<|z9 v.low.n) ⟨m,a*7+3,Z⟩<|ay v.low.s) ⟨m,a*7+4,Z⟩<|ak v.high.null) ⟨m,a*7+5,Z⟩<|z9 v.high.n) ⟨m,a*7+6,Z⟩<|ay v.high.s) n 61 7 (aG m k i) k (eZ<|gh b a v):=by
 rw[<-Xj a v c];exact(((((((h.stored (a*7)<|z9 v.col).1.stored (a*7+1)<|ak v.low.null).1.stored (a*7+2)<|z9 v.low.n).1.stored (a*7+3)<|ay v.low.s).1.stored (a*7+4)<|ak v.high.null).1.stored (a*7+5)<|z9 v.high.n).1.stored (a*7+6)<|ay v.high.s).1
def KZ(a:List bH)(k:Option aL)(v O l:Nat)(c:ag)(az:I a<=1000)(E:dJ c k v O a):
 bc 12 #[ah k (I a) l] c λw r=>∃m,w=aN (aG m (I a+8)<|I a+8)/\
  aT r (U c.heap) 61 7 (aG m (I a+8)<|I a+8) (I a+8) (eZ<|mM a 8)/\aD c r:=by
 have⟨N,B,J,L,M⟩:=eW aE.Fq;go_enter aE.func12,Tryz.ntmps12;go_wp2_with (first
  |(at_make;refine wpList_make_full _ Y _ _ 23 Y (U c.heap) 61 N _ 7 aE.underlying23 B J L aM aM _ _ (I a+8) Y Y (by first|omega|(push_cast;omega)) (by first|omega|(push_cast;omega)) (jC M) fW (aZ _) ?_;intro Q o A;have y:aD c Q:=jy (bN _ _) A (aZ _) aI;rw[W0] at o;have s:=aA<|Xg o))
 have⟨R,G,t,z⟩:=Xo a (cap:=l) E y (aZ _) s.o;rw[G];go_wp2_with fail;have D:aT R (U c.heap) 61 7 (aG (U c.heap) (I a+8)<|I a+8) (I a+8) (eZ<|mM a 0):=
  Xt t.o (by rw[uk,FP a 0<|by omega]) (aZ _) fW
 go_loopw [4] (λh wr=>∃(d b:Nat),d<=8/\b=I a+d/\h=n9 b/\
  aT wr (U c.heap) 61 7 (aG (U c.heap) (I a+8)<|I a+8) (I a+8) (eZ<|mM a d)/\aD c wr) (λh _=>I a+8-bO (bB h))
 exact⟨0,_,aa,rfl,rfl,D,z⟩;obtain⟨d,b,F,i,rfl,g,n⟩:=hrel;have u:=aA i;by_cases x:d<8;have aC:b<I a+8:=aa;have C:=FP a d F;have e:∀j,j<(I a+8)*7->∃P,ap wr ⟨U c.heap,j,Z⟩=K P:=λj p=>by
  rw[s0 g j p];exact⟨_,dV<|by rw[uk,C];exact p⟩
 have⟨u0,S⟩:=e (b*7) aa;have⟨u1,T⟩:=e (b*7+1) aa;have⟨u2,V⟩:=e (b*7+2) aa;have⟨u3,W⟩:=e (b*7+3) aa;have⟨u4,ab⟩:=e (b*7+4) aa;have⟨u5,ad⟩:=e (b*7+5) aa;have⟨u6,ae⟩:=e (b*7+6) aa;have f:=λh=>vV g<|b*7+h;have X:=vV g<|b*7;have al:=f 1;have am:=f 2;have an:=f 3;have ao:=f 4;have ar:=f 5;have aw:=f 6;have q:=acn g b Ep aa;rw[i,WG a d x,<-i] at q;clear g i e f;go_wp2;refine⟨⟨d+1,b+1,aa,by have:=u.o;omega,by go_num,q,vU (vU (vU (vU (vU (vU (vU n (aZ _) _) (aZ _) _) (aZ _) _) (aZ _) _) (aZ _) _) (aZ _) _) (aZ _) _⟩,by simp[bB];omega⟩;have H:d=8:=aa;subst H;go_wp2;go_ret;exact⟨_,rfl,cN g,n⟩
end Ec
namespace Cc
open Go Go.Conc
open Go.RowKit (Below)
open Ec (aC bM bH dJ mD fP qv)
def pG (c d:ag)(b:Nat):Prop:=∀a,d.heap[b]? =K a->cZ (aH ax) a->c.heap[b]? =K a
abbrev cK:=Nat×List aC
structure Cons(P0 P:bn)(Post:F->ag->Prop)(l:Nat)(afa:ag->Prop)(J:List cK->(Nat->Prop)->ag->Prop)(Go:List cK->Bool):Prop where
 rJ:∀pre M W W',J pre M W->(∀b,M b->W'.heap[b]? =W.heap[b]?)->U W.heap<=U W'.heap->J pre M W'
 bound:∀pre M W,J pre M W->∀b,M b->b<U W.heap
 round:∀pre M W (nm:Nat) (row:List aC) v,J pre M W->afa W->Go pre=af->I pre<2000->nm<=1000000->I row<=1000->aT W 0 59 3 v (I row) (bM row)->(∀g,bI v=K g->¬M g)->Eb P0 P Post l #[n9 nm,v] W λu W'=>u=ak (Go<|pre++[(nm,row)])/\∃M',J (pre++[(nm,row)]) M' W'/\(∀b,b<U W.heap->¬M b->K b≠bI v->W'.heap[b]? =W.heap[b]?)/\∀b,M' b->M b\/K b=bI v\/U W.heap<=b
def feed (Go:List cK->Bool):List cK->List cK->List cK×Bool
 |pre,[]=>(pre,af)
 |pre,a::b=>if Go (pre++[a]) then feed Go (pre++[a]) b else(pre++[a],aj)
def jO (mh:Nat->Bool)(a:Nat->List aC)(first:Nat):Nat->Nat->List cK
 |p,0=>[]
 |p,b+1=>if mh p then(first+p,a p)::jO mh a first (p+1) b else jO mh a first (p+1) b
structure xE(W:ag)(an:List Int)(rs:List bH)(co:Option aL)(cb bC:Nat)(ro:Option aL)(rb bL:Nat)(lb m N:Nat)(val:Int->Nat->aC):Prop where
 ca:0<I an->co=K ⟨cb,bC,Z⟩
 cl:0<I an->cb<U W.heap
 cc:∀j,j<I an->ap W ⟨cb,bC+j,Z⟩=K (z9<|aW an j 0)
 nr:dJ W ro rb bL rs
 lc:∀p,p<N->∀k,(k∈an\/∃r∈rs,r.col=k)->mD W lb m k p (val k p)
structure Kept(w0 w:ag)(M0 M own:Nat->Prop):Prop where
 keep:∀b,b<U w0.heap->¬M0 b->own b/\w.heap[b]? =w0.heap[b]?
 ext:∀b,M b->M0 b\/U w0.heap<=b
 oY:∀b,M b->own b
 size:U w0.heap<=U w.heap
 tape:dG w=dG w0
 os:w.os=w0.os
 output:ga w=ga w0
def Kept.rel{f e own own':Nat->Prop}(h:Kept w u f e own)(c:RelB own u W)(g:∀a,own a->own' a):Kept w W f e own':=
 ⟨λa b d=>⟨g a (h.keep a b d).1,aB (c.at_ a (h.keep a b d).1) (h.keep a b d).2⟩,h.ext,λa b=>g a<|h.oY a b,dW h.size c.size,aB c.tape h.tape,aB c.os h.os,aB c.output h.output⟩
def tn (fn:cF):cQ:=match fn.body with
 |some (aS _<|aS (aS _<|fT _<|.loop a) _)=>a
 |_=>ey
def zP (fn:cF):cQ:=match fn.body with
 |some (aS _<|aS _ a)=>a
 |_=>ey
structure D1(J:List cK->(Nat->Prop)->ag->Prop)(w0 w:ag)(M0 M own:Nat->Prop)(q:Array F)(lists:F)(l first N p qb:Nat)(pre:List cK)(a:bt):Prop where
 kn:Knows a 33 [(13,n9 p),(12,n9 N),(5,(aK qb)),(4,.func (gP l) #[] #[]),(2,n9 first),(1,lists)]
 df:bU a=[]
 j:J pre M w
 kept:Kept w0 w M0 M own
 bd:∀b,own b->b<U w.heap
 oq:own qb
 nq:¬M qb
 lq:U w0.heap<=qb
 hq:w.heap[qb]? =K (aq q 115 (0,0))
def ad7:(Tryz.f118.name == "runtime.NumGoroutine")=aj:=aR
def aeb:(Tryz.f119.name == "runtime.NumGoroutine")=aj:=aR
def Ag:(ax.info? 115).map (·.size)=K 6:=aR
def Ct (fn:cF):Array cC:=match tn fn with
 |aS _ (aS _<|aS (fT _<|aS _<|aS (iB _ a _) _) _)=>a
 |_=> #[]
def xY (fn:cF):List ez:=match tn fn with
 |aS _ (aS _<|aS (fT _<|aS _<|aS _ a) b)=>[bJ a,fh 1,bJ b,gx<|tn fn,fh 0,bJ<|zP fn]
 |_=>[]
def Uz:dI (xY j8) (x5<|aH ax)=af:=aR
def UA:x5 (aH ax) (bY (Ct j8) [])=af:=aR
def Fg(a:bU Q=[]):eS (aH ax) ((base 79).at Q<|bY (Ct j8) l::xY j8) []:=
 gT Y a (by rw[xw,Uz,Bool.and_true];exact UA)
open Ec (K0 My)
section
variable{O:F->ag->Prop}{J:List cK->(Nat->Prop)->ag->Prop}{Go:List cK->Bool}{S w:ag}{q M own:Nat->Prop}{l first N p Q:Nat}{pre:List cK}{a:bt}{an:List Int}{H:List bH}{T:Option aL}{cb bC bF:Nat}{ro:Option aL}{rb bL bD f m mc:Nat}{val:Int->Nat->aC}{A B L:F}{sk:Bool}{c:aO}
def Kept.same(h:Kept S w q M own)(j:∀b d,own b->w.heap[b]? =K d->cZ (aH ax) d->u.heap[b]? =K d)(n:U w.heap<=U u.heap):(∀b,b<U S.heap->¬q b->pG u S b)/\U S.heap<=U u.heap:=
 ⟨λb e g d k i=>j b d (h.keep b e g).1 ((h.keep b e g).2.trans k) i,dW h.size n⟩
def YJ(s:Un u W)(h:aT u n Qd k v i qN):aT W n Qd k v i qN:=by
 obtain⟨b,h|⟨g,d,e,rfl,j,o,r⟩⟩:=h;exact⟨b,av h⟩;exact⟨b,ai ⟨g,d,e,rfl,j,s.row.1 o,r⟩⟩
def YH(h:aT u n Qd k v i qN)(x:j<=n)(t:∀b,bI v=K b->n<=b->b<U u.heap->W.heap[b]? =u.heap[b]?):aT W j Qd k v i qN:=by
 obtain⟨g,h|⟨b,o,r,rfl,d,e,s⟩⟩:=h;exact⟨g,av h⟩;exact⟨g,ai ⟨b,o,r,rfl,dW x d,aB (t b Y d (dn.1 e).1) e,s⟩⟩
def LK(h:aT u n Qd k v i qN)(b:bI v=K j):n<=j/\j<U u.heap:=by
 obtain⟨t,⟨rfl,_⟩|⟨r,g,o,rfl,d,e,s⟩⟩:=h;cases b;cases b;exact⟨d,(dn.1 e).1⟩
def B1{a:bt}(b:bp a Qq=x)(d:bp a Qr=v): #[Qq,Qr].map (bp a)=#[x,v]:=by simp[b,d]
def Eh{a:bt}{b d e:eg}(g:bp a b=x)(h:bp a d=v)(i:bp a e=y): #[b,d,e].map (bp a)=#[x,v,y]:=by simp[g,h,i]
def UB{a0:ag->Prop}(V:Cons (aH ax) ax O l a0 J Go)(bj:Go pre=af)(bi:∀g,(∀d,d<U S.heap->¬q d->g.heap[d]? =S.heap[d]?)->U S.heap<=U g.heap->a0 g)(hF:∀g,(∀d,d<U S.heap->¬q d->pG g S d)->U S.heap<=U g.heap->xE g an H T cb bC ro rb bL f m N val)(a8:p<N)(br:I pre<2000)(b1:first+N<=1000000)(a2:I an<=1000)(bK:I H<=aV)
 (b:Knows a 33 [(11,n9 p),(13,n9 p),(12,n9 N),(5,(aK Q)),(4,.func (gP l) #[] #[]),(2,n9 first),(1,aG f m mc)]) (Z:bU a=[]) (aC:J pre M w) (ao:Kept S w q M own) (bm:∀d,own d->d<U w.heap) (aD:own Q) (a7:¬M Q) (b3:U S.heap<=Q) (a9:w.heap[Q]? =K (aq #[A,B,L,ah T (I an) bF,ah ro (I H) bD,ak sk] 115 (0,0)))
 (bv:∀u r C,(¬∀o (h:o<I H),fP (val H[o].col p) H[o]=af)->Knows C 33 [(31,ak aj),(13,n9 p),(12,n9 N),(5,(aK Q)),(4,.func (gP l) #[] #[]),(2,n9 first),(1,aG f m mc)]->bU C=[]->J pre M r->Kept S r q M u->(∀d,u d->d<U r.heap)->u Q->r.heap[Q]? =K (aq #[A,B,L,ah T (I an) bF,ah ro (I H) bD,ak sk] 115 (0,0))->Xe (aH ax) ax O u ((base 79).at C (xY j8)) cs r)
 (bT:∀u x r C,(∀o (h:o<I H),fP (val H[o].col p) H[o]=af)->Knows C 33 [(31,ak (!Go (pre++[(first+p,an.map λi=>val i p)]))),(13,n9 p),(12,n9 N),(5,(aK Q)),(4,.func (gP l) #[] #[]),(2,n9 first),(1,aG f m mc)]->bU C=[]->J (pre++[(first+p,an.map λi=>val i p)]) x r->Kept S r q x u->(∀d,u d->d<U r.heap)->u Q->¬x Q->r.heap[Q]? =K (aq #[A,B,L,ah T (I an) bF,ah ro (I H) bD,ak sk] 115 (0,0))->Xe (aH ax) ax O u ((base 79).at C (xY j8)) cs r):
 Xe (aH ax) ax O own ((base 79).at a (bJ (iB 4 (Ct j8) aj)::xY j8)) cs w:=by
 have e:=me (aH ax) ax O;have ba:∀g:ag,cq g Q #[A,B,L,ah T (I an) bF,ah ro (I H) bD,ak sk] 115->pF g Q 0 [A,B,L,ah T (I an) bF,ah ro (I H) bD,ak sk]:=λg X b5 v aC=>by
  unfold ap;simp only[X];rw[fq];simpa using aC
 refine dP e [0,1,2,3,4,5,6,7,8,9,10,11,12,13,14,15] Y (nU e b Y (qv A B L (ah T (I an) bF) (ah ro (I H) bD) sk) (oz (cs:=[A,B,L,ah T (I an) bF,ah ro (I H) bD,ak sk]) Y (b.of Y) vS Y Ag (ai aD) (ba w a9)) λb=>?_);refine eL e b λb=>?_;refine eL e b λb=>DW (R:=λg t y=>∃D,t=aN (ak D)/\(D=af↔∀o (h:o<I H),fP (val H[o].col p) H[o]=af)) fX Y Y Y Y (Eh (b.of Y) (b.of Y) (b.of Y)) Tryz.func118 ad7 Y (bq (vw Y Y Y)) (Fg (by simp only[put_defers];exact Z)) (λg X aI=>?_) λv z g y X aI bW aR b2 hrel=>?_;have E:=hF g (ao.same X aI).1 (ao.same X aI).2;refine bG (K0 H (λi=>val i p) p f m mc A B L (ah T (I an) bF) ro rb bL bD sk g bK E.nr (λbc bP=>E.lc p a8 bc.col (ai ⟨bc,bP,rfl⟩))) λt y h=>?_;obtain⟨D,rfl,W,F⟩:=h;exact⟨F,_,rfl,D,rfl,W⟩;have⟨D,bl,a4⟩:=aR;cases bl;have P:=ao.rel (own':=grown own (U g.heap) (U z.heap)) hrel (λd h=>av h);have a5:=V.rJ _ _ _ z aC (λd j=>hrel.at_ d (ao.oY d j)) hrel.size;have aF:=aB (hrel.at_ Q aD) a9;have aA:∀d,grown own (U g.heap) (U z.heap) d->d<U z.heap:=λd j=>eD j (λh=>cL (bm d h) hrel.size) (λh=>h.2);have ab:grown own (U g.heap) (U z.heap) Q:=av aD;replace b:=b.put (d:=19) az (ak D);generalize grown own (U g.heap) (U z.heap)=bb at*;refine eL e b λb=>?_;cases D with
 |false=>
  refine pK e b λb=>?_;refine pK e b λb=>?_;refine pK e b λb=>?_;refine pK e b λb=>?_;refine pK e b λb=>?_;refine pK e b λb=>?_;refine pK e b λb=>?_;refine pK e b λb=>?_;refine pK e b λb=>?_;refine pK e b λb=>eF e b Y (ak aj) (Ga Y (b.of Y) Y) λb=>dr e (bv bb z _ (λh=>by have:=a4.2 h;cases this) ((((((b.nil.cons (b.slot 1 _ rfl)).cons (b.slot 2 _ rfl)).cons (b.slot 4 _ rfl)).cons (b.slot 5 _ rfl)).cons (b.slot 12 _ rfl)).cons (b.slot 13 _ rfl) |>.cons (b.slot 31 _ rfl)) (by simp only[put_defers];exact Z) a5 P aA ab aF)
 |true=>
  have bs:=a4.1 Y;refine tf e az Y (b.want (d:=20) (want:=af) (b:=af) Y Y Y az) (iw Y (b.of Y)) ?_;replace b:=b.put (d:=21) az (.func (gP l) #[] #[]);refine tf e az Y (b.want (d:=20) (want:=af) (b:=af) Y Y Y az) (iw Y (b.of Y)) ?_;replace b:=b.put (d:=22) az (n9 first);refine tf e az Y (b.want (d:=20) (want:=af) (b:=af) Y Y Y az) (iw Y (b.of Y)) ?_;replace b:=b.put (d:=23) az (n9 p);refine tf e az Y (b.want (d:=20) (want:=af) (b:=af) Y Y Y az) (uo Y (b.of Y) (b.of Y) aa) ?_;replace b:=b.put (d:=24) az (z9 ((first+p:Nat):Int));refine vf e az Y (b.want (d:=20) (want:=af) (b:=af) Y Y Y az) (oz (cs:=[A,B,L,ah T (I an) bF,ah ro (I H) bD,ak sk]) Y (b.of Y) vS Y Ag (ai ab) (ba z aF)) ?_;replace b:=b.put (d:=25) az (qv A B L (ah T (I an) bF) (ah ro (I H) bD) sk);refine tf e az Y (b.want (d:=20) (want:=af) (b:=af) Y Y Y az) (iw Y (b.of Y)) ?_;replace b:=b.put (d:=26) az (aG f m mc);refine tf e az Y (b.want (d:=20) (want:=af) (b:=af) Y Y Y az) (iw Y (b.of Y)) ?_;replace b:=b.put (d:=27) az (n9 p);refine DW (R:=λg t y=>∃v,t=aN v/\aT y (U g.heap) 59 3 v (I an) (bM (an.map λi=>val i p))) fX Y Y (b.want (d:=20) (want:=af) (b:=af) Y Y Y az) Y (Eh (b.of Y) (b.of Y) (b.of Y)) Tryz.func119 aeb Y (bq (vw Y Y Y)) (Fg (by simp only[put_defers];exact Z)) (λal aw aQ=>?_) λv be al bV aw aQ b0 aR bk ad=>?_
  .have E:=hF al (P.same aw aQ).1 (P.same aw aQ).2;refine bG (My a2 E.ca E.cl E.cc (λi bo=>E.lc p a8 i (av bo))) λt y h=>?_;obtain⟨W,v,rfl,F⟩:=h;exact⟨W,v,rfl,v,rfl,F⟩
  have⟨b8,bS,bx⟩:=aR;cases bS;have n:=P.rel (own':=grown bb (U al.heap) (U be.heap)) ad (λd h=>av h);have bH:=aB (ad.at_ Q ab) aF;have aE:=YJ bk bx;have b4:=aA Q ab;replace b:=b.put (d:=28) az v;refine adS (l:=l) (vs:= #[z9 ((first+p:Nat):Int),v]) (R:=λaU bd y=>bd=ak (Go (pre++[(first+p,an.map λi=>val i p)]))/\∃x,J (pre++[(first+p,an.map λi=>val i p)]) x y/\(∀d,d<U aU.heap->¬M d->K d≠bI v->y.heap[d]? =aU.heap[d]?)/\∀d,x d->M d\/K d=bI v\/U aU.heap<=d) fX Y (b.want (d:=20) (want:=af) (b:=af) Y Y Y az) Y (b.of Y) (B1 (b.of Y) (b.of Y)) (Fg (by simp only[put_defers];exact Z)) (λar k=>?_) λar bd ae k bQ R bz=>?_
  .refine V.round pre M ar (first+p) (an.map λi=>val i p) v (V.rJ _ _ _ ar (V.rJ _ _ _ be a5 (λd j=>ad.at_ d (P.oY d j)) ad.size) (λd j=>k.at_ d (n.oY d j)) k.size) (bi ar (λd j s=>aB (k.at_ d (n.keep d j s).1) (n.keep d j s).2) (dW n.size k.size)) bj br (by omega) (by rw[er];exact a2) ?_ λam G s=>?_;rw[er];exact YH aE (cH _) λam W F bh=>k.at_ am (ai ⟨F,bh⟩);have W:=(LK aE G).1;have F:=aA am (P.oY am s);omega
  obtain⟨rfl,x,a1,a6,a3⟩:=bQ;have G:∀d,K d=bI v->U al.heap<=d:=λd j=>(LK aE (bq j)).1;have b6:=k.size;have b7:=ad.size;refine Xe.go (own:=λd=>d<U ae.heap) ?_ (λd h=>h) bz;replace b:=b.put (d:=29) az (ak (Go (pre++[(first+p,an.map λi=>val i p)])));refine tf e az Y (b.want (d:=20) (want:=af) (b:=af) Y Y Y az) (Bq Y (b.of Y)) ?_;replace b:=b.put (d:=30) az (ak (!Go (pre++[(first+p,an.map λi=>val i p)])));refine eF e b Y (ak (!Go (pre++[(first+p,an.map λi=>val i p)]))) (Gb Y (b.of Y) (b.of Y)) λb=>dr e (bT (λd=>d<U ae.heap) x ae _ bs ((((((b.nil.cons (b.slot 1 _ Y)).cons (b.slot 2 _ Y)).cons (b.slot 4 _ Y)).cons (b.slot 5 _ Y)).cons (b.slot 12 _ Y)).cons (b.slot 13 _ Y) |>.cons (b.slot 31 _ Y)) (by simp only[put_defers];exact Z) a1 ⟨λd j s=>?_,λd j=>?_,λd j=>V.bound _ _ _ a1 d j,?_,aB R.tape (aB k.tape n.tape),aB R.os (aB k.os n.os),aB R.output (aB k.output n.output)⟩ (λd h=>h) ?_ (λs=>?_) ?_);have bu:¬M d:=λh=>eD (n.ext d h) s (λh=>aa);refine⟨by have:=R.size;show d<U ae.heap;omega,?_⟩;rw[a6 d aa bu (λt=>cA (G d t)),k.at_ d (n.keep d j s).1];exact(n.keep d j s).2;rcases a3 d j with h|h|h;exact n.ext d h;exact ai (cA (G d h));exact ai aa;have:=R.size;omega;have:=R.size;show Q<U ae.heap;omega;rcases a3 Q s with h|h|h;exact a7 h;have:=G Q h;omega;omega;rw[a6 Q aa a7 (λt=>cA (G Q t)),k.at_ Q (av ab)];exact bH
end
def AQ (own:Nat->Prop)(e:ag)(v:F)(a:List aC):Prop:=
 (v=aF/\a=[])\/∃b d c,v=aG b (I a) d/\own b/\e.heap[b]? =K (aq c 59 (0,0))/\c.toList.take (I a*3)=bM a
def yF(a:List aC):I (bM a)=I a*3:=by
 induction a with
 |nil=>rfl
 |cons c a b=>simp only[bM,kX,cJ,oh,ze] at b ⊢;omega
theorem tJ:∀(c:List aC) (a:Nat) (h:a<I c) (b:Nat) (v:F),[ak c[a].null,aJ aM c[a].n,ay c[a].s][b]? =K v->(bM c)[a*3+b]? =K v
 | [],a,h,b,v,d=>by simp at h
 |x::c,0,h,b,v,d=>by
  simp only[kG] at d;simp only[bM,kX,Nat.zero_mul,fq];exact tX (fF.1 d).1▸d
 |x::c,a+1,h,b,v,d=>by
  simp only[jK] at d;have:=tJ c a (cN h) b v d;have e:(a+1)*3+b=a*3+b+3:=aa;rw[e];simpa [bM] using this
def Dp{a:List aC}(d:w.heap[n]? =K (aq C 59 (0,0)))(c:C.toList.take (I a*3)=bM a)(e:m<I a):pF w n (0+m*3) [ak a[m].null,z9 a[m].n,ay a[m].s]:=by
 intro g v f;have b:=tJ a m e g v f;rw[<-c,vW] at b
 split at b
 unfold ap;simp only[d];rw[fq];simpa using b;cases b
def wJ (fn:cF):cQ:=match fn.body with
 |some (aS _<|aS _<|aS _<|aS _<|aS _<|fT _<|.loop a)=>a
 |_=>ey
def BL:(ax.info? 59).map (·.size)=K 3:=aR
def BW (d:Nat->Prop)(e:Nat)(f:List Deferred)(b:List aC)(v:F)(g:Nat)(own:Nat->Prop)(c:ag)(a:bt):Prop:=
 Knows a 47 [(40,n9 g),(39,n9<|I b),(38,v),(0,fZ<|K e)]/\bU a=f/\jb d own c/\AQ own c v b
def aap{c:List aC}{own:Nat->Prop}(h:BW Qa n [{target:=.builtin .close QF Qd q8,args:= #[fZ<|K n]}] c v m own w Q)(e:I c<=m):
 gY (aH ax) ax Qa n own [] (aX ((baseD 116).at Q [bJ<|wJ iC,gx<|wJ iC,fh 0]) [below ax]) w:=by
 have⟨b,d,f,g⟩:=h;have a:=wC (aH ax) ax Qa n [];exact cy a<|dP a [0] Y<|eF a b Y (ak aj) (sE Y (b.of Y) (b.of Y) bS) λb=>dr a<|cy a<|iJ a aj (b.of Y)<|wA a (k':=[]) Y<|I0 a<|Oz Y d Tryz.func116 Y Y
def aat{r:List Deferred}{d:List aC}{own:Nat->Prop}{c:aC}{g:List aC}(R:I d<=100000)(h:BW Qa n r d v m own w Q)(k:d.drop m=c::g)
 (J:∀z A q,BW Qa n r d v (m+1) z A q->gY (aH ax) ax Qa n z (g.map aC.agg) (aX ((baseD 116).at q [bJ<|wJ iC,gx<|wJ iC,fh 0]) [below ax]) A):
 gY (aH ax) ax Qa n own ((c::g).map aC.agg) (aX ((baseD 116).at Q [bJ<|wJ iC,gx<|wJ iC,fh 0]) [below ax]) w:=by
 have⟨a,E,j,o⟩:=h;have b:=wC (aH ax) ax Qa n<|(c::g).map aC.agg;have i:m<I d:=by
  rcases jc m (I d) with h|h;exact h;rw[List.drop_eq_nil_of_le h] at k;cases k
 have N:d[m]=c:=by
  have:=ru i;rw[k] at this;exact(List.cons.inj this).1.symm
 obtain⟨rfl,rfl⟩|⟨e,B,C,rfl,f,t,y⟩:=o;simp at i;have x:=Dp t y i;rw[N] at x;refine cy b<|dP b [0] Y<|eF b a Y (ak af) (sE Y (a.of Y) (a.of Y) bS) λa=>dr b<|cy b<|iJ b af (a.of Y)<|nV b<|cy b<|nS b<|cy b<|dP b [0,1,2,3] Y<|eF b a Y (cU<|K ⟨e,0+m*3,Z⟩) (pV Y (a.of Y) (a.of Y) y3 Tryz.sizeOf59 i) λa=>nU b a Y (bZ #[ak c.null,z9 c.n,ay c.s]) (oz (cs:=[ak c.null,z9 c.n,ay c.s]) Y (a.of Y) Tryz.underlying59 Y BL (ai f) x) λa=>oS b j az Y Y (aq #[ak aj,z9 0,ay ⟨#[]⟩] 59) trivial (λO=>(aK O)) (CU Y Tryz.zeroValue59) λp T L M hrel D=>?_;replace a:=a.put (d:=11) az<|aK p;have u:=j.new L M;have G:e≠p:=cA<|j e<|ai f;refine vh b u az Y Y (ai Y) (aq (eC c) 59) trivial (vr (n:=p) (off:=0) (v:=bZ #[ak c.null,z9 c.n,ay c.s]) Y (a.of Y) (a.of Y) BL (λn s=>by simp[jn] at s;rcases s with rfl|rfl|rfl<;>rfl) (ai<|ai rfl) D<|aZ 3) λP l=>?_;replace a:=a.none bR;have H:=u.set l;refine dr b<|dP b [0,1,2] Y<|eL b a λa=>?_;refine vf b az Y Y (oz (cs:=[ak c.null,z9 c.n,ay c.s]) Y (a.of Y) Tryz.underlying59 Y BL (ai<|ai Y) (λS v o=>by
  unfold ap;rw[l.set];simpa [jn] using o)) ?_
 replace a:=a.put (d:=45) az<|bZ #[ak c.null,z9 c.n,ay c.s];refine ady (v:=c.agg) az Y Y Y (a.of Y) (a.of Y) ?_;replace a:=a.none bR;have b:=wC (aH ax) ax Qa n<|g.map aC.agg;refine dr b<|ue b ?_;refine dP b [0,1] Y<|eF b a Y (z9 ((m+1:Nat):Int)) (uo (j:=1) Y (a.of Y) Y aa) λa=>?_;refine eL b a λa=>dr b<|ve b<|J _ P _ ⟨(((a.nil.cons<|a.slot 0 _ Y).cons<|a.slot 38 _ Y).cons<|a.slot 39 _ Y).cons<|a.slot 40 _ Y,by simp only[put_defers];exact E,H,ai ⟨e,B,C,rfl,av f,?_,y⟩⟩;rw[l.at_ e (ai<|av f) G,hrel.at_ e<|ai f];exact t
def aaq{d:List aC}(j:I d<=100000):∀(e:List aC) (b:Nat),d.drop b=e->∀(own:Nat->Prop) (g:ag) (f:bt),BW Qa n [{target:=.builtin .close QF Qd q8,args:= #[fZ<|K n]}] d v b own g f->
 gY (aH ax) ax Qa n own (e.map aC.agg) (aX ((baseD 116).at f [bJ<|wJ iC,gx<|wJ iC,fh 0]) [below ax]) g:=by
 intro e
 induction e with
 |nil=>exact λb c own g f a=>aap a<|List.drop_eq_nil_iff.1 c
 |cons p e l=>
  intro b c own g f a;refine aat j a c λm o h i=>l (b+1) ?_ m o h i;have k:b<I d:=by
   rcases jc b (I d) with a|a;exact a;rw[List.drop_eq_nil_of_le a] at c;cases c
  have:=ru k;rw[c] at this;exact(List.cons.inj this).2.symm
open Ec (uH p8 j0 uy)
open Rn (ji ej Fm WR rv)
def lI (s:ByteArray)(d c b:Int)(e:List aC):Prop:=
 (∃a:Nat,b=(a:Int)/\a<=100/\j0 b d c=0/\uH s d c a e)\/(e=[]/\(j0 b d c≠0\/∃a:Nat,b=(a:Int)/\p8 s d c a))
def TE{s:ByteArray}{c b:List aC}(h:uH s M qB n c)(a:uH s M qB n b):b=c:=h.mo b a.len a.ok<|uy a.eq
def lI.X8{s:ByteArray}{d b:List aC}(h:lI s M qB qC d)(j:qC=(n:Int))(e:j0 qC M qB=0)(a:uH s M qB n b):d=b:=by
 rcases h with⟨c,f,_,_,i⟩|⟨rfl,h|⟨c,f,g⟩⟩;have:c=n:=aa;subst this;exact TE a i;exact absurd e h;have:c=n:=aa;subst this;exact absurd a.eq<|g b a.len a.ok
def lI.Ll{s:ByteArray}{vs:List aC}(h:lI s M qB qC vs)(e:qC=(n:Int))(b:p8 s M qB n):vs=[]:=by
 rcases h with⟨c,d,_,_,a⟩|⟨rfl,_⟩;have:c=n:=aa;subst this;exact absurd a.eq<|b vs a.len a.ok;rfl
def lI.X7{s:ByteArray}{a:List aC}(h:lI s M qB qC a)(b:j0 qC M qB≠0):a=[]:=by
 rcases h with⟨f,d,_,c,e⟩|⟨rfl,_⟩;exact absurd c b;rfl
def lI.len{s:ByteArray}{a:List aC}(h:lI s M qB qC a):(I a:Int)=qC\/a=[]:=by
 rcases h with⟨e,b,_,d,c⟩|⟨rfl,_⟩;exact av (by rw[c.len,b]);exact ai Y
def lI.le{s:ByteArray}{a:List aC}(h:lI s M qB qC a):I a<=100:=by
 rcases h with⟨f,d,b,e,c⟩|⟨rfl,_⟩;rw[c.len];exact b;simp
section
variable{G:ji}{J:ej G}{own:Nat->Prop}{Q w:ag}
def JZ:F->Bool
 |ak _|aJ _ _|ay _=>af
 |_=>aj
def Uk{b:Rn.Mp}(a:JZ v=af):rv b v=v:=by
 cases v<;>first|(cases a;done)|simp
def adl(d:List aC):∀b∈bM d,JZ b=af:=by
 intro b c;have⟨v,_,a⟩:=xy.1 c;simp only[gy,kZ,or_false] at a;rcases a with rfl|rfl|rfl<;>rfl
def p_{a:List aC}(e:∀b,Fm J b->x=rv b v)(t:WR J (sh (dG w) (dU w) Q) w)(r:∀j g,J.f j=K g->own g)(q:aT Q n 59 3 v (I a) (bM a)):AQ own w x a:=by
 obtain⟨N,c,-⟩:=J.any;obtain⟨A,⟨rfl,p⟩|⟨d,k,l,rfl,_,o,B,_,C,s⟩⟩:=q
 .exact av ⟨by rw[e _ c];simp,vX.1 p⟩
 .have f:=e _ c;simp only[rv,gE,Rn.ra] at f;have i:J.f d=K ((Rn.mp J N af).f d):=ej.dom λb y=>by
   have:=(e b y).symm.trans f;simp only[rv,gE,Rn.ra,j9,iG,nM] at this;exact bq this.1.1
  obtain⟨D,h,-,m⟩:=t.at_ _ _ i;rw[show(sh (dG w) (dU w) Q).heap[d]? =_ from o] at h;cases h;refine ai ⟨_,k,l.map<|rv<|Rn.mp J N af,f,r _ _ i,m _ c,?_⟩;rw[rM,<-List.map_take,s];exact aB (vZ λz u=>Uk<|adl a z u)<|List.map_id _
end
def mJ (fn:cF):Array cC:=match fn.body with
 |some (aS _<|aS _<|aS (iB _ a _) _)=>a
 |_=> #[]
def Cl (fn:cF):cQ:=match fn.body with
 |some (aS _<|aS _<|aS _ a)=>a
 |_=>ey
def eY{b own:Nat->Prop}{w:ag}(h:∀a,(bX (bp qT) Qs).run Qo a=cm (fi v) a/\(bX (bp qT) Qs).events Qo a #[]=#[]):∀a,RelB (λc=>b c\/own c) w a->(bX (bp qT) Qs).run Qo a=cm (fi v) a/\∀d∈(bX (bp qT) Qs).events Qo a #[],EvW b own d:=λa _=>⟨(h a).1,λd e=>by rw[(h a).2] at e;simp at e⟩
def aas{c:List aC}{E:Int}{own:Nat->Prop}{w:ag}(a:Knows qT 47 ((8,v)::(9,z9 E)::(0,fZ<|K n)::l0))(f:bU qT=[{target:=.builtin .close QF Qd q8,args:= #[fZ<|K n]}])(j:jb Qa own w)(k:I c<=100000)
 (h:(E≠0/\c=[])\/(E=0/\AQ own w v c)):gY (aH ax) ax Qa n own (c.map aC.agg) (aX ((baseD 116).at qT [bJ<|Cl iC]) [below ax]) w:=by
 have b:=wC (aH ax) ax Qa n<|c.map aC.agg;refine cy b ?_;refine cy b ?_;refine dP b [0,1] Y ?_;refine eL b a λa=>?_;rcases h with⟨i,rfl⟩|⟨rfl,g⟩;refine eF b a Y (ak af) (Lu Y (a.of Y) Y<|by simpa using i) λa=>?_;refine dr b ?_;refine iJ b af (a.of Y) ?_;refine vg b ?_;exact Oz Y (by simp only[put_defers];exact f) Tryz.func116 Y Y;refine eF b a Y (ak aj) (Lu Y (a.of Y) Y Y) λa=>?_;refine dr b ?_;refine iJ b aj (a.of Y) ?_;refine nV b ?_;refine cy b ?_;refine dP b [0,1,2] Y ?_;refine eL b a λa=>?_;have l:∃e d,v=ah e (I c) d:=by
  rcases g with⟨rfl,rfl⟩|⟨o,d,m,rfl,_⟩;exact⟨Z,0,rfl⟩;exact⟨_,d,rfl⟩
 obtain⟨e,d,rfl⟩:=l;refine eF b a Y (n9<|I c) (ye Y (a.of Y) y3) λa=>?_;refine eF b a Y (z9 ((0:Nat):Int)) (iw Y Y) λa=>?_;refine dr b ?_;refine nS b ?_;refine xL b ?_;exact aaq k c 0 Y _ w _ ⟨(((a.nil.cons<|a.slot 0 _ Y).cons<|a.slot 38 _ Y).cons<|a.slot 39 _ Y).cons<|a.slot 40 _ Y,by simp only[put_defers];exact f,j,g⟩
open Ec (Ez)
def r9 (b:Int)(cb c a:Nat):F:=bZ #[z9 b,aG cb c a]
def sw (d nk b c e a:Nat)(f:F):F:=bZ #[aG d nk b,aG c e a,f]
structure zm(S:Nat->Prop)(w:ag)(s:ByteArray)(k e:Int)(cb n kb nk eb ne col:Nat):Prop where
 sc:S cb
 sk:S kb
 se:S eb
 n:col<n
 nk:col<nk
 ne:col<ne
 cc:ap w ⟨cb,0+col*8+0,Z⟩=K (ay s)
 ck:ap w ⟨kb,0+col*2+1,Z⟩=K (z9 k)
 ce:ap w ⟨eb,0+col*1,Z⟩=K (z9 e)
def zm.rel{s:ByteArray}{cb f e nk d g c:Nat}(h:zm Qa w s M qB cb f e nk d g c)(j:∀a,Qa a->u.heap[a]? =w.heap[a]?):zm Qa u s M qB cb f e nk d g c:=by
 have qB:∀(a b:Nat),Qa a->ap u ⟨a,b,Z⟩=ap w ⟨a,b,Z⟩:=λa b i=>by unfold ap;rw[j a i]
 exact⟨h.sc,h.sk,h.se,h.n,h.nk,h.ne,aB (qB _ _ h.sc) h.cc,aB (qB _ _ h.sk) h.ck,aB (qB _ _ h.se) h.ce⟩
def Dw (c d:Nat)(i:Int)(cb l f b nk h e m g a:Nat)(s:ByteArray)(k j:Int):List (Nat×F):=
 [(14,cU<|K ⟨c,0+1,Z⟩),(15,aG cb l f),(16,n9 a),(17,cU<|K ⟨cb,0+a*8,Z⟩),(18,cU<|K ⟨cb,0+a*8+0,Z⟩),(19,ay s),
  (20,cU<|K ⟨d,0+0,Z⟩),(21,aG b nk h),(22,n9 a),(23,cU<|K ⟨b,0+a*2,Z⟩),(24,cU<|K ⟨b,0+a*2+1,Z⟩),(25,z9 k),
  (26,cU<|K ⟨d,0+1,Z⟩),(27,aG e m g),(28,n9 a),(29,cU<|K ⟨e,0+a*1,Z⟩),(30,z9 j),(31,cU<|K ⟨c,0+0,Z⟩),(32,z9 i)]
def ER:List Nat:=[14,15,16,17,18,19,20,21,22,23,24,25,26,27,28,29,30,31,32]
def G6 (a:F)(E:Int):List (Nat×F):=[(33,cP #[a,z9 E]),(13,cP #[a,z9 E]),(34,a),(35,z9 E),(8,a),(9,z9 E)]
def Jx:o4 (mJ iC) (λa=>decide (a<19)) 19 47 ER=af:=aR
def TG:o4 (mJ iC) (λ_=>af) 25 47 ([33,13,34,35,8,9]++ER)=af:=aR
def TH:(dI (fp<|U<|mJ iC) λa=> !(λa=>decide (a<19)) a||match lN (mJ iC) a with|some b=> !(iT ([33,13,34,35,8,9]:List Nat)) b|none=>af)=af:=aR
def TI:(dI (fp<|U<|mJ iC) λa=> !(λa=>decide (a<=19)) a||a==19||iT (under (mJ iC) (U<|mJ iC) (match (mJ iC)[19]? with
 |some c=>(c.after.toList.filter λb=>jl eu b).map (·.on)
 |none=>[])) a)=af:=aR
def AF:ax.follows .mixedOrders=af:=aR
def ad1:(Tryz.f139.name == "runtime.NumGoroutine")=aj:=aR
def aed:(iC.name == "runtime.NumGoroutine")=aj:=aR
def aan{e:List aC}{E:Int}{own:Nat->Prop}(i:Knows Q 47 q5)(j:q5.lookup 0=K (fZ<|K n))(s:H.lookup 0=Z)(o:bU Q=[{target:=.builtin .close QF Qd q8,args:= #[fZ<|K n]}])(q:jb Qa own w)(r:I e<=100000)(t:H.map (·.1)=ER)
 (h:(E≠0/\e=[])\/(E=0/\AQ own w v e)) (p:gM (mJ iC) (λ_=>af) Q (fill Q<|G6 v E++H) q9 qT) (f:∀a,(λa=>decide (a<=19)) a=af->cB q9 a aj=af) (u:n5 q9<=m):
 gY (aH ax) ax Qa n own (e.map aC.agg) (aX ((baseD 116).at qT [bY (mJ iC)<|lX eu (mJ iC) m k q9 [],bJ<|Cl iC]) [below ax]) w:=by
 have g:=wC (aH ax) ax Qa n<|e.map aC.agg;have l:o4 (mJ iC) (λ_=>af) 25 47 ((G6 v E++H).map (·.1))=af:=by
  rw[gD,t];exact TG
 refine uf (Dn:=λa=>decide (a<=19)) (u:=25) g az i l ?_ ?_ ?_ m k q9 qT p f u;intro b a d _ f z c;have x:19<a:=by simpa using f
 have y:a<25:=(dn.1 c).1;have:a=20\/a=21\/a=22\/a=23\/a=24:=aa;rcases this with rfl|rfl|rfl|rfl|rfl;cases(show K _=K d from c);exact⟨_,rfl,av ⟨rfl,eY<|iw Y<|b.of Y⟩⟩;cases(show K _=K d from c);exact⟨_,rfl,av ⟨rfl,eY<|z5 Y (b.of Y) Y⟩⟩;cases(show K _=K d from c);exact⟨_,rfl,av ⟨rfl,eY<|z5 Y (b.of Y) Y⟩⟩;cases(show K _=K d from c);exact⟨_,rfl,av ⟨rfl,eY<|z2 Y<|b.of Y⟩⟩;cases(show K _=K d from c);exact⟨_,rfl,av ⟨rfl,eY<|z2 Y<|b.of Y⟩⟩;intro d c;exact absurd (dn.1 c).1 az;intro _ b;refine dr g<|aas (l0:=[]) (v:=v) (E:=E) (((b.nil.cons<|b.slot 0 _ ?_).cons<|b.slot 9 _ Y).cons<|b.slot 8 _ Y) (by rw[tj];exact o) q r h;rw[ij,List.lookup_append,List.lookup_append,s,j];rfl
def TF (s:ByteArray)(b a d:Int)(g:ag)(f:gN)(h:ag):Prop:=aD g h/\
 ((j0 d b a≠0/\f=aN (cP #[aF,z9<|j0 d b a]))\/
  (∃c:Nat,d=(c:Int)/\c<=100/\j0 d b a=0/\Ec.e4 b a=af/\((∃v e,f=aN (cP #[v,z9 0])/\aT h (U g.heap) 59 3 v (I e) (bM e)/\uH s b a c e)\/(f=aN (cP #[aF,z9 3])/\p8 s b a c))))
def HI{G:ji}{b:ej G}{E:Int}(h:∀a,Fm b a->x=rv a (cP #[v,aJ aM E])):∃d,x=cP #[d,aJ aM E]/\∀a,Fm b a->d=rv a v:=by
 obtain⟨N,c,-⟩:=b.any;refine⟨rv (Rn.mp b N af) v,by rw[h _ c];simp,λa e=>?_⟩;simpa using(h _ c).symm.trans<|h a e
def aao{h:List aC}{own:Nat->Prop}{s:ByteArray}{q r cb O t N nk x z P u y:Nat}(l:lI s M qB qC h)(aR:s.size<=aV)
 (p:Knows Q 47 H) (aE:H.lookup 0=K (fZ<|K n)) (C:bU Q=[{target:=.builtin .close QF Qd q8,args:= #[fZ<|K n]}]) (aA:pp Qa own w) (aF:1<=U w.heap)
 (R:cC) (k:(mJ iC)[19]? =K R) (V a3:Nat) (o:Array Bool) (a:bt) (G:gM (mJ iC) (λm=>decide (m<19)) Q (fill Q<|Dw q r qC cb O t N nk x z P u y s M qB) o a) (I:19∈fY eu (mJ iC) o) (a7:n5 o<=V+1) (j:∀ab∈R.looksAt (mJ iC),cx a ab=cx (fill Q<|Dw q r qC cb O t N nk x z P u y s M qB) ab):
 gY (aH ax) ax Qa n own (h.map aC.agg) (aX ((baseD 116).at a [bY (mJ iC)<|19::lX eu (mJ iC) V a3 (Array.setIfInBounds o 19 af) [],bJ<|Cl iC]) [below ax]) w:=by
 cases(show K _=K R from k);have i:=p.fill (Dw q r qC cb O t N nk x z P u y s M qB) Y;have al:bp a (.tmp 19)=ay s:=aB (j 19 az)<|i.slot 19 _ Y;have am:bp a (.tmp 25)=z9 M:=aB (j 25 az)<|i.slot 25 _ Y;have an:bp a (.tmp 30)=z9 qB:=aB (j 30 az)<|i.slot 30 _ Y;have ao:bp a (.tmp 32)=z9 qC:=aB (j 32 az)<|i.slot 32 _ Y;refine I1 (wC (aH ax) ax Qa n<|h.map aC.agg) az k Y Y Tryz.func139 ad1 Y ?_;have aD:(#[Operand.tmp 19,.tmp 25,.tmp 30,.tmp 32].map (bp a))=#[ay s,z9 M,z9 qB,z9 qC]:=by simp only[List.map_toArray,kY,List.map_nil,al,am,an,ao]
 rw[aD];refine adF (R:=λf c=>∃S,TF s M qB qC S f c) fX adW Y (bq<|vw Y Y Y) (λbb=>aI) (λf c A=>?_) (λa5=>bG (Ez s M qB qC _ aR) λf c A=>⟨_,A⟩) aA aF λbc v a4 ba aa c B L aw aU W hrel=>?_;obtain⟨S,_,⟨_,rfl⟩|⟨_,_,_,_,_,⟨_,_,rfl,_⟩|⟨rfl,_⟩⟩⟩:=A<;>exact⟨_,rfl⟩;have⟨a5,ad,S,a6,B⟩:=B;have a2:∃b E,a4=cP #[b,z9 E]/\((E≠0/\h=[])\/(E=0/\AQ aa c b h)):=by
  rcases B with⟨Z,e⟩|⟨a9,X,_,ar,_,⟨b,a8,e,a0,D⟩|⟨e,D⟩⟩;cases e;obtain⟨g,rfl,_⟩:=HI L;exact⟨g,_,rfl,av ⟨Z,l.X7 Z⟩⟩;cases e;obtain⟨g,rfl,a1⟩:=HI L;have ae:=l.X8 X ar D;subst ae;exact⟨g,_,rfl,ai ⟨rfl,p_ a1 aw aU a0⟩⟩;cases e;obtain⟨g,rfl,_⟩:=HI L;exact⟨g,_,rfl,av ⟨az,l.Ll X D⟩⟩
 obtain⟨b,E,rfl,aK⟩:=a2;rw[xl,k];have aG:jb Qa aa c:=λT d=>by
  rcases d with d|d;exact(W.sh T d).1;exact W.bd T d
 refine aan p aE Y C aG (dW l.le az) Y aK (G.Cv (l2:=G6 b E) (r3:=λ_=>af) (n:=47) (v:=cP #[b,z9 E]) I k p.size Jx Y (λ_ _=>rfl) Y TH λad C=>by cases C;rfl) (vB G I TI (λm J=>by
  have:m<=19:=cN J;show m<25;omega)) ?_
 have⟨_,_,J,aQ,_⟩:=mem_ready I;have:=Av (bV G.size J) aQ;omega
def Ks(a b c d:F)(m:Nat)(i:4<=m):Knows ⟨#[a,b,c,d]++jw (m-4) bR,[]⟩ m [(0,a),(1,b),(2,c),(3,d)]:=by
 have e:∀f v,(#[a,b,c,d]:Array F)[f]? =K v->cx ⟨#[a,b,c,d]++jw (m-4) bR,[]⟩ f=v:=λf v g=>by
  unfold cx;rw[jh,Array.getElem?_append_left (dn.1 g).1,g];rfl
 refine Knows.cons (Knows.cons (Knows.cons (Knows.cons (l:=[]) ⟨?_,λs v h=>by simp at h⟩<|e 3 d Y)<|e 2 c Y)<|e 1 b Y)<|e 0 a Y;simp;omega
def aar{co:Array Bool}{k:List aC}{own:Nat->Prop}{s:ByteArray}{b1 b2 cb h cap g nk ck f i ce col:Nat}{x:F}(J:lI s M qB qC k)(E:s.size<=aV)
 (l:Knows Q 47 ((0,fZ<|K n)::(3,n9 col)::(5,(aK b1))::(6,(aK b2))::l0)) (A:bU Q=[{target:=.builtin .close ats ty co,args:= #[fZ<|K n]}]) (z:pp Qa own w) (C:1<=U w.heap)
 (p:own b1) (q:own b2) (L:w.heap[b1]? =K (aq #[z9 qC,aG cb h cap] 139 (0,0))) (N:w.heap[b2]? =K (aq #[aG g nk ck,aG f i ce,x] 105 (0,0))) (e:zm Qa w s M qB cb h g nk f i col):
 gY (aH ax) ax Qa n own (k.map aC.agg) (aX ((baseD 116).at Q [bJ<|iB 2 (mJ iC) af,bJ<|Cl iC]) [below ax]) w:=by
 have r:=wC (aH ax) ax Qa n<|k.map aC.agg;have m:∀a v,(#[aJ aM qC,aG cb h cap]:Array F)[a]? =K v->ap w ⟨b1,a,Z⟩=K v:=λa v j=>by unfold ap;simp only[L];exact j
 have o:∀a v,(#[ah (K ⟨g,0,Z⟩) nk ck,aG f i ce,x]:Array F)[a]? =K v->ap w ⟨b2,a,Z⟩=K v:=λa v j=>by unfold ap;simp only[N];exact j
 refine zC (Ph:=λc=>decide (c<19)) (l:=Dw b1 b2 qC cb h cap g nk ck f i ce col s M qB) r AF<|uf (u:=19) r az l Jx ?_ ?_ ?_;intro b c a H _ _ d;have R:c<19:=cN H;have:c=0\/c=1\/c=2\/c=3\/c=4\/c=5\/c=6\/c=7\/c=8\/c=9\/c=10\/c=11\/c=12\/c=13\/c=14\/c=15\/c=16\/c=17\/c=18:=aa;rcases this with rfl|rfl|rfl|rfl|rfl|rfl|rfl|rfl|rfl|rfl|rfl|rfl|rfl|rfl|rfl|rfl|rfl|rfl|rfl;cases(show K _=K a from d);exact⟨_,rfl,av ⟨rfl,eY<|nD Y (b.of Y) tS Y Tryz.sizeOf137 Y⟩⟩;cases(show K _=K a from d);exact⟨_,rfl,av ⟨rfl,ju Y (b.of Y) Tryz.isAgg137 (ai p)<|m 1 _ Y⟩⟩;cases(show K _=K a from d);exact⟨_,rfl,av ⟨rfl,eY<|iw Y<|b.of Y⟩⟩;cases(show K _=K a from d);exact⟨_,rfl,av ⟨rfl,eY<|pV Y (b.of Y) (b.of Y) Tryz.underlying137 Tryz.sizeOf143 e.n⟩⟩;cases(show K _=K a from d);exact⟨_,rfl,av ⟨rfl,eY<|nD Y (b.of Y) Tryz.underlying143 Y Tryz.sizeOf9 Y⟩⟩;cases(show K _=K a from d);exact⟨_,rfl,av ⟨rfl,ju Y (b.of Y) Tryz.isAgg9 (av e.sc) e.cc⟩⟩;cases(show K _=K a from d);exact⟨_,rfl,av ⟨rfl,eY<|nD Y (b.of Y) Tryz.underlying105 Y Tryz.sizeOf44 Y⟩⟩;cases(show K _=K a from d);exact⟨_,rfl,av ⟨rfl,ju Y (b.of Y) Tryz.isAgg44 (ai q)<|o 0 _ Y⟩⟩;cases(show K _=K a from d);exact⟨_,rfl,av ⟨rfl,eY<|iw Y<|b.of Y⟩⟩;cases(show K _=K a from d);exact⟨_,rfl,av ⟨rfl,eY<|pV Y (b.of Y) (b.of Y) Tryz.underlying44 Tryz.sizeOf63 e.nk⟩⟩;cases(show K _=K a from d);exact⟨_,rfl,av ⟨rfl,eY<|nD Y (b.of Y) Tryz.underlying63 Y vR Y⟩⟩;cases(show K _=K a from d);exact⟨_,rfl,av ⟨rfl,ju Y (b.of Y) xp (av e.sk) e.ck⟩⟩;cases(show K _=K a from d);exact⟨_,rfl,av ⟨rfl,eY<|nD Y (b.of Y) Tryz.underlying105 Y Tryz.sizeOf22 Y⟩⟩;cases(show K _=K a from d);exact⟨_,rfl,av ⟨rfl,ju Y (b.of Y) Tryz.isAgg22 (ai q)<|o 1 _ Y⟩⟩;cases(show K _=K a from d);exact⟨_,rfl,av ⟨rfl,eY<|iw Y<|b.of Y⟩⟩;cases(show K _=K a from d);exact⟨_,rfl,av ⟨rfl,eY<|pV Y (b.of Y) (b.of Y) Tryz.underlying22 vR e.ne⟩⟩;cases(show K _=K a from d);exact⟨_,rfl,av ⟨rfl,ju Y (b.of Y) xp (av e.se) e.ce⟩⟩;cases(show K _=K a from d);exact⟨_,rfl,av ⟨rfl,eY<|nD Y (b.of Y) tS Y vR Y⟩⟩;cases(show K _=K a from d);exact⟨_,rfl,av ⟨rfl,ju Y (b.of Y) xp (ai p)<|m 0 _ Y⟩⟩;intro a d u P O t B I G D _;exact aao J E l Y A z C a d u P O t B I G D;intro y;exact absurd (y 24 az) az
def aam{p:List aC}{s:ByteArray}{cb e f j nk h i k g l:Nat}(J:lI s M qB qC p)(H:bg s<=aV)(r:pp Qa (λ_=>False) w)(G:zm Qa w s M qB cb e j nk i k l):
 gY (aH ax) ax Qa n (λ_=>False) (p.map aC.agg) (born ax<|dcall 116 #[fZ<|K n,r9 qC cb e f,sw j nk h i k g v,n9 l]) w:=by
 have a:=wC (aH ax) ax Qa n<|p.map aC.agg;refine adE Tryz.func116 aed Y ?_;have b:=Ks (fZ<|K n) (r9 qC cb e f) (sw j nk h i k g v) (n9 l) 47 az;have t:jb Qa (λ_=>False) w:=λc d=>eD d (λA=>(r.sh c A).1) ff;refine cy a<|dP a [0,1] Y<|oS a t az Y Y (aq #[z9 qC,aG cb e f] 139) trivial (λe=>(aK e)) (z3 (v:=r9 qC cb e f) Y<|b.of Y) λm O D L I B=>?_;replace b:=b.put (d:=5) az<|aK m;have u:=t.new D L;refine oS a u az Y Y (aq #[aG j nk h,aG i k g,v] 105) trivial (λe=>(aK e)) (z3 (v:=sw j nk h i k g v) Y<|b.of Y) λq P E N y C=>?_;replace b:=b.put (d:=6) az<|aK q;have x:=u.new E N;refine dr a<|cy a<|dP a [0,1] Y<|eL a b λb=>Rl a az Y Y Y (b.of Y) λz=>dr a<|cy a<|aar (b1:=m) (b2:=q) (cap:=f) (ck:=h) (ce:=g) (l0:=[]) (col:=l) (x:=v) (ats:= #[212]) (ty:=0) (co:=z) J H ?_ (by simp only[put_defers];rfl) ?_ aa (av<|ai rfl) (ai rfl) ?_ C<|G.rel λc d=>?_;exact(Knows.defer b bR).four Y Y Y Y;refine⟨λc d=>⟨x c<|av d,λo=>?_⟩,λc d=>x c<|ai d⟩;have:=(r.sh c d).1;rcases o with(o|rfl)|rfl;exact o;omega;omega;rw[y.at_ m<|ai<|ai Y];exact B;rw[y.at_ c<|av d,I.at_ c<|av d]
def DX:∃b,ax.info? 59=K b/\jH b=K (bZ #[ak aj,z9 0,ay ⟨#[]⟩])/\b.size=3/\jm b=32:=⟨Tryz.t59,aR,rfl,rfl,rfl⟩
def OM(w:ag):(lG 59).events ax w #[]=#[]:=by
 have⟨e,b,d,_⟩:=DX;simp[lG,typeInfo,b,d]
def nH{d:List aC}{b:aC}:bM (d++[b])=bM d++[ak b.null,z9 b.n,ay b.s]:=by simp[bM]
structure Row(w:ag)(g N:Nat)(pre:List aC):Prop where
 ex:∃cur,w.heap[g]? =K (aq cur 59 (0,0))/\U cur=N*3/\cur.toList.take (I pre*3)=bM pre
 le:I pre<=N
def Row.same{w b:ag}{g N:Nat}{pre:List aC}(h:Row w g N pre)(i:b.heap[g]? =w.heap[g]?):Row b g N pre:=by
 have⟨d,e,f⟩:=h.ex;exact⟨⟨d,aB i e,f⟩,h.le⟩
def lM (fn:cF):cQ:=match fn.body with
 |some (aS _<|aS _<|aS (aS _<|fT _<|.loop c) _)=>c
 |_=>ey
def pL (fn:cF):cQ:=match fn.body with
 |some (aS _<|aS _<|aS _ c)=>c
 |_=>ey
structure BP(S O:Nat->Prop)(c g N:Nat)(pre:List aC)(w:ag)(a:bt):Prop where
 kn:Knows a 18 [(9,fZ<|K c),(5,aG g (I pre) N)]
 df:bU a=[]
 inr:jb S O w
 own:O g
 row:Row w g N pre
section
variable{S O:Nat->Prop}{Q:Nat->Option (List F)}{c g N:Nat}{pre:List aC}{w:ag}{a:bt}{R:List aO}{C:aO}{T:bt}{vt:Array cC}{H:Nat}{Ah:List Nat}{A:cC}
def Sw(h:BP S O c g N pre w a)(k:Q c=K [])(j:vt[H]? =K A)
 (i:eR (aH ax) ax J S O (gu Q c Z) (aX (C.at (T.put A.dst<|aG g (I pre) N)<|bY vt Ah::B) R) w):
 eR (aH ax) ax J S O Q (aX ((base 117).at a [bJ<|lM rj,gx<|lM rj,fh 0,bJ<|pL rj])<|C.at T (bY vt (H::Ah)::B)::R) w:=by
 have⟨d,f,m,l,n⟩:=h;have b:=mH (aH ax) ax J S Q;refine cy b ?_;refine dP b [0,1] Y ?_;refine WW az Y Y Y Tryz.underlying215 Tryz.zeroValue59 OM (d.of Y) k ?_;replace d:=d.put (d:=10) az<|cP #[bZ #[ak aj,z9 0,ay ⟨#[]⟩],ak aj];have b:=mH (aH ax) ax J S<|gu Q c Z;refine AW b d λd=>?_;refine dr b ?_;refine cy b ?_;refine iJ b aj (d.of Y) ?_;refine wA b (k':=[bJ<|pL rj]) Y ?_;refine cy b ?_;refine dP b [0,1] Y ?_;refine eL b d λd=>?_;refine lK b d λd=>?_;refine dr b ?_;refine vg b ?_;have e:=BB (P:=ax) Tryz.results117<|d.slot 4 _ Y;exact Rp b Y (by simp only[put_defers];exact f) Tryz.func117 e.1 e.2 j i
def Sz{d:aC}{D:List aC}(h:BP S O c g N pre w a)(a4:Q c=K ((d::D).map aC.agg))(am:I pre<N)(an:N<=1000000)
 (aQ:∀q m F,BP S q c g N (pre++[d]) m F->(∀f,O f->q f)->(∀f,q f->O f\/U w.heap<=f)->(∀f,S f\/O f->f≠g->m.heap[f]? =w.heap[f]?)->U w.heap<=U m.heap->m.tape=w.tape->m.os=w.os->m.output=w.output->eR (aH ax) ax J S q (gu Q c<|K<|D.map aC.agg) (aX ((base 117).at F [bJ<|lM rj,gx<|lM rj,fh 0,bJ<|pL rj]) R) m):
 eR (aH ax) ax J S O Q (aX ((base 117).at a [bJ<|lM rj,gx<|lM rj,fh 0,bJ<|pL rj]) R) w:=by
 have⟨b,aE,t,k,aU⟩:=h;have⟨⟨r,aD,s,a2⟩,a8⟩:=aU;have⟨ab,P,W,p,aA⟩:=DX;have e:=mH (aH ax) ax J S Q;refine cy e<|dP e [0,1] Y<|WV (v:=d.agg) az Y Y Y Tryz.underlying215 Tryz.zeroValue59 OM (b.of Y) a4 ?_;replace b:=b.put (d:=10) az<|cP #[bZ<|eC d,ak af];have e:=mH (aH ax) ax J S<|gu Q c<|K<|D.map aC.agg;refine AW e b λb=>?_;refine dr e<|cy e<|iJ e af (b.of Y)<|nV e<|nS e<|cy e<|dP e [0,1,2] Y<|AW e b λb=>oS e t az Y Y (aq #[ak aj,z9 0,ay ⟨#[]⟩] 59) trivial (λy=>(aK y)) (CU Y Tryz.zeroValue59) λX bb V a0 hrel ao=>?_;replace b:=b.put (d:=6) az<|aK X;have G:=t.new V a0;refine vh e G az Y Y (ai Y) (aq (eC d) 59) trivial (vr (n:=X) (off:=0) (v:=bZ #[ak d.null,z9 d.n,ay d.s]) Y (b.of Y) (b.of Y) BL (λc o=>by simp[jn] at o;rcases o with rfl|rfl|rfl<;>rfl) (ai<|ai rfl) ao<|aZ 3) λa5 j=>?_;replace b:=b.none bR;have L:=G.set j;refine dr e<|dP e [0,1,2,3,4] Y<|eL e b λb=>?_;refine vf e az Y Y (oz (cs:=[ak d.null,z9 d.n,ay d.s]) Y (b.of Y) Tryz.underlying59 Y BL (ai<|ai Y) (λu v a3=>by
  unfold ap;rw[j.set];simpa [jn] using a3)) ?_
 replace b:=b.put (d:=14) az<|bZ #[ak d.null,z9 d.n,ay d.s];refine oS e L az Y Y (aq (eC d) 59) trivial (λy=>aG y 1 1) (Yo (v0:=ak d.null) (v1:=z9 d.n) (v2:=ay d.s) Y (b.of Y) y3 P W p) λz E aR a1 n ar=>?_;replace b:=b.put (d:=15) az<|aG z 1 1;have M:=L.new aR a1;have a7:=t g<|ai k;have ae:a5.heap[g]? =K (aq r 59 (0,0)):=by
  rw[j.at_ g (ai<|av k) aa,hrel.at_ g<|ai k];exact aD
 have al:cq E g r 59:=aB (n.at_ g<|ai<|av k) ae;refine Rt e M (n:=g) az Y Y (av<|av k) (aq (cR<|r.toList.take (I pre*ab.size)++[ak d.null,z9 d.n,ay d.s]++r.toList.drop (I pre*ab.size+3)) 59 (0,0)) trivial (aG g (I pre+1) N) (Yn (news:=[ak d.null,z9 d.n,ay d.s]) Y (b.of Y) (b.of Y) y3 P W al (ai<|av<|av k) (ai<|ai Y) (gG p) (λu ba aF=>by
  have ad:ap E (Addr.add ⟨z,0,Z⟩ u)=ap E ⟨z,0+u,Z⟩:=by rw[vN]
  rw[ad];unfold ap;rw[ar,fq];simpa using aF) (λu=>by rw[vN]) (λc o=>by simp at o;rcases o with rfl|rfl|rfl<;>rfl) aa (by rw[s,p]) an<|by rw[aA];decide) λa6 l=>?_
 replace b:=b.put (d:=16) az<|aG g (I pre+1) N;refine lK e b λb=>dr e<|ue e<|ve e ?_;have x:I (pre++[d])=I pre+1:=aI;refine aQ _ a6 _ ⟨?_,by simp only[put_defers];exact aE,(M.set l),av<|av k,⟨⟨_,l.set,?_,?_⟩,bV x am⟩⟩ (λf i=>av<|av i) (λf i=>?_) (λf i aw=>?_) ?_ ?_ ?_ ?_;rw[x];exact(b.nil.cons<|b.slot 5 _ Y).cons<|b.slot 9 _ Y;rw[p] at*;simp[s];omega;rw[p,x,nH,<-a2,Nat.add_mul,List.take_append_of_le_length<|by simp[s];omega,iF<|by simp[s];omega];rcases i with(i|rfl)|rfl;exact av i;exact ai V;have:=j.size;have:=hrel.size;exact ai aa;have a9:=t f i;rw[l.at_ f (i.imp (λh=>h) λh=>av<|av h) aw,n.at_ f<|i.imp (λh=>h) λh=>av h,j.at_ f (i.imp (λh=>h) λh=>av h) aa,hrel.at_ f i];have:=hrel.size;have:=j.size;have:=n.size;have:=l.size;omega;rw[l.tape,n.tape,j.tape,hrel.tape];rw[l.os,n.os,j.os,hrel.os];rw[l.output,n.output,j.output,hrel.output]
def adg{Q:Nat->Option (List F)}{c:Nat}{d b:Option (List F)}:gu (gu Q c d) c b=gu Q c b:=by
 funext e;unfold gu
 split<;>rfl
structure O9(S O O':Nat->Prop)(g:Nat)(w w':ag):Prop where
 sub:∀b,O b->O' b
 new:∀b,O' b->O b\/U w.heap<=b
 at_:∀b,S b\/O b->b≠g->w'.heap[b]? =w.heap[b]?
 size:U w.heap<=U w'.heap
 tape:dG w'=dG w
 os:w'.os=w.os
 output:ga w'=ga w
def Sy(D:vt[H]? =K A)(x:N<=1000000):∀(e:List aC) (pre:List aC) (O:Nat->Prop) (w:ag) (a:bt) (Q:Nat->Option (List F)),BP S O c g N pre w a->Q c=K (e.map aC.agg)->I pre+I e<=N->
 (∀i j,Row j g N (pre++e)->i g->jb S i j->O9 S O i g w j->eR (aH ax) ax J S i (gu Q c Z) (aX (C.at (bw T A.dst<|aG g (I<|pre++e) N)<|bY vt Ah::B) R) j)->
 eR (aH ax) ax J S O Q (aX ((base 117).at a [bJ<|lM rj,gx<|lM rj,fh 0,bJ<|pL rj])<|C.at T (bY vt (H::Ah)::B)::R) w:=by
 intro e
 induction e with
 |nil=>
  intro pre O w a Q b l n k;refine Sw b l D ?_;have:=k O w (by rw[l5];exact b.row) b.own b.inr ⟨λ_ b=>b,λ_ b=>av b,λ_ _ _=>rfl,aZ _,rfl,rfl,rfl⟩;rw[l5] at this;exact this
 |cons m e E=>
  intro pre O w a Q b l n k;simp only[oh] at n;refine Sz b l aa x λi j t v q G L r M P U=>E (pre++[m]) i j t _ v (by unfold gu;simp) bS λs V p y z h=>?_;rw[adg];have u:pre++[m]++e=pre++m::e:=aI;rw[u] at p ⊢;exact k s V p y z ⟨λd f=>h.sub d<|q d f,λd f=>eD (h.new d f) (G d) λf=>ai<|dW r f,λd f o=>aB (h.at_ d (f.imp (λb=>b)<|q d) o)<|L d f o,dW r h.size,aB h.tape M,aB h.os P,aB h.output U⟩
def FB(b d:F)(m:Nat)(j:2<=m):Knows ⟨#[b,d]++jw (m-2) bR,[]⟩ m [(0,b),(1,d)]:=by
 have h:∀e v,(#[b,d]:Array F)[e]? =K v->cx ⟨#[b,d]++jw (m-2) bR,[]⟩ e=v:=λe v f=>by
  unfold cx;rw[jh,Array.getElem?_append_left (dn.1 f).1,f];rfl
 refine Knows.cons (Knows.cons (l:=[]) ⟨?_,λs v i=>by simp at i⟩<|h 1 d Y)<|h 0 b Y;simp;omega
def Sv{r:List aC}(v:vt[H]? =K A)(l:jb S O w)(F:Q c=K (r.map aC.agg))(x:I r<=N)(n:N<=1000000)
 (u:∀j k g,U w.heap<=g->Row k g N r->j g->D5 S O j w k->eR (aH ax) ax J S j (gu Q c Z) (aX (C.at (T.put A.dst<|aG g (I r) N)<|bY vt Ah::B) R) k):
 eR (aH ax) ax J S O Q (aX (eT ax 117 #[fZ<|K c,n9 N] dM)<|C.at T (bY vt (H::Ah)::B)::R) w:=by
 have b:=mH (aH ax) ax J S Q;have⟨G,s,E,z,p⟩:=DX;rw[enter_at _ Tryz.func117 Y];have d:=FB (fZ<|K c) (n9 N) 18 az;refine cy b<|dP b [0] Y ?_;refine rD b d aF λd=>?_;refine dr b<|cy b<|dP b [0,1,2] Y<|eL b d λd=>oS b l az Y Y (aq (m7 (bZ #[ak aj,z9 0,ay ⟨#[]⟩]).cells<|N*G.size) 59) trivial (λL=>aG L 0 N) (F7 (L:=0) Y Y (d.of Y) y3 s E (cH _) (jC p) aa) λg M m D hrel o=>?_;replace d:=d.put (d:=8) az<|aG g 0 N;refine lK b d λd=>?_;refine dr b<|cy b<|cy b<|dP b [0] Y<|eL b d λd=>dr b<|nS b<|xL b<|Sy (g:=g) (N:=N) v n r [] _ M _ Q ⟨(d.nil.cons<|d.slot 5 _ Y).cons<|d.slot 9 _ Y,by simp only[put_defers],(l.new m D),ai Y,⟨⟨_,o,by rw[size_madeCells,z],rfl⟩,cH _⟩⟩ F (cN x) λj k y q t i=>u j k g m y q ⟨λe f=>i.sub e<|av f,λe f=>?_,⟨λe f=>?_,?_,aB i.tape hrel.tape,aB i.os hrel.os,aB i.output hrel.output⟩,t⟩;rcases i.new e f with(h|rfl)|h;exact av h;exact ai m;exact ai<|dW hrel.size h;have:=l e f;rw[i.at_ e (f.imp (λh=>h) λh=>av h)<|by omega,hrel.at_ e f];exact dW hrel.size i.size
end
structure oF(S:Nat->Prop)(w0:ag)(s:Nat->ByteArray)(k e:Nat->Int)(N cb n kb nk eb ne wb:Nat)(ws:List Bool)(V:Nat->List aC):Prop where
 sz:∀b,S b->b<U w0.heap
 sin:∀j,ws[j]? =K af->zm S w0 (s j) (k j) (e j) cb n kb nk eb ne j/\(s j).size<=aV/\lI (s j) (k j) (e j) (N:Int) (V j)
 wl:wb<U w0.heap
 wc:∀j y,ws[j]? =K y->ap w0 ⟨wb,0+j*1,Z⟩=K (ak y)
 nn:N<=1000000
 mm:I ws<=1000000
 pos:1<=U w0.heap
def mb (ws:List Bool)(ch:Nat->Nat)(i:Nat):List F:=(fp<|I ws).map λb=>if b<i/\ws[b]? =K af then fZ (K<|ch b) else fZ Z
def vj{ws:List Bool}{ch:Nat->Nat}{i:Nat}:I (mb ws ch i)=I ws:=by simp[mb]
def A0{ws:List Bool}{ch:Nat->Nat}{i b:Nat}(c:b<I ws):(mb ws ch i)[b]? =K (if b<i/\ws[b]? =K af then fZ (K<|ch b) else fZ Z):=by
 simp[mb,c]
structure n8(S O:Nat->Prop)(w0 w:ag)(N cb n cap kb nk ck eb ne ce:Nat)(x:F)(bb fb:Nat):Prop where
 si:aD w0 w
 low:∀b,b<U w0.heap->S b\/O b
 inr:jb S O w
 fU:∀b,S b->¬O b
 ob:O bb
 of:O fb
 lb:U w0.heap<=bb
 lf:U w0.heap<=fb
 hb:w.heap[bb]? =K (aq #[n9 N,aG cb n cap] 139 (0,0))
 hf:w.heap[fb]? =K (aq #[aG kb nk ck,aG eb ne ce,x] 105 (0,0))
structure HZ(O:Nat->Prop)(w:ag)(ws:List Bool)(V:Nat->List aC)(ch:Nat->Nat)(p q:Nat)(μ:Nat->Option (List F)):Prop where
 mu:∀j,p<=j->j<q->ws[j]? =K af->μ (ch j)=K ((V j).map aC.agg)
 no:∀c,μ c≠Z->∃j,p<=j/\j<q/\ws[j]? =K af/\ch j=c
 inj:∀j j',j<q->j'<q->ws[j]? =K af->ws[j']? =K af->ch j=ch j'->j=j'
 lt:∀j,j<q->ws[j]? =K af->ch j<U w.heap
section
variable{S O:Nat->Prop}{w J:ag}{s:Nat->ByteArray}{k e:Nat->Int}{N cb n nk ck ne ce g8:Nat}{V:Nat->List aC}{bP:Nat}{a:bt}{Q:F->ag->Prop}{R:List aO}
def n8.rel(h:n8 S O w0 w N cb n cap kb nk ck eb ne ce x bb fb)(f:∀b,S b\/O b->U w0.heap<=b->(b=bb\/b=fb)->J.heap[b]? =w.heap[b]?)(l:∀b,b<U w0.heap->J.heap[b]? =w.heap[b]?)(p:U w.heap<=U J.heap)(q:J.tape=w.tape)(m:J.os=w.os)(o:J.output=w.output)(j:jb S Qa J)(d:∀b,O b->b<U w0.heap\/b=bb\/b=fb->Qa b)(g:∀b,S b->¬Qa b):n8 S Qa w0 J N cb n cap kb nk ck eb ne ce x bb fb:=
 ⟨⟨aB m h.si.os,aB q h.si.tape,aB o h.si.output,dW h.si.size p,λb c=>aB (l b c)<|cT h.si b c⟩,λb c=>(h.low b c).imp (λh=>h) λh=>d b h<|av c,j,g,d bb h.ob<|ai<|av Y,d fb h.of<|ai<|ai Y,h.lb,h.lf,aB (f bb (ai h.ob) h.lb<|av Y) h.hb,aB (f fb (ai h.of) h.lf<|ai Y) h.hf⟩
def n8.new(h:n8 S O w0 w N cb n cap kb nk ck eb ne ce x bb fb)(f:U w.heap<=m)(j:U J.heap=m+1)(d:RelB (λb=>S b\/O b) w J):n8 S (λb=>O b\/b=m) w0 J N cb n cap kb nk ck eb ne ce x bb fb:=
 h.rel (λb c _ _=>d.at_ b c) (λb c=>d.at_ b<|h.low b c) d.size d.tape d.os d.output (h.inr.new f j) (λb c _=>av c) (λb c g=>eD g (h.fU b c) λe=>cA<|h.inr b<|av c)
def n8.set(h:n8 S O w0 w N cb n cap kb nk ck eb ne ce x bb fb)(b:tc S O m Ql w J)(f:m≠bb)(g:m≠fb)(l:U w0.heap<=m):n8 S O w0 J N cb n cap kb nk ck eb ne ce x bb fb:=
 h.rel (λc d _ j=>b.at_ c d (by rcases j with rfl|rfl;exact λe=>f<|bq e;exact λe=>g<|bq e)) (λc d=>b.at_ c (h.low c d) aa) b.size b.tape b.os b.output (h.inr.set b) (λc d _=>d) h.fU
end
def zQ (fn:cF):Array cC:=match lM fn with
 |aS _ (aS _<|aS (fT _<|aS _<|aS _<|.cond _ (aS _<|iB _ b _) _) _)=>b
 |_=> #[]
def Fh (bP fb bb i b N cb n cap kb nk ck eb ne ce m:Nat)(x:F):List (Nat×F):=
 [(29,aG bP m m),(30,n9 i),(31,cU<|K ⟨bP,0+i*1,Z⟩),(32,fZ<|K b),(33,r9 (N:Int) cb n cap),(34,sw kb nk ck eb ne ce x),(35,n9 i)]
def UC:List Nat:=[29,30,31,32,33,34,35]
def J6:o4 (zQ ee) (λi=>decide (i<7)) 7 73 UC=af:=aR
def UE:(dI (fp<|U<|zQ ee) λi=> !(λi=>decide (i<=7)) i||i==7||iT (under (zQ ee) (U<|zQ ee) (match (zQ ee)[7]? with
 |some b=>(b.after.toList.filter λe=>jl eu e).map (·.on)
 |none=>[])) i)=af:=aR
def AU:(ax.info? 139).map (·.size)=K 2:=aR
def JP:(ax.info? 105).map (·.size)=K 3:=aR
def R2:(ax.info? 193).map (·.size)=K 1:=aR
section
variable{S O:Nat->Prop}{w R:ag}{s:Nat->ByteArray}{k e:Nat->Int}{N cb n nk ck ne ce g8:Nat}{V:Nat->List aC}{bP:Nat}{a:bt}{Q:List aO}
structure yL(S O:Nat->Prop)(w0 w:ag)(N cb n cap kb nk ck eb ne ce:Nat)(x:F)(wb g8:Nat)(ws:List Bool)(V:Nat->List aC)(ch:Nat->Nat)(bb fb bP i:Nat)(μ:Nat->Option (List F))(a:bt):Prop where
 kn:Knows a 73 [(16,n9 i),(15,n9<|I ws),(8,aG bP (I ws)<|I ws),(4,(aK fb)),(3,(aK bb)),(2,aG wb (I ws) g8)]
 df:bU a=[]
 own:n8 S O w0 w N cb n cap kb nk ck eb ne ce x bb fb
 oc:O bP
 lc:U w0.heap<=bP
 cb:bP≠bb
 cf:bP≠fb
 hc:w.heap[bP]? =K (aq (cR<|mb ws ch i) 193 (0,0))
 EG:HZ O w ws V ch 0 i μ
def RY(h:ws[i]? ≠K af):mb ws ch (i+1)=mb ws ch i:=by
 unfold mb;refine vZ λb f=>?_;by_cases e:b=i;subst e;simp[h];have:(b<i+1/\ws[b]? =K af)↔(b<i/\ws[b]? =K af):=by
  constructor;rintro⟨d,c⟩;exact⟨aa,c⟩;rintro⟨d,c⟩;exact⟨aa,c⟩
 simp only[this]
def RX(h:ws[i]? =K af):(mb ws ch i).take i++[fZ<|K m]++(mb ws ch i).drop (i+1)=mb ws (λb=>if b=i then m else ch b) (i+1):=by
 have l:i<I ws:=(fF.1 h).1;apply List.ext_getElem?;intro b;rcases jc b (I ws) with c|c;rw[A0 c];rcases Nat.lt_trichotomy b i with d|d|d;rw[ij,tX<|by simp[vj];omega,vW,if_pos d,A0 c];have e:(b<i+1/\ws[b]? =K af)↔(b<i/\ws[b]? =K af):=⟨λh=>⟨d,h.2⟩,λh=>⟨aa,h.2⟩⟩;have f:¬b=i:=aa;simp only[e,f,if_false];subst d;rw[ij,rX<|by simp[vj];omega];simp[vj,h,xA<|uU c];rw[rX<|by simp[vj];omega];have g:i+1+(b-(min i (I ws)+1))=b:=aa;simp only[cJ,ng,vj,oh,ze,List.getElem?_drop,g,A0 c];have f:¬(b<i):=aa;have j:¬(b<i+1):=aa;simp only[f,j,false_and,if_false];rw[uS<|by simp[vj];omega,uS<|by rw[vj];exact c]
def go_skip(j:oF S w0 s k e N cb n kb nk eb ne wb ws V)(h:yL S O w0 w N cb n cap kb nk ck eb ne ce x wb g8 ws V ch bb fb bP i μ a)(o:ws[i]? =K aj)
 (H:∀q,yL S O w0 w N cb n cap kb nk ck eb ne ce x wb g8 ws V ch bb fb bP (i+1) μ q->eR (aH ax) ax J S O μ (aX ((base 78).at q [bJ<|lM ee,gx<|lM ee,fh 0,bJ<|pL ee]) Q) w):
 eR (aH ax) ax J S O μ (aX ((base 78).at a [bJ<|lM ee,gx<|lM ee,fh 0,bJ<|pL ee]) Q) w:=by
 have⟨b,E,p,P,L,C,D,G,l⟩:=h;have c:=mH (aH ax) ax J S μ;have M:i<I ws:=(fF.1 o).1;have U:=j.mm;refine cy c<|dP c [0] Y ?_;refine eF c b Y (ak af) (sE Y (b.of Y) (b.of Y) bS) λb=>dr c<|cy c ?_;refine iJ c af (b.of Y)<|nV c ?_;refine cy c<|nS c ?_;refine cy c<|dP c [0,1] Y<|eL c b λb=>?_;refine lK c b λb=>dr c ?_;refine cy c<|dP c [0,1,2,3] Y<|eL c b λb=>?_;refine eL c b λb=>eF c b Y (cU<|K ⟨wb,0+i*1,Z⟩) (pV Y (b.of Y) (b.of Y) vT Tryz.sizeOf4 M) λb=>?_;refine nU c b Y (ak aj) (ju Y (b.of Y) Tryz.isAgg4 (p.low wb j.wl)<|aB (bA p.si (p:=⟨wb,0+i*1,Z⟩) j.wl)<|j.wc i _ o) λb=>dr c ?_;refine iJ c aj (b.of Y)<|nV c ?_;refine ue c<|dP c [0,1] Y<|eF c b Y (z9 ((i+1:Nat):Int)) (uo (j:=1) Y (b.of Y) Y aa) λb=>?_;refine eL c b λb=>dr c<|ve c ?_;have g:ws[i]? ≠K af:=by rw[o];simp
 refine H _ ⟨(((((b.nil.cons<|b.slot 2 _ Y).cons<|b.slot 3 _ Y).cons<|b.slot 4 _ Y).cons<|b.slot 8 _ Y).cons<|b.slot 15 _ Y).cons<|b.slot 16 _ Y,by simp only[put_defers];exact E,p,P,L,C,D,bV (RY g) G,⟨λd y r f=>?_,λv B=>?_,λd u r T f t F=>?_,λd r f=>?_⟩⟩;exact l.mu d y (by rcases jc d i with h|h;exact h;have:d=i:=aa;subst this;exact absurd f g) f;have⟨d,m,z,A⟩:=l.no v B;exact⟨d,m,aa,A⟩;have m:d≠i:=λe=>g<|e▸f;have z:u≠i:=λe=>g<|e▸t;exact l.inj d u aa aa f t F;have m:d≠i:=λe=>g<|e▸f;exact l.lt d aa f
end
section
variable{S O:Nat->Prop}{z w f:ag}{s:Nat->ByteArray}{k e:Nat->Int}{N cb n R A nk q H T W r g8:Nat}{Q:List Bool}{V:Nat->List aC}{C:Nat->Nat}{B M bP:Nat}{a:bt}{y:List aO}{g:List ez}
def go_region(P:oF S z s k e N cb n A nk H T r Q V)(ab:Q[i]? =K af)
 (D:Knows a 73 ((9,n9 i)::(8,aG bP (I Q)<|I Q)::(4,(aK M))::(3,(aK B))::l0))
 (p:n8 S O z w N cb n R A nk q H T W x B M) (a1:O bP) (aF:O c) (aI:ap w ⟨bP,0+i*1,Z⟩=K (.chan<|K c)) (a4:L c=Z) (aQ:w.heap[c]? =K (.chan N #[] aj 0 0 aj))
 (aR:∀E,Knows E 73 (Fh bP M B i c N cb n R A nk q H T W (I Q) x++((9,n9 i)::(8,aG bP (I Q)<|I Q)::(4,(aK M))::(3,(aK B))::l0))->bU E=bU a->
   eR (aH ax) ax J S (λd=>O d/\d≠c) (gu L c<|K<|(V i).map aC.agg) (aX ((base 78).at E g) y) w):
 eR (aH ax) ax J S O L (aX ((base 78).at a<|bJ (iB 7 (zQ ee) af)::g) y) w:=by
 have U:=mH (aH ax) ax J S L;have aU:i<I Q:=(fF.1 ab).1;have aw:pF w B 0 [aJ aM (N:Int),aG cb n R]:=λb v o=>by unfold ap;simp only[p.hb];rw[fq];simpa using o
 have aA:pF w M 0 [ah (K ⟨A,0,Z⟩) nk q,aG H T W,x]:=λb v o=>by unfold ap;simp only[p.hf];rw[fq];simpa using o
 refine zC (Ph:=λi=>decide (i<7)) (l:=Fh bP M B i c N cb n R A nk q H T W (I Q) x) U AF<|uf (u:=7) U az D J6 ?_ ?_ ?_;intro j b m a2 _ _ l;have o:b<7:=cN a2;have:b=0\/b=1\/b=2\/b=3\/b=4\/b=5\/b=6:=aa;rcases this with rfl|rfl|rfl|rfl|rfl|rfl|rfl;cases(show K _=K m from l);exact⟨_,rfl,av ⟨rfl,eY<|iw Y<|j.of Y⟩⟩;cases(show K _=K m from l);exact⟨_,rfl,av ⟨rfl,eY<|iw Y<|j.of Y⟩⟩;cases(show K _=K m from l);exact⟨_,rfl,av ⟨rfl,eY<|pV Y (j.of Y) (j.of Y) Tryz.underlying192 Tryz.sizeOf193 aU⟩⟩;cases(show K _=K m from l);exact⟨_,rfl,av ⟨rfl,ju Y (j.of Y) Tryz.isAgg193 (ai a1) aI⟩⟩;cases(show K _=K m from l);exact⟨_,rfl,av ⟨rfl,oz (cs:=[aJ aM (N:Int),aG cb n R]) Y (j.of Y) tS Y AU (ai p.ob) aw⟩⟩;cases(show K _=K m from l);exact⟨_,rfl,av ⟨rfl,oz (cs:=[ah (K ⟨A,0,Z⟩) nk q,aG H T W,x]) Y (j.of Y) Tryz.underlying105 Y JP (ai p.of) aA⟩⟩;cases(show K _=K m from l);exact⟨_,rfl,av ⟨rfl,eY<|iw Y<|j.of Y⟩⟩;intro m l a5 a8 a7 d X ad a6 u _;have j:=D.fill (Fh bP M B i c N cb n R A nk q H T W (I Q) x) Y;have G:=vB (Dn:=λi=>decide (i<=7)) X ad UE (λb o=>by
  have:b<=7:=cN o;show b<8;omega)
 cases(show K _=K m from l);have⟨aD,aE⟩:=Be X ad Y D.size J6 (λb o=>G b (by
  have:b<8:=o;simp;omega))
 have am:bp d (.tmp 32)= .chan (K c):=aB (u 32 az)<|j.slot 32 _ Y;have an:bp d (.tmp 33)=r9 (N:Int) cb n R:=aB (u 33 az)<|j.slot 33 _ Y;have ao:bp d (.tmp 34)=sw A nk q H T W x:=aB (u 34 az)<|j.slot 34 _ Y;have ar:bp d (.tmp 35)=n9 i:=aB (u 35 az)<|j.slot 35 _ Y;have⟨a3,a0,al⟩:=P.sin i ab;refine WX (args:= #[.chan<|K c,r9 (N:Int) cb n R,sw A nk q H T W x,n9 i]) (vs:=(V i).map aC.agg) (cap:=N) az l Y Y (by simp only[List.map_toArray,kY,List.map_nil,am,an,ao,ar]) aF ?_ a4 aQ (λa9 ae=>?_) ?_;rw[er];rcases al.len with h|h;omega;rw[h];exact cH _;refine aam al a0 ⟨λd t=>⟨cL (p.inr d<|av t) ae.size,λh=>h⟩,λd h=>ff h⟩<|a3.rel λd t=>?_;rw[ae.at_ d<|av t];exact cT p.si d<|P.sz d t;rw[aE];show eR _ _ J S _ _ (aX ((base 78).at d _) y) w;rw[aD];exact dr (mH (aH ax) ax J S _)<|aR _ j<|tj _;intro G;exact absurd (G 7 az) az
def go_round(D:oF S z s k e N cb n A nk H T r Q V)(h:yL S O z w N cb n R A nk q H T W x r g8 Q V C B M bP i L a)(E:Q[i]? =K af)
 (bd:∀an f X a0 aU,yL S an z f N cb n R A nk q H T W x r g8 Q V a0 B M bP (i+1) aU X->eR (aH ax) ax J S an aU (aX ((base 78).at X [bJ<|lM ee,gx<|lM ee,fh 0,bJ<|pL ee]) y) f):
 eR (aH ax) ax J S O L (aX ((base 78).at a [bJ<|lM ee,gx<|lM ee,fh 0,bJ<|pL ee]) y) w:=by
 have⟨b,a9,m,G,aD,ar,aw,bb,o⟩:=h;have c:=mH (aH ax) ax J S L;have al:i<I Q:=(fF.1 E).1;have bv:=D.mm;have bx:=D.nn;have⟨bC,bc,_,_,a7⟩:=DX;refine cy c<|dP c [0] Y ?_;refine eF c b Y (ak af) (sE Y (b.of Y) (b.of Y) bS) λb=>dr c ?_;refine cy c<|iJ c af (b.of Y) ?_;refine nV c<|cy c ?_;refine nS c<|cy c ?_;refine dP c [0,1] Y<|eL c b λb=>?_;refine lK c b λb=>dr c ?_;refine cy c<|dP c [0,1,2,3] Y ?_;refine eL c b λb=>?_;refine eL c b λb=>eF c b Y (cU<|K ⟨r,0+i*1,Z⟩) (pV Y (b.of Y) (b.of Y) vT Tryz.sizeOf4 al) λb=>?_;refine nU c b Y (ak af) (ju Y (b.of Y) Tryz.isAgg4 (m.low r D.wl)<|aB (bA m.si (p:=⟨r,0+i*1,Z⟩) D.wl)<|D.wc i _ E) λb=>dr c ?_;refine iJ c af (b.of Y)<|cy c ?_;refine dP c [0,1,2,3,4,5,6] Y<|eL c b λb=>?_;refine eL c b λb=>eF c b Y (aK B) (nD (off':=0) Y (b.of Y) tS Y vR Y) λb=>?_;refine nU c b Y (n9 N) (ju Y (b.of Y) xp (ai m.ob)<|by unfold ap;simp only[m.hb];rfl) λb=>oS c m.inr az rfl rfl (.chan N #[] aj 0 0 aj) trivial (λn=>.chan<|K n) (Yu rfl (b.of rfl) Tryz.underlying193 bc aa<|jC a7) λj bH bh bk hrel a6=>?_;replace b:=b.put (d:=27) az<|.chan<|K j;have aE:=m.new bh bk hrel;refine eF c b Y (cU<|K ⟨bP,0+i*1,Z⟩) (pV Y (b.of Y) (b.of Y) Tryz.underlying192 Tryz.sizeOf193 al) λb=>?_;have bs:=m.inr bP<|ai G;have aA:j≠bP:=aa;have a1:(mb Q C i).toArray.toList.take (0+i*1)++(fZ<|K j).cells.toList++(mb Q C i).toArray.toList.drop (0+i*1+(fZ<|K j).cells.size)=mb Q (λd=>if d=i then j else C d) (i+1):=by
  rw[<-RX E];simp[jn]
 refine vh c aE.inr (n:=bP) az Y Y (av G) (aq (cR<|(mb Q C i).toArray.toList.take (0+i*1)++(fZ<|K j).cells.toList++(mb Q C i).toArray.toList.drop (0+i*1+(fZ<|K j).cells.size)) 193) trivial (vr (n:=bP) (off:=0+i*1) (v:=.chan<|K j) Y (b.of Y) (b.of Y) R2 (λbF aF=>by simp[jn] at aF;rw[aF];rfl) (ai<|av G) (aB (hrel.at_ bP<|ai G) bb) (by
  show 0+i*1+1<=I (mb Q C i);rw[vj];omega)) λaR F=>?_
 rw[a1] at F;replace b:=b.none bR;have U:=aE.set F ar aw aD;refine dr c ?_;have a8:aR.heap[j]? =K (.chan N #[] aj 0 0 aj):=aB (F.at_ j (ai<|ai Y) aA) a6;have bl:L j=Z:=by
  cases be:L j with
  |none=>rfl
  |some bD=>
   have⟨d,_,ab,p,P⟩:=o.no j (by rw[be];simp);have:=o.lt d ab p;omega
 have bz:=F.size;refine go_region (c:=j) (l0:=[(16,n9 i),(15,n9<|I Q),(2,aG r (I Q) g8)]) D E ((((((((b.nil.cons<|b.slot 2 _ Y).cons<|b.slot 15 _ Y).cons<|b.slot 16 _ Y).cons<|b.slot 3 _ Y).cons<|b.slot 4 _ Y).cons<|b.slot 8 _ Y).cons<|b.slot 9 _ Y)) U (av G) (ai Y) ?_ bl a8 λX l ba=>?_;unfold ap;rw[F.set];simp only[fq,uW];have:=A0 (ws:=Q) (ch:=λd=>if d=i then j else C d) (i:=i+1) al;simp[E] at this;simpa using this;have c:=mH (aH ax) ax J S<|gu L j<|K<|(V i).map aC.agg;refine ue c<|dP c [0,1] Y ?_;refine eF c l Y (z9 ((i+1:Nat):Int)) (uo (j:=1) Y (l.of Y) Y aa) λl=>?_;refine eL c l λl=>dr c<|ve c<|bd _ aR _ (λd=>if d=i then j else C d) _ ⟨(((((l.nil.cons<|l.slot 2 _ Y).cons<|l.slot 3 _ Y).cons<|l.slot 4 _ Y).cons<|l.slot 8 _ Y).cons<|l.slot 15 _ Y).cons<|l.slot 16 _ Y,by simp only[put_defers];rw[ba];simp only[put_defers];exact a9,?_,⟨av G,λe=>aA<|bq e⟩,aD,ar,aw,F.set,⟨λd a2 ab p=>?_,λao ae=>?_,λd am ab bu p aQ P=>?_,λd ab p=>?_⟩⟩;have bm:=m.inr B<|ai m.ob;have bo:=m.inr M<|ai m.of;exact U.rel (λu t _ _=>rfl) (λu t=>rfl) (aZ _) rfl rfl rfl (λu t=>U.inr u<|t.imp (λh=>h) λh=>h.1) (λu t h=>⟨t,by rcases h with h|rfl|rfl<;>omega⟩) λu t bj=>U.fU u t bj.1;by_cases e:d=i;subst e;simp[gu];have:=o.lt d aa p;have bi:C d≠j:=aa;simp only[if_neg e,gu,bi,if_false];exact o.mu d a2 aa p;by_cases e:ao=j;subst e;exact⟨i,cH _,aa,E,aI⟩;unfold gu at ae;rw[if_neg e] at ae;have⟨d,a3,br,a4,a5⟩:=o.no ao ae;exact⟨d,a3,aa,a4,by rw[if_neg<|by omega];exact a5⟩;by_cases v:d=i<;>by_cases ad:am=i;omega;rw[if_pos v,if_neg ad] at P;have:=o.lt am aa aQ;omega;rw[if_neg v,if_pos ad] at P;have:=o.lt d aa p;omega;rw[if_neg v,if_neg ad] at P;exact o.inj d am aa aa p aQ P;by_cases v:d=i;rw[if_pos v];omega;rw[if_neg v];have:=o.lt d aa p;omega
end
def nA (ws:List Bool)(g:Nat->Nat)(V:Nat->List aC)(N:Nat)(i:Nat):List F:=(fp<|I ws).map λa=>if a<i/\ws[a]? =K af then ah (K ⟨g a,0,Z⟩) (I<|V a) N else aF
def vo{ws:List Bool}{g:Nat->Nat}{V:Nat->List aC}{N:Nat}{i:Nat}:I (nA ws g V N i)=I ws:=by simp[nA]
def Bg{ws:List Bool}{g:Nat->Nat}{V:Nat->List aC}{N:Nat}{i a:Nat}(b:a<I ws):(nA ws g V N i)[a]? =K (if a<i/\ws[a]? =K af then ah (K ⟨g a,0,Z⟩) (I<|V a) N else aF):=by
 simp[nA,b]
section
variable{g:Nat->Nat}{V:Nat->List aC}{N:Nat}
def WS(h:ws[i]? ≠K af):nA ws g V N (i+1)=nA ws g V N i:=by
 unfold nA;refine vZ λa e=>?_;by_cases c:a=i;subst c;simp[h];have:(a<i+1/\ws[a]? =K af)↔(a<i/\ws[a]? =K af):=by
  constructor;rintro⟨d,b⟩;exact⟨aa,b⟩;rintro⟨d,b⟩;exact⟨aa,b⟩
 simp only[this]
def WQ(h:ws[i]? =K af):(nA ws g V N i).take i++[ah (K ⟨n,0,Z⟩) (I<|V i) N]++(nA ws g V N i).drop (i+1)=nA ws (λa=>if a=i then n else g a) V N (i+1):=by
 have k:i<I ws:=(fF.1 h).1;apply List.ext_getElem?;intro a;rcases jc a (I ws) with b|b;rw[Bg b];rcases Nat.lt_trichotomy a i with c|c|c;rw[ij,tX<|by simp[vo];omega,vW,if_pos c,Bg b];have e:(a<i+1/\ws[a]? =K af)↔(a<i/\ws[a]? =K af):=⟨λh=>⟨c,h.2⟩,λh=>⟨aa,h.2⟩⟩;have d:¬a=i:=aa;simp only[e,d,if_false];subst c;rw[ij,rX<|by simp[vo];omega];simp[vo,h,xA<|uU b];rw[rX<|by simp[vo];omega];have f:i+1+(a-(min i (I ws)+1))=a:=aa;simp only[cJ,ng,vo,oh,ze,List.getElem?_drop,f,Bg b];have d:¬(a<i):=aa;have j:¬(a<i+1):=aa;simp only[d,j,false_and,if_false];rw[uS<|by simp[vo];omega,uS<|by rw[vo];exact b]
end
def pO (fn:cF):cQ:=match pL fn with
 |aS _ (aS _<|aS (aS _<|fT _<|.loop a) _)=>a
 |_=>ey
def xS (fn:cF):cQ:=match pL fn with
 |aS _ (aS _<|aS _ a)=>a
 |_=>ey
def oT (fn:cF):Array cC:=match pO fn with
 |aS _ (aS _<|aS (fT _<|aS _<|aS _<|.cond _ (aS (iB _ a _) _) _) _)=>a
 |_=> #[]
def yc (fn:cF):Array cC:=match pO fn with
 |aS _ (aS _<|aS (fT _<|aS _<|aS _<|.cond _ (aS _<|iB _ a _) _) _)=>a
 |_=> #[]
def I3:List Nat:=[49,50,51,52,53,54,55,56]
def zD (c bP a i b N m:Nat):List (Nat×F):=[(49,aG c m m),(50,n9 i),(51,aG bP m m),(52,n9 i),(53,cU<|K ⟨bP,0+i*1,Z⟩),(54,fZ<|K b),(55,(aK a)),(56,n9 N)]
def AX (b a c i N:Nat):List (Nat×F):=[(57,aG a c N),(58,cU<|K ⟨b,0+i*1,Z⟩)]
def I4:o4 (oT ee) (λi=>decide (i<8)) 8 73 I3=af:=aR
def I5:o4 (oT ee) (λi=>decide (i<10)) 10 73 ([57,58]++I3)=af:=aR
def Rv:(dI (fp<|U<|oT ee) λi=> !(λi=>decide (i<8)) i||match lN (oT ee) i with|some a=> !(iT ([57,58]:List Nat)) a|none=>af)=af:=aR
def Rw:(dI (fp<|U<|oT ee) λi=> !(λi=>decide (2<=i/\i<=8)) i||i==8||iT (under (oT ee) (U<|oT ee) (match (oT ee)[8]? with
 |some b=>(b.after.toList.filter λa=>jl eu a).map (·.on)
 |none=>[])) i)=af:=aR
def Rx:(dI (fp<|U<|oT ee) λi=> !(λi=>decide (i<=10)) i||i==10||iT (under (oT ee) 3 (match (oT ee)[10]? with
 |some b=>(b.after.toList.filter λa=>jl eu a).map (·.on)
 |none=>[])) i)=af:=aR
def adZ:(rj.name == "runtime.NumGoroutine")=aj:=aR
def WN:(ax.info? 43).map (·.size)=K 1:=aR
section
variable{S O:Nat->Prop}{L w T:ag}{s:Nat->ByteArray}{k e:Nat->Int}{N cb n C p nk f B W z g g8:Nat}{J:List Bool}{V:Nat->List aC}{m:Nat->Nat}{H y bP Q:Nat}{A:Nat->Option (List F)}{a:bt}{R:F->ag->Prop}{q:List aO}{M:List ez}
def n8.UU(h:n8 S O L w N cb n C p nk f B W z x H y)(c:D5 S O Qa w T):n8 S Qa L T N cb n C p nk f B W z x H y:=
 h.rel (λb d _ _=>c.rel.at_ b d) (λb d=>c.rel.at_ b<|h.low b d) c.rel.size c.rel.tape c.rel.os c.rel.output c.inr (λb d _=>c.sub b d) (λb d j=>eD (c.new b j) (h.fU b d) λe=>cA<|h.inr b<|av d)
def Ru(aD:i<I J)
 (u:Knows a 73 ((10,n9 i)::(8,aG bP (I J)<|I J)::(6,aG Q (I J)<|I J)::(3,(aK H))::q5))
 (aw:jb S O w) (ab:O Q) (aC:w.heap[Q]? =K (aq qK 43 (0,0))) (ar:qK.size=I J) (len:Nat)
 (r U:Nat) (j:Array Bool) (o:bt) (t:gM (oT ee) (λi=>decide (i<10)) a (fill a<|AX Q gn len i N++zD Q bP H i c N (I J)) j o) (G:∀i,(λi=>decide (2<=i/\i<=8)) i=af->cB j i aj=af) (X:n5 j<=r)
 (aA:∀T v,tc S O Q (aq (cR<|qK.toList.take i++[ah (K ⟨gn,0,Z⟩) len N]++qK.toList.drop (i+1)) 43) w T->Knows v 73 (AX Q gn len i N++zD Q bP H i c N (I J)++((10,n9 i)::(8,aG bP (I J)<|I J)::(6,aG Q (I J)<|I J)::(3,(aK H))::q5))->bU v=bU a->
   eR (aH ax) ax R S O A (aX ((base 78).at v M) q) T):
 eR (aH ax) ax R S O A (aX ((base 78).at o<|bY (oT ee) (lX eu (oT ee) r U j [])::M) q) w:=by
 have D:=mH (aH ax) ax R S A;refine uf (Dn:=λi=>decide (2<=i/\i<=8)) (u:=10) D az u I5 ?_ ?_ ?_ r U j o t G X;intro d b l aE G aR h;have aI:b<10:=cN aE;have aQ:¬(2<=b/\b<=8):=cN G;have:b=0\/b=1\/b=9:=aa;rcases this with rfl|rfl|rfl;cases(show K _=K l from h);exact⟨_,rfl,av ⟨rfl,eY<|iw Y<|d.of Y⟩⟩;cases(show K _=K l from h);exact⟨_,rfl,av ⟨rfl,eY<|iw Y<|d.of Y⟩⟩;cases(show K _=K l from h);exact⟨_,rfl,av ⟨rfl,eY<|pV Y (d.of Y) (d.of Y) Tryz.underlying26 Tryz.sizeOf43 aD⟩⟩;intro l h r U j o t ad X aU _;have d:=u.fill (AX Q gn len i N++zD Q bP H i c N (I J)) Y;have E:=vB (Dn:=λi=>decide (i<=10)) t ad Rx (λb P=>by
  have:b<=10:=cN P;show b<11;omega)
 cases(show K _=K l from h);have⟨an,ao⟩:=Be t ad Y u.size I5 (λb P=>E b (by
  have:b<11:=P;simp;omega))
 rw[ao];subst an;refine vh D aw (n:=Q) az h Y ab (aq (cR<|qK.toList.take (0+i*1)++(ah (K ⟨gn,0,Z⟩) len N).cells.toList++qK.toList.drop (0+i*1+(ah (K ⟨gn,0,Z⟩) len N).cells.size)) 43) trivial (vr (n:=Q) (off:=0+i*1) (v:=aG gn len N) Y (d.of Y) (d.of Y) WN (λa0 al=>by simp[jn] at al;rw[al];rfl) (ai ab) aC (by
  show 0+i*1+1<=qK.size;rw[ar];omega)) λaF ae=>?_
 refine dr D (aA aF _ ?_ (d.none bR)<|by rw[put_defers];exact tj _);have am:qK.toList.take (0+i*1)++(ah (K ⟨gn,0,Z⟩) len N).cells.toList++qK.toList.drop (0+i*1+(ah (K ⟨gn,0,Z⟩) len N).cells.size)=qK.toList.take i++[ah (K ⟨gn,0,Z⟩) len N]++qK.toList.drop (i+1):=by simp[jn]
 rw[am] at ae;exact ae;intro E;exact absurd (E 10 az) az
def Ry(ae:oF S L s k e N cb n p nk B W g J V)(al:J[i]? =K af)
 (v:Knows a 73 ((10,n9 i)::(8,aG bP (I J)<|I J)::(6,aG Q (I J)<|I J)::(3,(aK H))::l0))
 (ab:n8 S O L w N cb n C p nk f B W z x H y) (a8:O bP) (aQ:bl w bP (0+i*1) (fZ<|K c)) (bd:A c=K ((V i).map aC.agg)) (ao:O Q) (a7:w.heap[Q]? =K (aq qK 43 (0,0))) (aR:qK.size=I J)
 (a5:∀r u T l t,U w.heap<=l->Row u l N (V i)->r l->D5 S O r w u->tc S r Q (aq (cR<|qK.toList.take i++[ah (K ⟨l,0,Z⟩) (I<|V i) N]++qK.toList.drop (i+1)) 43) u T->Knows t 73 (AX Q l (I<|V i) i N++zD Q bP H i c N (I J)++((10,n9 i)::(8,aG bP (I J)<|I J)::(6,aG Q (I J)<|I J)::(3,(aK H))::l0))->bU t=bU a->
   eR (aH ax) ax R S r (gu A c Z) (aX ((base 78).at t M) q) T):
 eR (aH ax) ax R S O A (aX ((base 78).at a<|bJ (iB 15 (oT ee) af)::M) q) w:=by
 have P:=mH (aH ax) ax R S A;have an:i<I J:=(fF.1 al).1;have⟨_,_,bb⟩:=ae.sin i al;refine zC (Ph:=λi=>decide (i<8)) (l:=zD Q bP H i c N<|I J) P AF<|uf (u:=8) P az v I4 ?_ ?_ ?_;intro j b o a9 _ _ d;have E:b<8:=cN a9;have:b=0\/b=1\/b=2\/b=3\/b=4\/b=5\/b=6\/b=7:=aa;rcases this with rfl|rfl|rfl|rfl|rfl|rfl|rfl|rfl;cases(show K _=K o from d);exact⟨_,rfl,av ⟨rfl,eY<|iw Y<|j.of Y⟩⟩;cases(show K _=K o from d);exact⟨_,rfl,av ⟨rfl,eY<|iw Y<|j.of Y⟩⟩;cases(show K _=K o from d);exact⟨_,rfl,av ⟨rfl,eY<|iw Y<|j.of Y⟩⟩;cases(show K _=K o from d);exact⟨_,rfl,av ⟨rfl,eY<|iw Y<|j.of Y⟩⟩;cases(show K _=K o from d);exact⟨_,rfl,av ⟨rfl,eY<|pV Y (j.of Y) (j.of Y) Tryz.underlying192 Tryz.sizeOf193 an⟩⟩;cases(show K _=K o from d);exact⟨_,rfl,av ⟨rfl,ju Y (j.of Y) Tryz.isAgg193 (ai a8) aQ⟩⟩;cases(show K _=K o from d);exact⟨_,rfl,av ⟨rfl,eY<|nD (off':=0) Y (j.of Y) tS Y vR Y⟩⟩;cases(show K _=K o from d);exact⟨_,rfl,av ⟨rfl,ju Y (j.of Y) xp (ai ab.ob)<|by unfold ap;simp only[ab.hb];rfl⟩⟩;intro o d aD be bj G X ad bi am _;have j:=v.fill (zD Q bP H i c N<|I J) Y;have a1:=vB (Dn:=λi=>decide (2<=i/\i<=8)) X ad Rw (λb E=>by
  have:2<=b/\b<=8:=cN E;show b<11;omega)
 cases(show K _=K o from d);have aw:bp G (.tmp 54)=fZ (K c):=aB (am 54 az)<|j.slot 54 _ Y;have aA:bp G (.tmp 56)=n9 N:=aB (am 56 az)<|j.slot 56 _ Y;refine I1 P az d Y Y Tryz.func117 adZ Y ?_;have aI:(#[Operand.tmp 54,.tmp 56].map (bp G))=#[fZ<|K c,n9 N]:=by simp only[List.map_toArray,kY,List.map_nil,aw,aA]
 rw[aI];refine Sv (r:=V i) d ab.inr bd ?_ ae.nn λr u l a3 ba aE D=>?_;rcases bb.len with h|h;omega;rw[h];exact cH _;have a2:=X.Cv (l2:=AX Q l (I<|V i) i N) (r3:=λi=>decide (i<10)) (n:=73) (v:=aG l (I<|V i) N) ad d v.size I4 Y (λb E=>by
  have:b<8:=cN E;simp;omega) Y Rv (λbh aU=>by cases aU;rfl)
 refine Ru (gn:=l) (len:=I<|V i) (c:=c) an v D.inr (D.sub Q ao) (aB (D.rel.at_ Q<|ai ao) a7) aR aD be _ _ a2 a1 ?_ λT t bc ar a0=>a5 r u T l t a3 ba aE D bc ar a0;have⟨_,_,a4,a6,_⟩:=mem_ready ad;have:=Av (bV X.size a4) a6;omega;intro aF;exact absurd (aF 10 az) az
end
def F3:List Nat:=[59,60,61,62,63,64,65,66,67,68,69]
def um (R H A i J N m:Nat):List (Nat×F):=[(59,ak af),(60,ak af),(61,aG R m m),(62,n9 i),(63,cU<|K ⟨R,0+i*1,Z⟩),(64,aG A J N),(65,n9 J),(66,(aK H)),(67,n9 N),(68,ak<|(J:Int)==(N:Int)),(69,ak<|(J:Int)==(N:Int))]
def okF:List (Nat×F):=[(59,ak aj),(60,ak aj),(61,bR),(62,bR),(63,bR),(64,bR),(65,bR),(66,bR),(67,bR),(68,bR),(69,ak aj)]
def CQ:o4 (yc ee) (λi=>decide (i<11)) 11 73 F3=af:=aR
def Lr:(dI (fp<|U<|yc ee) λi=> !(λi=>decide (i<=11)) i||i==11||iT (under (yc ee) 1 (match (yc ee)[11]? with
 |some b=>(b.after.toList.filter λe=>jl eu e).map (·.on)
 |none=>[])) i)=af:=aR
section
variable{S O:Nat->Prop}{z w:ag}{s:Nat->ByteArray}{k e:Nat->Int}{N cb n M nk y v r f q g8:Nat}{T:List Bool}{V:Nat->List aC}{p g:Nat->Nat}{H c bP R A J:Nat}{C:Nat->Option (List F)}{a:bt}{Q:F->ag->Prop}{L:List aO}{e5:Bool}
def Ye(aw:i<I T)
 (u:Knows a 73 ((7,ak e5)::(10,n9 i)::(6,aG R (I T)<|I T)::(3,(aK H))::l0)) (aI:jb S O w) (aD:O R) (aC:O H) (an:ap w ⟨R,0+i*1,Z⟩=K (aG A J N)) (ao:ap w ⟨H,0,Z⟩=K (n9 N))
 (ad:∀G ae,Knows G 73 ((7,ak<|e5&&((J:Int)==(N:Int)))::(ae++((7,ak e5)::(10,n9 i)::(6,aG R (I T)<|I T)::(3,(aK H))::l0)))->ae.map (·.1)=F3->bU G=bU a->
   eR (aH ax) ax Q S O C (aX ((base 78).at G B) L) w):
 eR (aH ax) ax Q S O C (aX ((base 78).at a<|bJ (iB 16 (yc ee) af)::B) L) w:=by
 have o:=mH (aH ax) ax Q S C;cases e5 with
 |true=>
  refine zC (Ph:=λi=>decide (i<11)) (l:=um R H A i J N<|I T) o AF<|uf (u:=11) o az u CQ ?_ ?_ ?_;intro j b d X _ _ h;have m:b<11:=cN X;have l:∀d:cC,d.guard=K (1,af)->eI d (yielded (yc ee) (fill a<|um R H A i J N<|I T).tmps)=af:=λd U=>HQ (d:=60) (b:=af) U Y (j.slot 60 _ Y) (by rw[j.size];decide);have:b=0\/b=1\/b=2\/b=3\/b=4\/b=5\/b=6\/b=7\/b=8\/b=9\/b=10:=aa;rcases this with rfl|rfl|rfl|rfl|rfl|rfl|rfl|rfl|rfl|rfl|rfl;cases(show K _=K d from h);exact⟨_,rfl,av ⟨rfl,eY<|iw Y<|j.of Y⟩⟩;cases(show K _=K d from h);exact⟨_,rfl,av ⟨rfl,eY<|iw Y<|j.of Y⟩⟩;cases(show K _=K d from h);exact⟨_,rfl,av ⟨l _ Y,eY<|iw Y<|j.of Y⟩⟩;cases(show K _=K d from h);exact⟨_,rfl,av ⟨l _ Y,eY<|iw Y<|j.of Y⟩⟩;cases(show K _=K d from h);exact⟨_,rfl,av ⟨l _ Y,eY<|pV Y (j.of Y) (j.of Y) Tryz.underlying26 Tryz.sizeOf43 aw⟩⟩;cases(show K _=K d from h);exact⟨_,rfl,av ⟨l _ Y,ju Y (j.of Y) Tryz.isAgg43 (ai aD) an⟩⟩;cases(show K _=K d from h);exact⟨_,rfl,av ⟨l _ Y,eY<|ye Y (j.of Y) y3⟩⟩;cases(show K _=K d from h);exact⟨_,rfl,av ⟨l _ Y,eY<|nD (off':=0) Y (j.of Y) tS Y vR Y⟩⟩;cases(show K _=K d from h);exact⟨_,rfl,av ⟨l _ Y,ju Y (j.of Y) xp (ai aC) ao⟩⟩;cases(show K _=K d from h);exact⟨_,rfl,av ⟨l _ Y,eY<|Yq Y (j.of Y)<|j.of Y⟩⟩;cases(show K _=K d from h);exact⟨_,rfl,av ⟨rfl,eY<|Gb Y (j.of Y)<|j.of Y⟩⟩;intro d h am aF aE al D E aA ar _;have j:=u.fill (um R H A i J N<|I T) Y;have t:=vB (Dn:=λi=>decide (i<=11)) D E Lr (λb m=>by
   have:b<=11:=cN m;show b<12;omega)
  cases(show K _=K d from h);have⟨P,ab⟩:=Be D E Y u.size CQ (λb m=>t b (by
   have:b<12:=m;simp;omega))
  rw[ab];subst P;refine tf o (by decide) h Y (z2 Y<|j.of Y) ?_;exact dr o (ad _ (um R H A i J N<|I T) (j.put (d:=7) az<|ak<|(J:Int)==(N:Int)) Y<|by rw[put_defers];exact tj _);intro t;exact absurd (t 11 az) az
 |false=>
  refine zC (Ph:=λi=>decide (i<11)) (l:=okF) o AF<|uf (u:=11) o az u CQ ?_ ?_ ?_;intro j b d X _ _ h;have m:b<11:=cN X;have l:∀d:cC,d.guard=K (1,af)->eI d (yielded (yc ee) (fill a okF).tmps)=aj:=λd U=>HQ (d:=60) (b:=aj) U Y (j.slot 60 _ Y) (by rw[j.size];decide);have:b=0\/b=1\/b=2\/b=3\/b=4\/b=5\/b=6\/b=7\/b=8\/b=9\/b=10:=aa;rcases this with rfl|rfl|rfl|rfl|rfl|rfl|rfl|rfl|rfl|rfl|rfl;cases(show K _=K d from h);exact⟨_,rfl,av ⟨rfl,eY<|iw Y<|j.of Y⟩⟩;cases(show K _=K d from h);exact⟨_,rfl,av ⟨rfl,eY<|iw Y<|j.of Y⟩⟩;cases(show K _=K d from h);exact⟨_,rfl,ai ⟨l _ Y,rfl⟩⟩;cases(show K _=K d from h);exact⟨_,rfl,ai ⟨l _ Y,rfl⟩⟩;cases(show K _=K d from h);exact⟨_,rfl,ai ⟨l _ Y,rfl⟩⟩;cases(show K _=K d from h);exact⟨_,rfl,ai ⟨l _ Y,rfl⟩⟩;cases(show K _=K d from h);exact⟨_,rfl,ai ⟨l _ Y,rfl⟩⟩;cases(show K _=K d from h);exact⟨_,rfl,ai ⟨l _ Y,rfl⟩⟩;cases(show K _=K d from h);exact⟨_,rfl,ai ⟨l _ Y,rfl⟩⟩;cases(show K _=K d from h);exact⟨_,rfl,ai ⟨l _ Y,rfl⟩⟩;cases(show K _=K d from h);exact⟨_,rfl,av ⟨rfl,eY<|Ga Y (j.of Y) Y⟩⟩;intro d h am aF aE al D E aA ar _;have j:=u.fill okF Y;have t:=vB (Dn:=λi=>decide (i<=11)) D E Lr (λb m=>by
   have:b<=11:=cN m;show b<12;omega)
  cases(show K _=K d from h);have⟨P,ab⟩:=Be D E Y u.size CQ (λb m=>t b (by
   have:b<12:=m;simp;omega))
  rw[ab];subst P;refine tf o (by decide) h Y (z2 Y<|j.of Y) ?_;exact dr o (ad _ okF (j.put (d:=7) az<|ak aj) Y<|by rw[put_defers];exact tj _);intro t;exact absurd (t 11 az) az
end
structure tL(S O:Nat->Prop)(w0 w:ag)(N cb n cap kb nk ck eb ne ce:Nat)(x:F)(wb g8:Nat)(ws:List Bool)(V:Nat->List aC)(ch g:Nat->Nat)(bb fb bP lb i:Nat)(e5:Bool)(μ:Nat->Option (List F))(a:bt):Prop where
 kn:Knows a 73 [(42,n9 i),(41,n9<|I ws),(8,aG bP (I ws)<|I ws),(7,ak e5),(6,aG lb (I ws)<|I ws),(3,(aK bb)),(2,aG wb (I ws) g8)]
 df:bU a=[]
 own:n8 S O w0 w N cb n cap kb nk ck eb ne ce x bb fb
 oc:O bP
 hc:w.heap[bP]? =K (aq (cR<|mb ws ch<|I ws) 193 (0,0))
 ol:O lb
 ll:U w0.heap<=lb
 nb:lb≠bb
 nf:lb≠fb
 nc:lb≠bP
 hl:w.heap[lb]? =K (aq (cR<|nA ws g V N i) 43 (0,0))
 rows:∀j,j<i->ws[j]? =K af->Row w (g j) N (V j)/\O (g j)/\g j≠lb/\U w0.heap<=g j
 EG:HZ O w ws V ch i (I ws) μ
 ok:e5=af↔∀j,j<i->ws[j]? =K af->I (V j)=N
section
variable{S O:Nat->Prop}{w R:ag}{s:Nat->ByteArray}{k e:Nat->Int}{N cb n nk ck ne ce g8:Nat}{V:Nat->List aC}{g:Nat->Nat}{bP lb:Nat}{a:bt}{Q:List aO}{e5:Bool}
def acF(l:oF S w0 s k e N cb n kb nk eb ne wb ws V)(h:tL S O w0 w N cb n cap kb nk ck eb ne ce x wb g8 ws V ch g bb fb bP lb i e5 μ a)(p:ws[i]? =K aj)
 (F:∀t,tL S O w0 w N cb n cap kb nk ck eb ne ce x wb g8 ws V ch g bb fb bP lb (i+1) e5 μ t->eR (aH ax) ax J S O μ (aX ((base 78).at t [bJ<|pO ee,gx<|pO ee,fh 2,bJ<|xS ee]) Q) w):
 eR (aH ax) ax J S O μ (aX ((base 78).at a [bJ<|pO ee,gx<|pO ee,fh 2,bJ<|xS ee]) Q) w:=by
 have⟨b,C,r,P,D,W,G,H,M,L,E,ab,m,T⟩:=h;have c:=mH (aH ax) ax J S μ;have o:i<I ws:=(fF.1 p).1;have X:=l.mm;refine cy c<|dP c [0] Y ?_;refine eF c b Y (ak af) (sE Y (b.of Y) (b.of Y) bS) λb=>dr c<|cy c ?_;refine iJ c af (b.of Y)<|nV c ?_;refine cy c<|nS c ?_;refine cy c<|dP c [0,1] Y<|eL c b λb=>?_;refine lK c b λb=>dr c ?_;refine cy c<|dP c [0,1,2,3] Y<|eL c b λb=>?_;refine eL c b λb=>eF c b Y (cU<|K ⟨wb,0+i*1,Z⟩) (pV Y (b.of Y) (b.of Y) vT Tryz.sizeOf4 o) λb=>?_;refine nU c b Y (ak aj) (ju Y (b.of Y) Tryz.isAgg4 (r.low wb l.wl)<|aB (bA r.si (p:=⟨wb,0+i*1,Z⟩) l.wl)<|l.wc i _ p) λb=>dr c ?_;refine iJ c aj (b.of Y)<|nV c ?_;refine ue c<|dP c [0,1] Y<|eF c b Y (z9 ((i+1:Nat):Int)) (uo (j:=1) Y (b.of Y) Y aa) λb=>?_;refine eL c b λb=>dr c<|ve c ?_;have y:ws[i]? ≠K af:=by rw[p];simp
 have q:∀d,ws[d]? =K af->d≠i:=λd j e=>y<|e▸j;refine F _ ⟨((((((b.nil.cons<|b.slot 2 _ Y).cons<|b.slot 3 _ Y).cons<|b.slot 6 _ Y).cons<|b.slot 7 _ Y).cons<|b.slot 8 _ Y).cons<|b.slot 41 _ Y).cons<|b.slot 42 _ Y,by simp only[put_defers];exact C,r,P,D,W,G,H,M,L,bV (WS y) E,λd o j=>ab d (cA<|q d j) j,⟨λd U o j=>m.mu d aa o j,λz B=>?_,m.inj,m.lt⟩,?_⟩;have⟨d,u,f,v,A⟩:=m.no z B;exact⟨d,cA<|q d v,f,v,A⟩;rw[T];constructor;intro h d u f;exact h d (cA<|q d f) f;intro h d u f;exact h d aa f
def acE(B:oF S w0 s k e N cb n kb nk eb ne wb ws V)(h:tL S O w0 w N cb n cap kb nk ck eb ne ce x wb g8 ws V ch g bb fb bP lb i e5 μ a)(o:ws[i]? =K af)
 (a4:∀D R L aI bc aD,tL S D w0 R N cb n cap kb nk ck eb ne ce x wb g8 ws V ch aI bb fb bP lb (i+1) bc aD L->eR (aH ax) ax J S D aD (aX ((base 78).at L [bJ<|pO ee,gx<|pO ee,fh 2,bJ<|xS ee]) Q) R):
 eR (aH ax) ax J S O μ (aX ((base 78).at a [bJ<|pO ee,gx<|pO ee,fh 2,bJ<|xS ee]) Q) w:=by
 have⟨b,a0,z,G,ae,H,am,an,ar,ao,a3,a8,v,a6⟩:=h;have c:=mH (aH ax) ax J S μ;have t:i<I ws:=(fF.1 o).1;have bk:=B.mm;refine cy c<|dP c [0] Y ?_;refine eF c b Y (ak af) (sE Y (b.of Y) (b.of Y) bS) λb=>?_;refine dr c ?_;refine cy c<|iJ c af (b.of Y) ?_;refine nV c<|cy c ?_;refine nS c<|cy c<|dP c [0,1] Y ?_;refine eL c b λb=>?_;refine lK c b λb=>?_;refine dr c ?_;refine cy c<|dP c [0,1,2,3] Y<|eL c b λb=>?_;refine eL c b λb=>eF c b Y (cU<|K ⟨wb,0+i*1,Z⟩) (pV Y (b.of Y) (b.of Y) vT Tryz.sizeOf4 t) λb=>nU c b Y (ak af) (ju Y (b.of Y) Tryz.isAgg4 (z.low wb B.wl)<|aB (bA z.si (p:=⟨wb,0+i*1,Z⟩) B.wl)<|B.wc i _ o) λb=>dr c<|iJ c af (b.of Y)<|cy c ?_;have aU:ap w ⟨bP,0+i*1,Z⟩=K (fZ<|K<|ch i):=by
  unfold ap;simp only[ae,fq,uW];have:=A0 (ws:=ws) (ch:=ch) (i:=I ws) t;rw[if_pos ⟨t,o⟩] at this;simpa using this
 refine Ry (c:=ch i) (l0:=[(42,n9 i),(41,n9<|I ws),(7,ak e5),(2,aG wb (I ws) g8)]) B o ((((((((b.nil.cons<|b.slot 2 _ Y).cons<|b.slot 7 _ Y).cons<|b.slot 41 _ Y).cons<|b.slot 42 _ Y).cons<|b.slot 3 _ Y).cons<|b.slot 6 _ Y).cons<|b.slot 8 _ Y).cons<|b.slot 10 _ Y) z G aU (v.mu i (aZ _) t o) H a3 (by simp[vo]) λD bl aC q L bi a7 X j u m a1=>?_;have c:=mH (aH ax) ax J S<|gu μ (ch i) Z;have F:=(z.UU j).set u an ar am;have bj:=z.inr lb<|ai H;have aF:(nA ws g V N i).toArray.toList.take i++[ah (K ⟨q,0,Z⟩) (I<|V i) N]++(nA ws g V N i).toArray.toList.drop (i+1)=nA ws (λd=>if d=i then q else g d) V N (i+1):=by
  rw[<-WQ o]
 rw[aF] at u;have al:=u.set;have aR:ap aC ⟨lb,0+i*1,Z⟩=K (aG q (I<|V i) N):=by
  unfold ap;simp only[al,fq,uW];have:=Bg (ws:=ws) (g:=λd=>if d=i then q else g d) (V:=V) (N:=N) (i:=i+1) t;simp[o] at this;simpa using this
 have ba:=u.size;have a9:=j.rel.size;refine Ye (l0:=[(42,n9 i),(41,n9<|I ws),(8,aG bP (I ws)<|I ws),(2,aG wb (I ws) g8)]) t ((((((((m.nil.cons<|m.slot 2 _ Y).cons<|m.slot 8 _ Y).cons<|m.slot 41 _ Y).cons<|m.slot 42 _ Y).cons<|m.slot 3 _ Y).cons<|m.slot 6 _ Y).cons<|m.slot 10 _ Y).cons<|m.slot 7 _ Y) F.inr (j.sub lb H) F.ob aR (by unfold ap;simp only[F.hb];rfl) λaE az p a5 a2=>?_;have y:∀C,iT F3 C=aj->∀P,(az++P).lookup C=P.lookup C:=λC aw P=>by
  rw[List.lookup_append];cases e:az.lookup C with
  |none=>rfl
  |some bm=>
   have:=Bi e;rw[a5] at this;have:=List.contains_iff_mem.2 this;rw[this] at aw;cases aw
 have f:Knows aE 73 [(42,n9 i),(41,n9<|I ws),(8,aG bP (I ws)<|I ws),(7,ak<|e5&&((I (V i):Int)==(N:Int))),(6,aG lb (I ws)<|I ws),(3,(aK bb)),(2,aG wb (I ws) g8)]:=
  ((((((p.nil.cons<|p.slot 2 _<|y 2 Y _).cons<|p.slot 3 _<|y 3 Y _).cons<|p.slot 6 _<|y 6 Y _).cons<|p.slot 7 _ Y).cons<|p.slot 8 _<|y 8 Y _).cons<|p.slot 41 _<|y 41 Y _).cons (p.slot 42 _<|y 42 Y _)
 refine ue c<|dP c [0,1] Y<|eF c f Y (z9 ((i+1:Nat):Int)) (uo (j:=1) Y (f.of Y) Y aa) λf=>?_;refine eL c f λf=>dr c<|ve c ?_;have ad:q≠lb:=aa;refine a4 D aC _ (λd=>if d=i then q else g d) _ _ ⟨((((((f.nil.cons<|f.slot 2 _ Y).cons<|f.slot 3 _ Y).cons<|f.slot 6 _ Y).cons<|f.slot 7 _ Y).cons<|f.slot 8 _ Y).cons<|f.slot 41 _ Y).cons<|f.slot 42 _ Y,by simp only[put_defers];rw[a2,a1];simp only[put_defers];exact a0,F,j.sub bP G,?_,j.sub lb H,am,an,ar,ao,al,λd r l=>?_,⟨λd bh r l=>?_,λU M=>?_,v.inj,λd r l=>?_⟩,?_⟩;rw[u.at_ bP (ai<|j.sub bP G) λe=>ao<|bq e,j.rel.at_ bP<|ai G];exact ae;by_cases e:d=i;subst e;simp only[if_true];have:=z.si.size;exact⟨a7.same<|u.at_ q (ai X) ad,X,ad,aa⟩;have⟨bd,T,aA,be⟩:=a8 d aa l;simp only[if_neg e];exact⟨(bd.same<|j.rel.at_ _<|ai T).same<|u.at_ _ (ai<|j.sub _ T) aA,j.sub _ T,aA,be⟩;have E:ch d≠ch i:=λe=>cA<|v.inj d i r t l o e;simp only[gu,E,if_false];exact v.mu d aa r l;have E:U≠ch i:=λe=>M (by simp[gu,e]);simp only[gu,E,if_false] at M;have⟨d,A,W,aQ,ab⟩:=v.no U M;exact⟨d,by rcases jc i d with h|h;exact h;have:d=i:=aa;subst this;exact absurd (bq ab) E,W,aQ,ab⟩;exact cL (v.lt d r l)<|dW a9 ba;rw[fe,a6,beq_iff_eq];constructor;rintro⟨A,W⟩ d r l;by_cases e:d=i;subst e;omega;exact A d aa l;intro A;exact⟨λd r l=>A d aa l,cA<|A i aa o⟩
end
def RZ{J:List Bool}{ch:Nat->Nat}:cR (mb J ch 0)=m7 #[fZ Z] (I J*1):=by
 apply Array.toList_inj.1;rw[toList_madeCells_one,uW];refine List.ext_getElem (by simp[vj]) λf b d=>?_;simp[mb]
def WT{J:List Bool}{g:Nat->Nat}{V:Nat->List aC}{N:Nat}:cR (nA J g V N 0)=m7 #[aF] (I J*1):=by
 apply Array.toList_inj.1;rw[toList_madeCells_one,uW];refine List.ext_getElem (by simp[vo]) λf b d=>?_;simp[nA]
def A4{c:aO}(h:eS Qo c []):eS Qo (dR c v) []:=⟨(sA h.top v).1,λf b=>by simp at b,(sA h.top v).2.trans h.bot⟩
def xK{S:Nat->Prop}{m:Bool}{b:(Nat->Prop)->aO->List aO->ag->Prop}{own:Nat->Prop}{C:List aO}{w:ag}{a:bt}(d:fS Qo Qp S m b){fn:cF}{c:aO}(o:dj Qg=dM)(f:bU a=[])(j:Qp.funcs[Qg.fn]? =K fn)(p:∀w,(dB fn a.tmps).run Qp w=cm v w)(h:∀w,(dB fn a.tmps).events Qp w #[]=#[])
 (l:b own (dR c v) C w):b own {Qg.at a QO with mode:=jj} (c::C) w:=nT d (λw=>stepG_leave o f j (p w)<|h w) l
def VL(b d f:F)(m:Nat)(p:3<=m):Knows ⟨#[b,d,f]++jw (m-3) bR,[]⟩ m [(0,b),(1,d),(2,f)]:=by
 have h:∀j v,(#[b,d,f]:Array F)[j]? =K v->cx ⟨#[b,d,f]++jw (m-3) bR,[]⟩ j=v:=λj v l=>by
  unfold cx;rw[jh,Array.getElem?_append_left (dn.1 l).1,l];rfl
 refine Knows.cons (Knows.cons (Knows.cons (l:=[]) ⟨?_,λs v o=>by simp at o⟩<|h 2 f Y)<|h 1 d Y)<|h 0 b Y;simp;omega
def adY:∃i,ax.info? 193=K i/\jH i=K (fZ Z)/\i.size=1/\jm i=8:=⟨Tryz.t193,aR,rfl,rfl,rfl⟩
def aee:∃i,ax.info? 43=K i/\jH i=K aF/\i.size=1/\jm i=24:=⟨Tryz.t43,aR,rfl,rfl,rfl⟩
section
variable{S O:Nat->Prop}{w B:ag}{s:Nat->ByteArray}{k e:Nat->Int}{N cb n T nk ck R H ce A g8:Nat}{J:List Bool}{V:Nat->List aC}{g:Nat->Nat}{bP lb:Nat}{Q:Nat->Option (List F)}{a:bt}{C:List aO}{e5:Bool}{c:aO}
def acB(h:tL S O w0 w N cb n cap T nk ck R H ce x A g8 J V ch g bb fb bP lb (I J) e5 Q a)
 (j:eR (aH ax) ax Post S O Q (aX (dR c<|cP #[aG lb (I J)<|I J,ak e5]) C) w):
 eR (aH ax) ax Post S O Q (aX ((base 78).at a [bJ<|pO ee,gx<|pO ee,fh 2,bJ<|xS ee])<|c::C) w:=by
 have d:=h.kn;have b:=mH (aH ax) ax Post S Q;refine cy b ?_;refine dP b [0] Y ?_;refine eF b d Y (ak aj) (sE Y (d.of Y) (d.of Y) aI) λd=>?_;refine dr b ?_;refine cy b ?_;refine iJ b aj (d.of Y) ?_;refine wA b (k':=[bJ<|xS ee]) Y ?_;refine cy b ?_;refine dP b [0,1,2,3] Y ?_;refine eL b d λd=>?_;refine eL b d λd=>?_;refine lK b d λd=>?_;refine lK b d λd=>?_;refine dr b ?_;refine vg b ?_;have f:=Du (P:=ax) Tryz.results78 (d.slot 6 _ Y)<|d.slot 7 _ Y;exact xK b Y (by simp only[put_defers];exact h.df) Tryz.func78 f.1 f.2 j
def acC(j:oF S w0 s k e N cb n T nk R H A J V)(t:∀O w a g e5 Q,tL S O w0 w N cb n cap T nk ck R H ce x A g8 J V ch g bb fb bP lb (I J) e5 Q a->eR (aH ax) ax Post S O Q (aX (dR c<|cP #[aG lb (I J)<|I J,ak e5]) C) w):
 ∀(d i:Nat),i+d=I J->∀O w a g e5 Q,tL S O w0 w N cb n cap T nk ck R H ce x A g8 J V ch g bb fb bP lb i e5 Q a->
 eR (aH ax) ax Post S O Q (aX ((base 78).at a [bJ<|pO ee,gx<|pO ee,fh 2,bJ<|xS ee])<|c::C) w:=by
 intro d
 induction d with
 |zero=>
  intro i r O w a g e5 Q b;have:i=I J:=aa;subst this;exact acB b<|t O w a g e5 Q b
 |succ d o=>
  intro i r O w a g e5 Q b;have u:i<I J:=aa;have m:J[i]? =K J[i]:=dV u;cases l:J[i] with
  |true=>exact acE j b (by rw[m,l]) λp B f q v y h=>o (i+1) aa p B f q v y h
  |false=>exact acF j b (by rw[m,l]) λf h=>o (i+1) aa O w f g e5 Q h
def UF(q:oF S w0 s k e N cb n T nk R H A J V)(h:yL S O w0 w N cb n cap T nk ck R H ce x A g8 J V ch bb fb bP (I J) Q a)
 (D:∀lb O w a g e5 Q,tL S O w0 w N cb n cap T nk ck R H ce x A g8 J V ch g bb fb bP lb (I J) e5 Q a->eR (aH ax) ax Post S O Q (aX (dR c<|cP #[aG lb (I J)<|I J,ak e5]) C) w):
 eR (aH ax) ax Post S O Q (aX ((base 78).at a [bJ<|lM ee,gx<|lM ee,fh 0,bJ<|pL ee])<|c::C) w:=by
 have⟨b,v,j,o,ad,W,ab,y,m⟩:=h;have d:=mH (aH ax) ax Post S Q;have⟨M,z,L,G,u⟩:=aee;have U:=q.mm;refine cy d<|dP d [0] Y<|eF d b Y (ak aj) (sE Y (b.of Y) (b.of Y) aI) λb=>?_;refine dr d<|cy d<|iJ d aj (b.of Y)<|wA d (k':=[bJ<|pL ee]) Y<|cy d<|dP d [0,1,2,3] Y<|eL d b λb=>eF d b Y (n9<|I J) (ye Y (b.of Y) vT) λb=>oS d j.inr az Y Y (aq (m7 (ah Z 0 0).cells<|I J*M.size) 43) trivial (λn=>aG n (I J)<|I J) (F7 Y (b.of Y) (b.of Y) Tryz.underlying26 z L (aZ _) (jC u) aa) λlb P E K hrel t=>?_;replace b:=b.put (d:=39) az<|aG lb (I J)<|I J;refine lK d b λb=>dr d ?_;refine cy d<|dP d [0] Y<|rD d b (ak af) λb=>?_;refine dr d<|cy d<|cy d<|dP d [0,1,2] Y<|eL d b λb=>eF d b Y (n9<|I J) (ye Y (b.of Y) vT) λb=>eF d b Y (z9 ((0:Nat):Int)) (iw Y Y) λb=>dr d<|nS d<|xL d ?_;have F:=j.new E K hrel;have X:=j.inr bb<|ai j.ob;have ae:=j.inr fb<|ai j.of;have al:=j.inr bP<|ai o;refine acC (lb:=lb) (ch:=ch) q (λO w a g e5 Q h=>D lb O w a g e5 Q h) (I J) 0 aa _ P _ (λ_=>0) af Q ⟨((((((b.nil.cons<|b.slot 2 _ Y).cons<|b.slot 3 _ Y).cons<|b.slot 6 _ Y).cons<|b.slot 7 _ Y).cons<|b.slot 8 _ Y).cons<|b.slot 41 _ Y).cons<|b.slot 42 _ Y,by simp only[put_defers];exact v,F,av o,aB (hrel.at_ bP<|ai o) y,ai Y,aa,aa,aa,aa,?_,λl f=>absurd f aa,⟨λl r f p=>m.mu l r f p,m.no,m.inj,λl f p=>cL (m.lt l f p) hrel.size⟩,⟨λ_ l f=>absurd f aa,λ_=>rfl⟩⟩;rw[WT,<-G];exact t
def go_loop(j:oF S w0 s k e N cb n T nk R H A J V)(t:∀ch lb O w a g e5 Q,tL S O w0 w N cb n cap T nk ck R H ce x A g8 J V ch g bb fb bP lb (I J) e5 Q a->eR (aH ax) ax Post S O Q (aX (dR c<|cP #[aG lb (I J)<|I J,ak e5]) C) w):
 ∀(d i:Nat),i+d=I J->∀O w a ch Q,yL S O w0 w N cb n cap T nk ck R H ce x A g8 J V ch bb fb bP i Q a->
 eR (aH ax) ax Post S O Q (aX ((base 78).at a [bJ<|lM ee,gx<|lM ee,fh 0,bJ<|pL ee])<|c::C) w:=by
 intro d
 induction d with
 |zero=>
  intro i r O w a ch Q b;have:i=I J:=aa;subst this;exact UF j b λlb O w a g e5 Q b=>t ch lb O w a g e5 Q b
 |succ d o=>
  intro i r O w a ch Q b;have u:i<I J:=aa;have m:J[i]? =K J[i]:=dV u;cases l:J[i] with
  |true=>exact go_round j b (by rw[m,l]) λp B f q v h=>o (i+1) aa p B f q v h
  |false=>exact go_skip j b (by rw[m,l]) λf h=>o (i+1) aa O w f ch Q h
def PZ(p:oF S w0 s k e N cb n T nk R H A J V)
 (X:∀bb fb bP ch lb O w a g e5 Q,tL S O w0 w N cb n cap T nk ck R H ce x A g8 J V ch g bb fb bP lb (I J) e5 Q a->eR (aH ax) ax Post S O Q (aX (dR c<|cP #[aG lb (I J)<|I J,ak e5]) C) w):
 eR (aH ax) ax Post S (λd=>d<U w0.heap/\¬S d) (λ_=>Z) (aX (eT ax 78 #[r9 (N:Int) cb n cap,sw T nk ck R H ce x,aG A (I J) g8] dM)<|c::C) w0:=by
 have f:=mH (aH ax) ax Post S λ_=>Z;have⟨ao,ab,an,ad,M⟩:=adY;have aw:=p.mm;rw[enter_at _ Tryz.func78 Y];have b:=VL (r9 (N:Int) cb n cap) (sw T nk ck R H ce x) (aG A (I J) g8) 73 az;have v:jb S (λd=>d<U w0.heap/\¬S d) w0:=λd j=>eD j (p.sz d) λh=>h.1;refine cy f<|dP f [0,1,2,3] Y<|oS f v az Y Y (aq #[n9 N,aG cb n cap] 139) trivial (λn=>(aK n)) (z3 (v:=r9 (N:Int) cb n cap) Y<|b.of Y) λbb aA u ae r E=>?_;replace b:=b.put (d:=3) az<|aK bb;have y:=v.new u ae;refine oS f y az Y Y (aq #[aG T nk ck,aG R H ce,x] 105) trivial (λn=>(aK n)) (z3 (v:=sw T nk ck R H ce x) Y<|b.of Y) λfb aC K al o F=>?_;replace b:=b.put (d:=4) az<|aK fb;have z:=y.new K al;refine rD f b aF λb=>rD f b (ak aj) λb=>?_;refine dr f<|cy f<|dP f [0,1,2,3] Y<|eL f b λb=>eF f b Y (n9<|I J) (ye Y (b.of Y) vT) λb=>oS f z az Y Y (aq (m7 (fZ Z).cells<|I J*ao.size) 193) trivial (λn=>aG n (I J)<|I J) (F7 Y (b.of Y) (b.of Y) Tryz.underlying192 ab an (aZ _) (jC M) aa) λbP ar L am l G=>?_;replace b:=b.put (d:=13) az<|aG bP (I J)<|I J;have W:=z.new L am;refine lK f b λb=>?_;refine dr f<|cy f<|cy f<|dP f [0,1,2] Y<|eL f b λb=>eF f b Y (n9<|I J) (ye Y (b.of Y) vT) λb=>eF f b Y (z9 ((0:Nat):Int)) (iw Y Y) λb=>dr f<|nS f<|xL f ?_;have q:∀d,d<U w0.heap->S d\/(d<U w0.heap/\¬S d):=λd j=>by
  rcases Classical.em (S d) with h|h;exact av h;exact ai ⟨j,h⟩
 refine go_loop (bb:=bb) (fb:=fb) (bP:=bP) p (λch lb O w a g e5 Q h=>X bb fb bP ch lb O w a g e5 Q h) (I J) 0 aa _ ar _ (λ_=>0) _ ⟨(((((b.nil.cons<|b.slot 2 _ Y).cons<|b.slot 3 _ Y).cons<|b.slot 4 _ Y).cons<|b.slot 8 _ Y).cons<|b.slot 15 _ Y).cons<|b.slot 16 _ Y,by simp only[put_defers],⟨⟨?_,?_,?_,?_,λd j=>?_⟩,λd j=>?_,W,λd j t=>?_,av<|av<|ai Y,av<|ai Y,u,aa,?_,?_⟩,ai Y,aa,aa,aa,?_,⟨λD _ m=>absurd m aa,λc P=>absurd Y P,λD _ m=>absurd m aa,λD m=>absurd m aa⟩⟩;rw[l.os,o.os,r.os];rw[l.tape,o.tape,r.tape];rw[l.output,o.output,r.output];omega;rw[l.at_ d<|(q d j).imp (λh=>h) λh=>av<|av h,o.at_ d<|(q d j).imp (λh=>h) λh=>av h,r.at_ d<|q d j];exact(q d j).imp (λh=>h) λh=>av<|av<|av h;have:=p.sz d j;rcases t with((t|rfl)|rfl)|rfl;exact t.2 j;omega;omega;omega;rw[l.at_ bb<|ai<|av<|ai Y,o.at_ bb<|ai<|ai Y];exact E;rw[l.at_ fb<|ai<|ai Y];exact F;rw[RZ,<-ad];exact G
def H6 (w:ag)(N:Nat)(J:List Bool)(V:Nat->List aC)(f:gN)(B:ag):Prop:=
 ∃lb e5 g,f=aN (cP #[aG lb (I J)<|I J,ak e5])/\aD w B/\U w.heap<=lb/\B.heap[lb]? =K (aq (cR<|nA J g V N<|I J) 43 (0,0))/\(∀b,J[b]? =K af->Row B (g b) N (V b)/\U w.heap<=g b)/\(e5=af↔∀b,J[b]? =K af->I (V b)=N)
def oF.at(b:oF S w s k e N cb n T nk R H A J V)(h:Nat):oF S (w.at h) s k e N cb n T nk R H A J V:=
 ⟨b.sz,λf d=>⟨(b.sin f d).1.rel λ_ _=>rfl,(b.sin f d).2⟩,b.wl,λf j d=>b.wc f j d,b.nn,b.mm,b.pos⟩
def PY(p:oF S w s k e N cb n T nk R H A J V):sQ (aH ax) ax Post 78 #[r9 (N:Int) cb n cap,sw T nk ck R H ce x,aG A (I J) g8] w (H6 w N J V):=by
 intro c C u K F t;refine Yk S (λd=>d<U w.heap/\¬S d) (λd b=>⟨p.sz d b,λh=>h.2 b⟩) (λd b=>b.1) λW D=>?_;obtain⟨o,rfl⟩:=D;refine PZ (w0:=w.at o) (p.at o) λbb fb bP ch lb O B a g e5 Q h=>W6 (λc=>?_) λr f z=>?_;cases y:Q c with
 |none=>rfl
 |some P=>
  have⟨l,m,M,_⟩:=h.EG.no c (by rw[y];simp);omega
 have b:=h.own.si;have v:∀d,d<U w.heap->r.heap[d]? =w.heap[d]? :=λd q=>aB (f.at_ d<|h.own.low d q)<|cT b d q;refine t (aN<|cP #[aG lb (I J)<|I J,ak e5]) r ⟨lb,e5,g,rfl,⟨aB f.os b.os,aB f.tape b.tape,aB f.output b.output,dW b.size f.size,v⟩,h.ll,aB (f.at_ lb<|ai h.ol) h.hl,λl j=>?_,?_⟩ z ⟨aB f.tape b.tape,aB f.os b.os,aB f.output b.output,dW b.size f.size⟩<|A4 u;have⟨E,G,_,L⟩:=h.rows l (fF.1 j).1 j;exact⟨E.same<|f.at_ _<|ai G,L⟩;rw[h.ok];exact⟨λm l j=>m l (fF.1 j).1 j,λm l _ j=>m l j⟩
end
def iL (R:List bH)(val:Int->Nat->aC)(p:Nat):Bool:=dI R λb=>fP (val b.col p) b
def FR{R:List bH}{val:Int->Nat->aC}{p:Nat}:iL R val p=af↔∀b (h:b<I R),fP (val R[b].col p) R[b]=af:=by
 unfold iL;rw[fA];constructor;intro h b d;exact h _<|dm d;intro h f e;obtain⟨b,d,rfl⟩:=List.mem_iff_getElem.1 e;exact h b d
def A2{Go:List cK->Bool}{pre:List cK}{b:cK}{d:List cK}:feed Go pre (b::d)=if Go (pre++[b]) then feed Go (pre++[b]) d else(pre++[b],aj):=rfl
section
variable{Q:F->ag->Prop}{J:List cK->(Nat->Prop)->ag->Prop}{Go:List cK->Bool}{w:ag}{M own:Nat->Prop}{l first N p T:Nat}{pre:List cK}{a:bt}{O:List aO}{an:List Int}{R:List bH}{S:Option aL}{cb bC bF:Nat}{ro:Option aL}{rb bL bD H m A:Nat}{val:Int->Nat->aC}{B L q:F}{sk:Bool}{c:aO}
def Uw(h:D1 J w0 w M0 M own #[B,L,q,ah S (I an) bF,ah ro (I R) bD,ak sk] (aG H m A) l first N N T pre a)(f:Xe (aH ax) ax Q own (dR c<|ak af) O w):
 Xe (aH ax) ax Q own ((base 79).at a [bJ<|tn j8,gx<|tn j8,fh 0,bJ<|zP j8]) (c::O) w:=by
 have b:=me (aH ax) ax Q;have d:=h.kn;refine cy b<|dP b [0] Y<|eF b d Y (ak aj) (sE Y (d.of Y) (d.of Y) aI) λd=>dr b<|cy b<|iJ b aj (d.of Y)<|wA b (k':=[bJ<|zP j8]) Y<|cy b<|dP b [0] Y<|rD b d (ak af) λd=>dr b<|vg b ?_;have e:=BB (P:=ax) Tryz.results79<|d.slot 10 _ Y;exact xK b Y (by simp only[put_defers];exact h.df) Tryz.func79 e.1 e.2 f
def Ff(b:Knows a 33 [(31,ak qW),(13,n9 p),(12,n9 N),(5,(aK T)),(4,.func (gP l) #[] #[]),(2,n9 first),(1,aG H m A)])(f:bU a=[])(j:p<N)(i:first+N<=1000000)
 (g:(qW=af->Xe (aH ax) ax Q own (dR c<|ak aj) O w)/\(qW=aj->∀e,Knows e 33 [(13,z9 ((p+1:Nat):Int)),(12,n9 N),(5,(aK T)),(4,.func (gP l) #[] #[]),(2,n9 first),(1,aG H m A)]->bU e=[]->Xe (aH ax) ax Q own ((base 79).at e [bJ<|tn j8,gx<|tn j8,fh 0,bJ<|zP j8]) (c::O) w)):
 Xe (aH ax) ax Q own ((base 79).at a<|xY j8) (c::O) w:=by
 have d:=me (aH ax) ax Q;cases qW with
 |true=>
  refine iJ d af (b.of Y)<|cy d<|dP d [0] Y<|rD d b (ak aj) λb=>dr d<|vg d ?_;have h:=BB (P:=ax) Tryz.results79<|b.slot 10 _ Y;exact xK d Y (by simp only[put_defers];exact f) Tryz.func79 h.1 h.2<|g.1 Y
 |false=>
  refine iJ d aj (b.of Y)<|nV d ?_;refine ue d<|dP d [0,1] Y<|eF d b Y (z9 ((p+1:Nat):Int)) (uo (j:=1) Y (b.of Y) Y aa) λb=>?_;exact eL d b λb=>dr d (ve d<|g.2 Y _ ((((((b.nil.cons<|b.slot 1 _ Y).cons<|b.slot 2 _ Y).cons<|b.slot 4 _ Y).cons<|b.slot 5 _ Y).cons<|b.slot 12 _ Y).cons<|b.slot 13 _ Y)<|by simp only[put_defers];exact f)
def Ux(h:D1 J w0 w M0 M own #[B,L,q,ah S (I an) bF,ah ro (I R) bD,ak sk] (aG H m A) l first N p T pre a)(g:p<N)
 (f:∀e,Knows e 33 [(11,n9 p),(13,n9 p),(12,n9 N),(5,(aK T)),(4,.func (gP l) #[] #[]),(2,n9 first),(1,aG H m A)]->bU e=[]->Xe (aH ax) ax Q own ((base 79).at e<|bJ (iB 4 (Ct j8) aj)::xY j8) O w):
 Xe (aH ax) ax Q own ((base 79).at a [bJ<|tn j8,gx<|tn j8,fh 0,bJ<|zP j8]) O w:=by
 have d:=me (aH ax) ax Q;have b:=h.kn;refine cy d<|dP d [0] Y ?_;refine eF d b Y (ak af) (sE Y (b.of Y) (b.of Y) bS) λb=>dr d ?_;refine cy d<|iJ d af (b.of Y) ?_;refine nV d<|cy d ?_;refine nS d<|cy d ?_;refine dP d [0,1] Y<|eL d b λb=>?_;exact lK d b λb=>dr d (cy d<|f _ ((((((b.nil.cons<|b.slot 1 _ Y).cons<|b.slot 2 _ Y).cons<|b.slot 4 _ Y).cons<|b.slot 5 _ Y).cons<|b.slot 12 _ Y).cons (b.slot 13 _ Y) |>.cons (b.slot 11 _ Y))<|by simp only[put_defers];exact h.df)
def Uy{G:ag->Prop}(P:Cons (aH ax) ax Q l G J Go)(X:∀j,(∀e,e<U w0.heap->¬M0 e->j.heap[e]? =w0.heap[e]?)->U w0.heap<=U j.heap->G j)(hF:∀j,(∀e,e<U w0.heap->¬M0 e->pG j w0 e)->U w0.heap<=U j.heap->xE j an R S cb bC ro rb bL H m N val)(r:first+N<=1000000)(Y:I an<=1000)(ao:I R<=aV):∀(g p:Nat),p+g=N->∀pre own M w a,Go pre=af->I pre+g<=2000->
 D1 J w0 w M0 M own #[B,L,q,ah S (I an) bF,ah ro (I R) bD,ak sk] (aG H m A) l first N p T pre a->
 (∀i n h,J (feed Go pre<|jO (iL R val) (λp=>an.map λd=>val d p) first p g).1 n h->Kept w0 h M0 n i->(∀e,i e->e<U h.heap)->Xe (aH ax) ax Q i (dR c<|ak (feed Go pre<|jO (iL R val) (λp=>an.map λd=>val d p) first p g).2) O h)->
 Xe (aH ax) ax Q own ((base 79).at a [bJ<|tn j8,gx<|tn j8,fh 0,bJ<|zP j8]) (c::O) w:=by
 intro g
 induction g with
 |zero=>
  intro p am pre own M w a z ad b f;have:p=N:=aa;subst this;exact Uw b<|f own M w b.j b.kept b.bd
 |succ g K=>
  intro p am pre own M w a z ad b f;refine Ux b aa λaz V Z=>UB (val:=val) P z X hF aa aa r Y ao V Z b.j b.kept b.bd b.oq b.nq b.lq b.hq (λi h W ae k t u v s E F=>?_) λi n h W aw k t u v s E al F=>?_;have ab:iL R val p=aj:=by
   cases o:iL R val p with
   |false=>rfl
   |true=>exact absurd (FR.1 o) ae
  have o:jO (iL R val) (λp=>an.map λd=>val d p) first p (g+1)=jO (iL R val) (λp=>an.map λd=>val d p) first (p+1) g:=by
   simp[jO,ab]
  rw[o] at f;exact Ff k t aa r ⟨λb=>(de b),λ_ y x C=>(K (p+1) aa pre i M h y z aa ⟨x,C,u,v,s,E,b.nq,b.lq,F⟩ f)⟩;have ar:=FR.2 aw;have o:jO (iL R val) (λp=>an.map λd=>val d p) first p (g+1)=(first+p,an.map λd=>val d p)::jO (iL R val) (λp=>an.map λd=>val d p) first (p+1) g:=by
   simp[jO,ar]
  rw[o,A2] at f;cases D:Go (pre++[(first+p,an.map λd=>val d p)]) with
  |true=>
   rw[D] at k f;simp only[if_true] at f;exact Ff k t aa r ⟨λb=>(de b),λ_ y x C=>(K (p+1) aa _ i n h y D bS ⟨x,C,u,v,s,E,al,b.lq,F⟩ f)⟩
  |false=>
   rw[D] at k f;simp only[eN,if_false] at f;exact Ff k t aa r ⟨λ_=>f i n h u v s,λb=>(de b)⟩
def FC(d e f g h:F)(m:Nat)(n:5<=m):Knows ⟨#[d,e,f,g,h]++jw (m-5) bR,[]⟩ m [(0,d),(1,e),(2,f),(3,g),(4,h)]:=by
 have b:∀i v,(#[d,e,f,g,h]:Array F)[i]? =K v->cx ⟨#[d,e,f,g,h]++jw (m-5) bR,[]⟩ i=v:=λi v j=>by
  unfold cx;rw[jh,Array.getElem?_append_left (dn.1 j).1,j];rfl
 refine Knows.cons (Knows.cons (Knows.cons (Knows.cons (Knows.cons (l:=[]) ⟨?_,λs v k=>by simp at k⟩<|b 4 h Y)<|b 3 g Y)<|b 2 f Y)<|b 1 e Y)<|b 0 d Y;simp;omega
def Ib (J:List cK->(Nat->Prop)->ag->Prop)(M0:Nat->Prop)(w0:ag)(g:List cK×Bool)(f:gN)(d:ag):Prop:=
 f=aN (ak g.2)/\∃e,J g.1 e d/\(∀b,b<U w0.heap->¬M0 b->d.heap[b]? =w0.heap[b]?)/\U w0.heap<=U d.heap/\∀b,e b->M0 b\/U w0.heap<=b
def Uv{s:ag->Prop}(n:Cons (aH ax) ax Q l s J Go)(x:Go pre=af)(t:J pre M0 w0)(v:∀i,(∀b,b<U w0.heap->¬M0 b->i.heap[b]? =w0.heap[b]?)->U w0.heap<=U i.heap->s i)(hF:∀i,(∀b,b<U w0.heap->¬M0 b->pG i w0 b)->U w0.heap<=U i.heap->xE i an R S cb bC ro rb bL H m N val)(z:first+N<=1000000)(E:I an<=1000)(W:I R<=aV)(K:I pre+N<=2000):
 sQ (aH ax) ax Q 79 #[qv B L q (ah S (I an) bF) (ah ro (I R) bD) sk,aG H m A,n9 first,n9 N,.func (gP l) #[] #[]] w0 (Ib J M0 w0<|feed Go pre<|jO (iL R val) (λp=>an.map λab=>val ab p) first 0 N):=by
 intro c O Z ao P y;have f:=me (aH ax) ax Q;refine Xe.go (own:=λb=>b<U w0.heap) ?_ (λb j=>j) P;rw[enter_at _ Tryz.func79 Y];have e:=FC (qv B L q (ah S (I an) bF) (ah ro (I R) bD) sk) (aG H m A) (n9 first) (n9 N) (.func (gP l) #[] #[]) 33 az;have F:jb tr (λb=>b<U w0.heap) w0:=λb d=>eD d ff λj=>j;refine cy f<|dP f [0,1] Y<|oS f F az Y Y (aq #[B,L,q,ah S (I an) bF,ah ro (I R) bD,ak sk] 115) trivial (λad=>(aK ad)) (z3 (v:=qv B L q (ah S (I an) bF) (ah ro (I R) bD) sk) Y<|e.of Y) λT ae D ar X C=>?_;replace e:=e.put (d:=5) az<|aK T;refine rD f e (ak aj) λe=>?_;refine dr f<|cy f<|cy f<|dP f [0,1] Y<|eL f e λe=>eF f e Y (z9 ((0:Nat):Int)) (iw Y Y) λe=>dr f<|nS f<|xL f ?_;have k:=FX X;have o:=n.bound _ _ _ t;refine Uy (w0:=w0) (M0:=M0) (val:=val) n v hF z E W N 0 (by omega) pre _ M0 ae _ x K ⟨((((((e.nil.cons<|e.slot 1 _ Y).cons<|e.slot 2 _ Y).cons<|e.slot 4 _ Y).cons<|e.slot 5 _ Y).cons<|e.slot 12 _ Y).cons<|e.slot 13 _ Y),by simp only[put_defers],n.rJ _ _ _ _ t (λb d=>k.at_ b<|o b d) k.size,⟨λb d r=>⟨av d,k.at_ b d⟩,λb d=>av d,λb d=>av<|o b d,k.size,k.tape,k.os,k.output⟩,λb d=>eD d (λj=>aa) λj=>aa,ai Y,λj=>cA<|o T j,D,C⟩ λaw u aA G g am=>?_;intro _ al h V;refine y _ al ⟨rfl,u,n.rJ _ _ _ _ G (λb d=>h.at_ b<|g.oY b d) h.size,λb d r=>aB (h.at_ b (g.keep b d r).1) (g.keep b d r).2,dW g.size h.size,g.ext⟩ V ⟨aB h.tape g.tape,aB h.os g.os,aB h.output g.output,dW g.size h.size⟩<|A4 Z
end
open Ec (tU bx Bd fy ic mL dy kH DQ Fs)
structure FM(W:ag)(l:List (bx×Int))(bs:List Bd)(an:List Int)(rs:List bH)(kb eb:Nat)(dO:Option aL)(db:Nat)(bP ew:Nat->Nat)(co:Option aL)(cb bC:Nat)(ro:Option aL)(rb bL:Nat):Prop where
 k:∀j x,l[j]? =K x->ap W ⟨kb,0+j*2+1,Z⟩=K (z9 x.1.kind)
 e:∀j x,l[j]? =K x->ap W ⟨eb,0+j*1,Z⟩=K (z9 x.2)
 d:∀i b,bs[i]? =K b->pF W db (0+i*2) [n9 b.rows,ah (K ⟨bP i,0,Z⟩) (I l)<|ew i]
 c:∀i b,bs[i]? =K b->∀j x,b.chunks[j]? =K x->∀t u,(mL x)[t]? =K u->ap W ⟨bP i,j*8+t,Z⟩=K u
 lk:kb<U W.heap
 le:eb<U W.heap
 da:0<I bs->dO=K ⟨db,0,Z⟩
 ld:0<I bs->db<U W.heap
 lc:∀i,i<I bs->bP i<U W.heap
 ca:0<I an->co=K ⟨cb,bC,Z⟩
 cl:0<I an->cb<U W.heap
 cc:∀j,j<I an->ap W ⟨cb,bC+j,Z⟩=K (z9<|aW an j 0)
 nr:dJ W ro rb bL rs
structure FQ(l:List (bx×Int))(bs:List Bd)(an:List Int)(rs:List bH)(V:Nat->Nat->List aC):Prop where
 len:∀b∈bs,I b.chunks=I l
 m:I l<=1000
 pos:0<I l
 rows:∀b∈bs,b.rows<=100
 tot:(bs.map (·.rows)).sum<=2000
 nb:I bs<=100000
 cn:I an<=1000
 rn:I rs<=aV
 ck:∀k∈an,0<=k/\k<(I l:Int)
 rk:∀r∈rs,0<=r.col/\r.col<(I l:Int)
 dec:∀(i:Nat) b,bs[i]? =K b->∀(j:Nat) x y,b.chunks[j]? =K x->l[j]? =K y->bg x.text<=aV/\lI x.text y.1.kind y.2 (b.rows:Int) (V i j)
def ir:fy:=⟨⟨#[]⟩,Ec.hU⟩
def rowsOf(bs:List Bd)(a:Nat):Nat:=aW (bs.map (·.rows)) a 0
def k8 (bs:List Bd)(a:Nat):Nat:=((bs.take a).map (·.rows)).sum
def pW (bs:List Bd)(rs:List bH)(b:Nat):Bool:=rs.any λa=>Ec.jN (((aW bs b ⟨0,[]⟩).chunks.getD (bO a.col) ir).bT) a
def uC (V:Nat->Nat->List aC)(a:Nat)(b:Int)(c:Nat):aC:=aW (V a<|bO b) c ⟨aj,0,⟨#[]⟩⟩
def hY (bs:List Bd)(c:List Bool)(V:Nat->Nat->List aC)(a:Nat):Bool:=dI (fp<|I c) λb=> !c.getD b aj||(I (V a b))==rowsOf bs a
def kK (bs:List Bd)(an:List Int)(rs:List bH)(V:Nat->Nat->List aC)(a:Nat):List cK:=jO (iL rs<|uC V a) (λc=>an.map λb=>uC V a b c) (k8 bs a) 0<|rowsOf bs a
def gK (sk:Bool)(bs:List Bd)(an:List Int)(rs:List bH)(b:List Bool)(V:Nat->Nat->List aC)(Go:List cK->Bool):Nat->Nat->List cK->Nat->List cK×Nat×Nat
 |i,0,pre,a=>(pre,a,0)
 |i,c+1,pre,a=>if sk&&pW bs rs i then gK sk bs an rs b V Go (i+1) c pre a else if hY bs b V i then(if (feed Go pre<|kK bs an rs V i).2 then gK sk bs an rs b V Go (i+1) c (feed Go pre<|kK bs an rs V i).1 (a+1) else((feed Go pre<|kK bs an rs V i).1,a+1,0)) else(pre,a+1,3)
theorem GY(mh:Nat->Bool)(b:Nat->List aC)(first:Nat):∀(n a:Nat),I (jO mh b first a n)<=n
 |0,a=>aZ _
 |n+1,a=>by
  have:=GY mh b first n (a+1)
  simp only[jO]
  split
  simp;omega;omega
theorem E3(Go:List cK->Bool):∀(a pre:List cK),(feed Go pre a).1.length<=I pre+I a
 | [],pre=>aZ _
 |x::a,pre=>by
  rw[A2]
  split
  have:=E3 Go a<|pre++[x];simp at this ⊢;omega;simp
theorem JN{Go:List cK->Bool}:∀(b pre:List cK),Go pre=af->(feed Go pre b).2=af->Go (feed Go pre b).1=af
 | [],pre=>λa _=>a
 |x::b,pre=>by
  rw[A2]
  split
  exact λ_ a=>JN b (pre++[x]) (by assumption) a;exact λ_ a=>de a
def Fa{bs:List Bd}{a:Bd}(h:bs[n]? =K a):k8 bs (n+1)=k8 bs n+a.rows:=by
 obtain⟨b,rfl⟩:=fF.1 h;unfold k8;rw[gm b,gD,List.sum_append];simp only[kY,List.map_nil,List.sum_cons,List.sum_nil,tY]
def E9(bs:List Bd):∀a,k8 bs a<=(bs.map (·.rows)).sum:=by
 intro a;have b:(bs.map (·.rows)).sum=((bs.take a).map (·.rows)).sum+((bs.drop a).map (·.rows)).sum:=by
  rw[<-List.sum_append,<-gD,v7]
 unfold k8;omega
def Dr{bs:List Bd}{a:Bd}(h:bs[n]? =K a):rowsOf bs n=a.rows:=by
 unfold rowsOf;simp[ep,h]
def aef:(Tryz.f76.name == "runtime.NumGoroutine")=aj:=aR
def ad9:(Tryz.f77.name == "runtime.NumGoroutine")=aj:=aR
def adV:(ee.name == "runtime.NumGoroutine")=aj:=aR
def ad4:(j8.name == "runtime.NumGoroutine")=aj:=aR
section
variable{l:List (bx×Int)}{bs:List Bd}{an:List Int}{rs:List bH}{bP ew:Nat->Nat}{cb bC:Nat}{ro:Option aL}{rb bL:Nat}{V:Nat->Nat->List aC}
def FM.VF(h:FM W l bs an rs kb eb dO db bP ew co cb bC ro rb bL)(i:FQ l bs an rs V){a:Bd}(e:bs[n]? =K a):∀d∈rs,tU W (bP n) (I l) d.col ((aW a.chunks (bO d.col) ir).bT):=by
 intro d o;have⟨j,s⟩:=i.rk d o;have⟨c,f⟩:=uR j;have t:=i.len a<|oP e;have m:c<I a.chunks:=aa;have g:a.chunks[c]? =K a.chunks[c]:=dV m;have k:aW a.chunks (bO d.col) ir=a.chunks[c]:=by rw[f,ep];simp[g]
 rw[k];have b:=λq r p=>h.c n a e c _ g q r p;refine⟨c,f,aa,h.lc n (fF.1 e).1,b 1 _ Y,b 2 _ Y,b 3 _ Y,b 4 _ Y,b 5 _ Y,b 6 _ Y,b 7 _ Y⟩
def K9:(dy n qZ)[m]? =K af↔m<n/\(m:Int)∈qZ:=by
 unfold dy;rcases jc m n with a|a;simp[a,xx];simp[a];omega
def FM.bin(h:FM W l bs an rs kb eb dO db bP ew co cb bC ro rb bL)(f:FQ l bs an rs V){b:Bd}(c:bs[n]? =K b)(k:W.heap[m]? =K (aq (cR<|kH<|dy (I l)<|an++rs.map bH.col) 4 (0,0))):
 oF (λg=>g=bP n\/g=kb\/g=eb) W (λa=>(aW b.chunks a ir).text) (λa=>(aW l a (⟨⟨#[]⟩,0⟩,0)).1.kind) (λa=>(aW l a (⟨⟨#[]⟩,0⟩,0)).2) b.rows (bP n) (I l) kb (I l) eb (I l) m (dy (I l)<|an++rs.map bH.col) (V n):=by
 have s:=f.len b<|oP c;have r:m<U W.heap:=(dn.1 k).1;refine⟨λg e=>?_,λa i=>?_,r,λa t i=>?_,?_,?_,aa⟩;rcases e with rfl|rfl|rfl;exact h.lc n (fF.1 c).1;exact h.lk;exact h.le;have d:=(K9.1 i).1;have e:b.chunks[a]? =K (aW b.chunks a ir):=by
  have q:a<I b.chunks:=aa;rw[ep,dV q];rfl
 have j:l[a]? =K (aW l a (⟨⟨#[]⟩,0⟩,0)):=by rw[ep,dV d];rfl
 have⟨o,p⟩:=f.dec n b c a _ _ e j;refine⟨⟨av Y,ai<|av Y,ai<|ai Y,d,d,d,?_,h.k a _ j,h.e a _ j⟩,o,p⟩;have:=h.c n b c a _ e 0 _ Y;rw[fq];exact this;unfold ap;simp only[k,fq,uW];simp[kH,i];have:=f.rows b<|oP c;omega;rw[Ec.CL];have:=f.m;omega
end
def tD (fn:cF):cQ:=match fn.body with
 |some (aS _<|aS _<|aS _<|aS (aS _<|fT _<|.loop c) _)=>c
 |_=>ey
def Ao (fn:cF):cQ:=match fn.body with
 |some (aS _<|aS _<|aS _<|aS _ c)=>c
 |_=>ey
def MG (fn:cF):cQ:=match tD fn with
 |aS _ (aS _<|aS (fT _<|aS _<|aS (aS _<|.cond _ c _) _) _)=>c
 |_=>ey
def Dq (fn:cF):List ez:=match tD fn with
 |aS _ (aS _<|aS (fT _<|aS _<|aS _ c) d)=>[bJ c,fh 1,bJ d,gx<|tD fn,fh 0,bJ<|Ao fn]
 |_=>[]
structure wi(J:List cK->(Nat->Prop)->ag->Prop)(w0 w:ag)(M0 M own:Nat->Prop)(q:Array F)(l first n i nb qb wb m:Nat)(bsv:F)(ws:List Bool)(pre:List cK)(a:bt):Prop where
 kn:Knows a 59 [(18,n9 i),(17,n9 nb),(16,bsv),(7,n9 first),(6,aG wb m m),(4,n9 n),(2,(aK qb)),(1,.func (gP l) #[] #[])]
 df:bU a=[]
 j:J pre M w
 kept:Kept w0 w M0 M own
 bd:∀b,own b->b<U w.heap
 oq:own qb
 nq:¬M qb
 lq:U w0.heap<=qb
 hq:w.heap[qb]? =K (aq q 115 (0,0))
 ow:own wb
 nw:¬M wb
 lw:U w0.heap<=wb
 hw:w.heap[wb]? =K (aq (cR<|kH ws) 4 (0,0))
section
variable{O:F->ag->Prop}{J:List cK->(Nat->Prop)->ag->Prop}{Go:List cK->Bool}{w:ag}{M own:Nat->Prop}{u first n qb:Nat}{pre:List cK}{a:bt}{L:List aO}{l:List (bx×Int)}{Q:List Bd}{an:List Int}{H:List bH}{y x S:Nat}{A:Option aL}{bP ew:Nat->Nat}{T:Option aL}{cb bC bF:Nat}{ro:Option aL}{rb bL bD:Nat}{V:Nat->Nat->List aC}{p B:F}{cW:Nat}{sk:Bool}{b:Bd}
def wQ(h:W.heap[m]? =K (aq C Qd (0,0))):pF W m 0 (dY C):=λd v c=>by
 unfold ap;simp only[h];rw[fq];simpa using c
def tB(h:W.heap[m]? =K (aq C Qd (0,0)))(c:C[k]? =K v):ap W ⟨m,k,Z⟩=K v:=by
 unfold ap;simp only[h];exact c
def u_(ao:Cons (aH ax) ax O u (λg=>FM g l Q an H y x A S bP ew T cb bC ro rb bL) J Go)(a9:FQ l Q an H V)(hF:∀g,(∀b,b<U w0.heap->¬M0 b->pG g w0 b)->U w0.heap<=U g.heap->FM g l Q an H y x A S bP ew T cb bC ro rb bL)(f:Q[i]? =K b)(bh:0<I Q->¬M0 S)
 (h:wi J w0 w M0 M own #[p,B,ah A (I Q) cW,ah T (I an) bF,ah ro (I H) bD,ak sk] u first n i (I Q) qb wb (I l) (ah A (I Q) cW) ws pre a)
 (aU:∀al am P e,wi J w0 am M0 M al #[p,B,ah A (I Q) cW,ah T (I an) bF,ah ro (I H) bD,ak sk] u first n i (I Q) qb wb (I l) (ah A (I Q) cW) ws pre P->cx P 9=(aK e)->al e->¬M e->U w0.heap<=e->e≠qb->e≠wb->am.heap[e]? =K (aq #[n9 b.rows,ah (K ⟨bP i,0,Z⟩) (I l)<|ew i] 139 (0,0))->
   Xe (aH ax) ax O al ((base 54).at P<|(if !(sk&&pW Q H i) then[bJ<|MG mB] else[bJ ey])++Dq mB) L am):
 Xe (aH ax) ax O own ((base 54).at a [bJ<|tD mB,gx<|tD mB,fh 0,bJ<|Ao mB]) L w:=by
 have d:=me (aH ax) ax O;have⟨c,ab,be,r,s,k,a4,a0,bk,C,a5,a2,bu⟩:=h;have X:i<I Q:=(fF.1 f).1;have aE:jb tr own w:=λb f=>eD f ff<|s b;have q:=r.same (λb bV _ h _=>h)<|aZ _;have aw:=hF w q.1 q.2;have bj:own S:=by
  exact(r.keep S ((hF w0 (λ_ _ _ _ h _=>h)<|aZ _).ld aa)<|bh aa).1
 obtain rfl:=aw.da aa;refine cy d<|dP d [0] Y<|eF d c Y (ak af) (sE Y (c.of Y) (c.of Y) bS) λc=>dr d<|cy d<|iJ d af (c.of Y)<|nV d<|cy d<|nS d<|cy d<|dP d [0,1,2,3] Y<|eF d c Y (cU<|K ⟨S,0+i*2,Z⟩) (pV Y (c.of Y) (c.of Y) Tryz.underlying103 Tryz.sizeOf139 X) λc=>nU d c Y (bZ #[n9 b.rows,ah (K ⟨bP i,0,Z⟩) (I l)<|ew i]) (oz (cs:=[n9 b.rows,ah (K ⟨bP i,0,Z⟩) (I l)<|ew i]) Y (c.of Y) tS Y AU (ai bj)<|aw.d i b f) λc=>oS d aE az Y Y (aq #[z9 0,aF] 139) trivial (λn=>(aK n)) (CU Y Tryz.zeroValue139) λe b0 bi bm hrel bb=>?_;replace c:=c.put (d:=9) az<|aK e;have aI:=aE.new bi bm;refine vh d aI az Y Y (ai Y) (aq #[n9 b.rows,ah (K ⟨bP i,0,Z⟩) (I l)<|ew i] 139) trivial (vr (n:=e) (off:=0) (v:=bZ #[n9 b.rows,ah (K ⟨bP i,0,Z⟩) (I l)<|ew i]) Y (c.of Y) (c.of Y) AU (λbz aD=>by simp[jn] at aD;rcases aD with rfl|rfl<;>rfl) (ai<|ai rfl) bb<|aZ 2) λN j=>?_;replace c:=c.none bR;have bM:=s qb k;have bQ:=s wb C;have D:RelB own w N:=⟨λb ad=>aB (j.at_ b (ai<|av ad)<|cA<|s b ad)<|hrel.at_ b<|ai ad,dW hrel.size j.size,aB j.tape hrel.tape,aB j.os hrel.os,aB j.output hrel.output⟩;have t:=r.rel (own':=λb=>own b\/b=e) D λb h=>av h;have aQ:=ao.rJ _ _ _ N be (λb f=>D.at_ b<|r.oY b f) D.size;have aC:∀b,own b\/b=e->b<U N.heap:=λb f=>(aI.set j) b<|ai f;have G:=aB (D.at_ qb k) bk;have a8:=aB (D.at_ wb C) bu;have a7:∀b,M b->b≠e:=λb f R=>cA<|s b<|r.oY b f;have a1:U w0.heap<=e:=cA r.size;refine dr d<|cy d ?_;refine cy d<|dP d [0,1,2,3,4,5,6,7,8] Y<|eF d c Y (cU<|K ⟨qb,5,Z⟩) (nD (off':=5) Y (c.of Y) vS Y Tryz.sizeOf4 Y) λc=>?_;refine nU d c Y (ak sk) (ju Y (c.of Y) Tryz.isAgg4 (ai<|av k)<|tB G Y) λc=>eF d c Y (ak<|!sk) (Bq Y<|c.of Y) λc=>?_;refine eL d c λc=>?_;cases sk with
 |false=>
  refine pK d c λc=>?_;refine pK d c λc=>?_;refine pK d c λc=>?_;exact pK d c λc=>eF d c Y (ak af) (Gb Y (c.of Y) Y) λc=>dr d<|iJ d af (c.of Y)<|aU _ N _ e ⟨(((((((c.nil.cons<|c.slot 1 _ Y).cons<|c.slot 2 _ Y).cons<|c.slot 4 _ Y).cons<|c.slot 6 _ Y).cons<|c.slot 7 _ Y).cons<|c.slot 16 _ Y).cons<|c.slot 17 _ Y).cons<|c.slot 18 _ Y,by simp only[put_defers];exact ab,aQ,t,aC,av k,a4,a0,G,av C,a5,a2,a8⟩ (c.slot 9 _ Y) (ai Y) (λh=>a7 e h Y) a1 aa aa j.set
 |true=>
  refine vf d az Y (c.want (d:=25) (want:=aj) (b:=aj) Y Y Y az) (oz (cs:=[p,B,aG S (I Q) cW,ah T (I an) bF,ah ro (I H) bD,ak af]) Y (c.of Y) vS Y Ag (ai<|av k)<|wQ G) ?_;replace c:=c.put (d:=26) az<|qv p B (aG S (I Q) cW) (ah T (I an) bF) (ah ro (I H) bD) af;refine vf d az Y (c.want (d:=25) (want:=aj) (b:=aj) Y Y Y az) (oz (cs:=[n9 b.rows,ah (K ⟨bP i,0,Z⟩) (I l)<|ew i]) Y (c.of Y) tS Y AU (ai<|ai Y)<|wQ j.set) ?_;replace c:=c.put (d:=27) az<|bZ #[n9 b.rows,ah (K ⟨bP i,0,Z⟩) (I l)<|ew i];refine DW (R:=λg R ar=>∃o,R=aN (ak o)/\o=pW Q H i) fX Y Y (c.want (d:=25) (want:=aj) (b:=aj) Y Y Y az) Y (B1 (c.of Y)<|c.of Y) Tryz.func77 ad9 Y (bq<|vw Y Y Y) (gT Y (by simp only[put_defers];exact ab) aR) (λg q ae=>?_) λv E g ar q ae bH br bK m=>?_;have aA:=hF g (t.same q ae).1 (t.same q ae).2;refine bG (Fs H (λbv=>(aW b.chunks (bO bv) ir).bT) (b.rows:Int) (bP i) (I l) (ew i) p B (aG S (I Q) cW) (ah T (I an) bF) ro rb bL bD af g a9.rn aA.nr<|aA.VF a9 f) λR ar h=>?_;obtain⟨o,rfl,W,ba⟩:=h;refine⟨ba,_,rfl,o,rfl,?_⟩;have bd:aW Q i ⟨0,[]⟩=b:=by rw[ep,f];rfl
  unfold pW;rw[bd];cases F:o with
  |true=>
   symm
   rw[F] at W;apply xh;intro a3;simp only[Bool.not_eq_true,List.any_eq_false] at a3;have:∀i (h:i<I H),Ec.jN ((aW b.chunks H[i].col.toNat ir).bT) H[i]=aj:=λi X=>by
    have:=a3 H[i]<|dm X;simpa using this
   have:=W.2 this;cases this
  |false=>
   symm
   rw[List.any_eq_false];intro bW bl;obtain⟨bx,bo,rfl⟩:=List.mem_iff_getElem.1 bl;have:=(W.1 F) bx bo;simpa using this
  obtain⟨o,F,rfl⟩:=br;cases F;have bs:=aB (m.at_ e<|ai Y) j.set;have bc:∀b,grown (λb=>own b\/b=e) (U g.heap) (U E.heap) b->b<U E.heap:=λb f=>eD f (λh=>cL (aC b h) m.size) λh=>h.2;replace c:=c.put (d:=28) az<|ak<|pW Q H i;refine tf d az Y (c.want (d:=25) (want:=aj) (b:=aj) Y Y Y az) (Bq Y<|c.of Y) ?_;replace c:=c.put (d:=29) az<|ak<|!pW Q H i;refine eF d c Y (ak<|!pW Q H i) (Ga Y (c.of Y)<|c.of Y) λc=>dr d<|iJ d (!pW Q H i) (c.of Y) ?_;have z:=aU _ E _ e ⟨(((((((c.nil.cons<|c.slot 1 _ Y).cons<|c.slot 2 _ Y).cons<|c.slot 4 _ Y).cons<|c.slot 6 _ Y).cons<|c.slot 7 _ Y).cons<|c.slot 16 _ Y).cons<|c.slot 17 _ Y).cons<|c.slot 18 _ Y,by simp only[put_defers];exact ab,(ao.rJ _ _ _ E aQ (λb f=>m.at_ b<|t.oY b f) m.size),(t.rel (own':=grown (λb=>own b\/b=e) (U g.heap)<|U E.heap) m λb h=>av h),bc,av<|av k,a4,a0,(aB (m.at_ qb<|av k) G),av<|av C,a5,a2,(aB (m.at_ wb<|av C) a8)⟩ (c.slot 9 _ Y) (av<|ai Y) (λh=>a7 e h Y) a1 aa aa bs;rw[Bool.true_and] at z;cases a6:pW Q H i with
  |true=>rw[a6] at z;exact z
  |false=>rw[a6] at z;exact z
end
def ia (A nk T S g B:Nat)(O:Option aL)(e cW:Nat)(H:Option aL)(f bF:Nat)(ro:Option aL)(h bD:Nat)(sk:Bool):Array F:= #[aG A nk T,aG S g B,ah O e cW,ah H f bF,ah ro h bD,ak sk]
section
variable{C:F->ag->Prop}{J:List cK->(Nat->Prop)->ag->Prop}{Go:List cK->Bool}{z w:ag}{d M own:Nat->Prop}{y first n t u v:Nat}{pre:List cK}{a:bt}{x:List aO}{l:List (bx×Int)}{R:List Bd}{an:List Int}{Q:List bH}{A T S B L:Nat}{bP ew:Nat->Nat}{H:Option aL}{cb bC bF:Nat}{ro:Option aL}{rb bL bD:Nat}{V:Nat->Nat->List aC}{cW:Nat}{sk:Bool}{b:Bd}{c:aO}
def Lp(j:R[i]? =K b):hY R QB V i=af↔∀e,QB[e]? =K af->I (V i e)=b.rows:=by
 unfold hY;rw[Dr j,fA];constructor;intro h e f;have g:e<I QB:=(fF.1 f).1;have:=h e<|nP.2 g;rw[ep,f] at this;simpa using this;intro h e f;have g:=nP.1 f;rw[ep,dV g];cases k:QB[e] with
 |false=>simp
 |true=>
  have:=h e (by rw[dV g,k]);simp[this]
def WO{E N:Nat}{g:Nat->Nat}(F:FQ l R an Q V)(h:FM W l R an Q A S O L bP ew H cb bC ro rb bL)(D:W.heap[E]? =K (aq (cR<|nA (dy (I l)<|an++Q.map bH.col) g (V i) N<|I<|dy (I l)<|an++Q.map bH.col) 43 (0,0)))(Z:∀e,(dy (I l)<|an++Q.map bH.col)[e]? =K af->Row W (g e) N (V i e))(X:∀e,(dy (I l)<|an++Q.map bH.col)[e]? =K af->I (V i e)=N):
 xE W an Q H cb bC ro rb bL E (I l) N (uC V i):=by
 refine⟨h.ca,h.cl,h.cc,h.nr,λq aw k j=>?_⟩;have U:(0<=k/\k<(I l:Int))/\k∈an++Q.map bH.col:=by
  rcases j with j|⟨G,f,rfl⟩;exact⟨F.ck k j,List.mem_append_left _ j⟩;exact⟨F.rk G f,List.mem_append_right _<|jW.2 ⟨G,f,rfl⟩⟩
 have⟨⟨P,am⟩,ab⟩:=U;obtain⟨e,rfl⟩:=uR P;have m:e<I l:=aa;have p:=K9.2 ⟨m,ab⟩;have ar:=X e p;have⟨⟨al,r,ao,ad⟩,_⟩:=Z e p;have o:q<I (V i e):=aa;have f:=Dp r ad o;have ae:uC V i (e:Int) q=(V i e)[q]:=by
  unfold uC;rw[Int.toNat_natCast,ep,dV o];rfl
 rw[ae];refine⟨e,g e,I<|V i e,N,rfl,m,(dn.1 D).1,?_,o,(dn.1 r).1,?_,?_,?_⟩;unfold ap;simp only[D];have s:e<I (dy (I l)<|an++Q.map bH.col):=by rw[Ec.CL];exact m
 have:=Bg (ws:=dy (I l)<|an++Q.map bH.col) (g:=g) (V:=V i) (N:=N) (i:=I<|dy (I l)<|an++Q.map bH.col) s;rw[if_pos ⟨s,p⟩] at this;simpa using this;have:=f 0 _ Y;rw[fq,tY] at this;exact this;have:=f 1 _ Y;rw[fq] at this;exact this;have:=f 2 _ Y;rw[fq] at this;exact this
end
section
variable{H:F->ag->Prop}{J:List cK->(Nat->Prop)->ag->Prop}{Go:List cK->Bool}{L w:ag}{M own:Nat->Prop}{lp first n m f T:Nat}{pre:List cK}{a:bt}{l:List (bx×Int)}{Q:List Bd}{an:List Int}{O:List bH}{t B A r:Nat}{S:Option aL}{bP ew:Nat->Nat}{cb bC bF:Nat}{ro:Option aL}{rb bL bD:Nat}{V:Nat->Nat->List aC}{cW:Nat}{sk:Bool}{b:Bd}{c:aO}
def II{a:bt}(d:bp a Qq=v): #[Qq].map (bp a)=#[v]:=by simp[d]
def PG{a:bt}{e g h d v:eg}(j:bp a e=x)(k:bp a g=y)(o:bp a h=z)(p:bp a d=qs)(q:bp a v=qt): #[e,g,h,d,v].map (bp a)=#[x,y,z,qs,qt]:=by simp[j,k,o,p,q]
def MH(j:FQ l Q an O V)(o:Q[i]? =K b)(R:first<=100000)(U:i<I Q)
 (h:wi J L w M0 M own (ia t (I l) B A (I l) r S (I Q) cW co (I an) bF ro (I O) bD sk) lp first n i (I Q) m f (I l) (ah S (I Q) cW) (dy (I l)<|an++O.map bH.col) pre a) (k:cx a 9=(aK T)) (E:own T) (F:w.heap[T]? =K (aq #[n9 b.rows,ah (K ⟨bP i,0,Z⟩) (I l)<|ew i] 139 (0,0)))
 (u:∀g,wi J L w M0 M own (ia t (I l) B A (I l) r S (I Q) cW co (I an) bF ro (I O) bD sk) lp (first+b.rows) n (i+1) (I Q) m f (I l) (ah S (I Q) cW) (dy (I l)<|an++O.map bH.col) pre g->Xe (aH ax) ax H own ((base 54).at g [bJ<|tD mB,gx<|tD mB,fh 0,bJ<|Ao mB]) cs w):
 Xe (aH ax) ax H own ((base 54).at a<|Dq mB) cs w:=by
 have e:=me (aH ax) ax H;have⟨d,q,s,v,p,D,z,x,N,G,C,y,P⟩:=h;have X:=j.rows b<|oP o;have W:=j.nb;replace d:=d.cons k;refine dP e [0,1,2,3,4] Y<|eL e d λd=>?_;refine eF e d Y (aK T) (nD (off':=0) Y (d.of Y) tS Y vR Y) λd=>nU e d Y (n9 b.rows) (ju Y (d.of Y) xp (ai E)<|tB F Y) λd=>eF e d Y (z9 ((first+b.rows:Nat):Int)) (uo Y (d.of Y) (d.of Y) aa) λd=>?_;refine lK e d λd=>dr e ?_;refine ue e<|dP e [0,1] Y<|eF e d Y (z9 ((i+1:Nat):Int)) (uo (j:=1) Y (d.of Y) Y aa) λd=>?_;exact eL e d λd=>dr e<|ve e<|u _ ⟨(((((((d.nil.cons<|d.slot 1 _ Y).cons<|d.slot 2 _ Y).cons<|d.slot 4 _ Y).cons<|d.slot 6 _ Y).cons<|d.slot 7 _ Y).cons<|d.slot 16 _ Y).cons<|d.slot 17 _ Y).cons<|d.slot 18 _ Y,by simp only[put_defers];exact q,s,v,p,D,z,x,N,G,C,y,P⟩
def G0(ao:Cons (aH ax) ax H lp (λy=>FM y l Q an O t A S db bP ew co cb bC ro rb bL) J Go)(bS:Go pre=af)(am:FQ l Q an O V)(hF:∀y,(∀b,b<U L.heap->¬M0 b->pG y L b)->U L.heap<=U y.heap->FM y l Q an O t A S db bP ew co cb bC ro rb bL)(g:Q[i]? =K b)(b1:first=k8 Q i)(cM:I pre<=first)(cK:n<=100000)
 (h:wi J L w M0 M own (ia t (I l) B A (I l) r S (I Q) cW co (I an) bF ro (I O) bD sk) lp first n i (I Q) m f (I l) (ah S (I Q) cW) (dy (I l)<|an++O.map bH.col) pre a) (bQ:cx a 9=(aK T)) (a1:own T) (cc:¬M T) (cv:U L.heap<=T) (bu:w.heap[T]? =K (aq #[n9 b.rows,ah (K ⟨bP i,0,Z⟩) (I l)<|ew i] 139 (0,0)))
 (b0:hY Q (dy (I l)<|an++O.map bH.col) V i=aj->∀z o,J pre M o->Kept L o M0 M z->(∀b,z b->b<U o.heap)->Xe (aH ax) ax H z (dR c<|cP #[z9 ((n+1:Nat):Int),z9 3]) cs o)
 (ck:hY Q (dy (I l)<|an++O.map bH.col) V i=af->(feed Go pre<|kK Q an O V i).2=aj->∀z E o,J (feed Go pre<|kK Q an O V i).1 E o->Kept L o M0 E z->(∀b,z b->b<U o.heap)->Xe (aH ax) ax H z (dR c<|cP #[z9 ((n+1:Nat):Int),z9 0]) cs o)
 (b4:hY Q (dy (I l)<|an++O.map bH.col) V i=af->(feed Go pre<|kK Q an O V i).2=af->∀z E o aD,wi J L o M0 E z (ia t (I l) B A (I l) r S (I Q) cW co (I an) bF ro (I O) bD sk) lp first (n+1) i (I Q) m f (I l) (ah S (I Q) cW) (dy (I l)<|an++O.map bH.col) (feed Go pre<|kK Q an O V i).1 aD->cx aD 9=(aK T)->z T->o.heap[T]? =K (aq #[n9 b.rows,ah (K ⟨bP i,0,Z⟩) (I l)<|ew i] 139 (0,0))->Xe (aH ax) ax H z ((base 54).at aD<|Dq mB) (c::cs) o):
 Xe (aH ax) ax H own ((base 54).at a<|bJ (MG mB)::Dq mB) (c::cs) w:=by
 have e:=me (aH ax) ax H;have⟨d,ab,G,x,P,a0,bk,b8,bo,a2,bl,ca,bv⟩:=h;have be:I (dy (I l)<|an++O.map bH.col)=I l:=Ec.CL;have b2:=dW (E9 Q<|i+1) am.tot;rw[Fa g] at b2;replace d:=d.cons bQ;refine cy e<|dP e [0,1,2] Y ?_;refine eL e d λd=>eF e d Y (z9 ((n+1:Nat):Int)) (uo (j:=1) Y (d.of Y) Y aa) λd=>?_;refine lK e d λd=>dr e<|cy e<|dP e [0,1,2,3,4,5,6,7,8,9] Y<|nU e d Y (r9 (b.rows:Int) (bP i) (I l)<|ew i) (oz (cs:=[n9 b.rows,ah (K ⟨bP i,0,Z⟩) (I l)<|ew i]) Y (d.of Y) tS Y AU (ai a1)<|wQ bu) λd=>eF e d Y (aK m) (nD (off':=0) Y (d.of Y) vS Y Tryz.sizeOf105 Y) λd=>?_;refine vf e az Y Y (oz (cs:=[aG t (I l) B,aG A (I l) r,ah S (I Q) cW]) Y (d.of Y) Tryz.underlying105 Y JP (ai a0) (λW v G=>wQ bo W v (by
  rcases W with _|_|_|W;exact G;exact G;exact G;simp at G))) ?_
 replace d:=d.put (d:=36) az<|sw t (I l) B A (I l) r<|ah S (I Q) cW;refine eL e d λd=>AE (R:=λD=>H6 D b.rows (dy (I l)<|an++O.map bH.col)<|V i) (vs:= #[r9 (b.rows:Int) (bP i) (I l)<|ew i,sw t (I l) B A (I l) r<|ah S (I Q) cW,aG f (I l)<|I l]) Y Y Y Y (Eh (d.of Y) (d.of Y)<|d.of Y) Tryz.func78 adV Y (gT Y (by simp only[put_defers];exact ab) aR) (λD C=>?_) (λD v s C aA a4 cd=>?_) (λD bK o ⟨_,_,_,u,_⟩=>de u) λD o ⟨_,_,_,u,_⟩=>de u;have bc:=x.rel C λb h=>h;have:=PY (Post:=H) (cap:=ew i) (ck:=B) (ce:=r) (x:=ah S (I Q) cW) (g8:=I l)<|(hF D (bc.same (λb al _ h _=>h)<|aZ _).1 bc.size).bin am g<|aB (C.at_ f a2) bv;rw[be] at this;exact this;obtain⟨a6,e5,p,u,a8,b7,bh,ch,aQ⟩:=aA;cases u;rw[be];have aU:hY Q (dy (I l)<|an++O.map bH.col) V i=e5:=by
  cases e5 with
  |true=>exact(Lp g).2<|aQ.1 Y
  |false=>
   cases u:hY Q (dy (I l)<|an++O.map bH.col) V i with
   |false=>rfl
   |true=>exact absurd (aQ.2<|(Lp g).1 u) az
 have X:∀b,own b->s.heap[b]? =w.heap[b]? :=λb bm=>aB (cT a8 b<|cL (P b bm) C.size)<|C.at_ b bm;have R:=dW C.size a8.size;have j:Kept L s M0 M (λb=>b<U s.heap):=⟨λb g k=>⟨by have:=x.size;show b<U s.heap;omega,aB (X b (x.keep b g k).1) (x.keep b g k).2⟩,x.ext,λb g=>cL (P b<|x.oY b g) R,dW x.size R,aB a4.tape<|aB C.tape x.tape,aB a4.os<|aB C.os x.os,aB a4.output<|aB C.output x.output⟩;have bb:=ao.rJ _ _ _ s G (λb g=>X b<|x.oY b g) R;have br:=aB (X m a0) bo;have cn:=aB (X f a2) bv;have aA:=aB (X T a1) bu;have a7:=cL (P m a0) R;have bz:=cL (P f a2) R;have bx:=cL (P T a1) R;refine Xe.go (own:=λb=>b<U s.heap) ?_ (λb h=>h) cd;replace d:=d.put (d:=38) az<|cP #[aG a6 (I l)<|I l,ak e5];refine eL e d λd=>?_;refine AW e d λd=>?_;refine AW e d λd=>?_;refine lK e d λd=>?_;refine lK e d λd=>?_;refine dr e<|cy e<|cy e<|dP e [0,1] Y<|eL e d λd=>eF e d Y (ak<|!e5) (Bq Y<|d.of Y) λd=>dr e ?_;cases e5 with
 |false=>
  refine iJ e af (d.of Y)<|cy e ?_;refine dP e [0,1,2] Y<|eL e d λd=>?_;refine lK e d λd=>rD e d (z9 3) λd=>dr e<|vg e ?_;have ae:=Du (P:=ax) Tryz.results54 (d.slot 4 _ Y)<|d.slot 5 _ Y;exact xK e Y (by simp only[put_defers];exact ab) Tryz.func54 ae.1 ae.2<|b0 aU _ s bb j λb h=>h
 |true=>
  have bW:=aQ.1 Y;refine iJ e aj (d.of Y)<|nV e ?_;refine cy e<|dP e [0,1,2,3,4,5,6,7] Y ?_;refine nU e d Y (qv (aG t (I l) B) (aG A (I l) r) (ah S (I Q) cW) (ah co (I an) bF) (ah ro (I O) bD) sk) (oz (cs:=dY<|ia t (I l) B A (I l) r S (I Q) cW co (I an) bF ro (I O) bD sk) Y (d.of Y) vS Y Ag (ai a7)<|wQ br) λd=>?_;refine eL e d λd=>?_;refine eL e d λd=>?_;refine eF e d Y (aK T) (nD (off':=0) Y (d.of Y) tS Y vR Y) λd=>nU e d Y (n9 b.rows) (ju Y (d.of Y) xp (ai bx)<|tB aA Y) λd=>?_;refine eL e d λd=>AE (R:=λaC=>Ib J M aC<|feed Go pre<|kK Q an O V i) (vs:= #[qv (aG t (I l) B) (aG A (I l) r) (ah S (I Q) cW) (ah co (I an) bF) (ah ro (I O) bD) sk,aG a6 (I l)<|I l,n9 first,n9 b.rows,.func (gP lp) #[] #[]]) Y Y Y Y (PG (d.of Y) (d.of Y) (d.of Y) (d.of Y)<|d.of Y) Tryz.func79 ad4 Y (gT Y (by simp only[put_defers];exact ab) aR) (λaC q=>?_) (λaC v N q cl a5 cf=>?_) (λD bK o ⟨u,_⟩=>de u) λD o ⟨u,_⟩=>de u;have b5:=ao.rJ _ _ _ aC bb (λb g=>q.at_ b<|j.oY b g) q.size;have ba:kK Q an O V i=jO (iL O<|uC V i) (λcq=>an.map λcp=>uC V i cp cq) first 0 b.rows:=by
   unfold kK;rw[Dr g,b1]
  rw[ba];refine Uv (val:=uC V i) (cb:=cb) (bC:=bC) (rb:=rb) (bL:=bL) ao bS b5 (λy aF a3=>hF y (λb g k al ad ar=>aB (aF b (cL g<|dW j.size q.size) λh=>eD (j.ext b h) k λh=>aa)<|aB (q.at_ b (j.keep b g k).1)<|(j.keep b g k).2.trans ad)<|dW j.size<|dW q.size a3) (λy aF a3=>?_) (by omega) am.cn am.rn aa;have F:∀b,b<U s.heap->¬M b->pG y s b:=λb g k al ad ar=>aF b (cL g q.size) k al (aB (q.at_ b g) ad) ar;have bV:∀b,M b->b<U D.heap:=λb g=>cL (P b<|x.oY b g) C.size;have bT:=hF y (λb g k al ad ar=>F b (j.keep b g k).1 (λh=>eD (j.ext b h) k λh=>aa) al ((j.keep b g k).2.trans ad) ar)<|dW j.size<|dW q.size a3;have bi:∀p,U D.heap<=p->p<U s.heap->pG y s p:=λp cu bM=>F p bM λh=>cA<|bV p h;refine WO (g:=p) am bT (bi a6 b7 (dn.1 bh).1 _ bh trivial) (λW G=>?_) bW;have⟨bs,b3⟩:=ch W G;have⟨cr,aI,_⟩:=bs.ex;exact bs.same<|aB (bi (p W) b3 (dn.1 aI).1 _ aI trivial)<|bq aI;have⟨u,E,aE,b6,cN,a9⟩:=cl;cases u;have ci:=q.size;have F:∀b,b<U s.heap->¬M b->N.heap[b]? =s.heap[b]? :=λb g k=>aB (b6 b (cL g ci) k)<|q.at_ b g;have bd:Kept L N M0 E (λb=>b<U N.heap):=⟨λb g k=>⟨by have:=j.size;show b<U N.heap;omega,aB (F b (j.keep b g k).1 λh=>eD (j.ext b h) k λh=>by omega) (j.keep b g k).2⟩,λb g=>eD (a9 b g) (j.ext b) λh=>ai<|cA j.size,λb g=>ao.bound _ _ _ aE b g,cA j.size,aB a5.tape<|aB q.tape j.tape,aB a5.os<|aB q.os j.os,aB a5.output<|aB q.output j.output⟩;have bj:∀p,p<U s.heap->¬M p->¬E p:=λp ba k h=>eD (a9 p h) k λh=>aa;refine Xe.go (own:=λb=>b<U N.heap) ?_ (λb h=>h) cf;replace d:=d.put (d:=50) az<|ak (feed Go pre<|kK Q an O V i).2;refine eF e d Y (ak<|!(feed Go pre<|kK Q an O V i).2) (Bq Y<|d.of Y) λd=>dr e ?_;cases aw:(feed Go pre<|kK Q an O V i).2 with
  |false=>
   rw[aw] at d;refine iJ e af (d.of Y)<|cy e ?_;refine dP e [0,1,2] Y<|eL e d λd=>?_;refine lK e d λd=>rD e d (z9 0) λd=>dr e<|vg e ?_;have ae:=Du (P:=ax) Tryz.results54 (d.slot 4 _ Y)<|d.slot 5 _ Y;exact xK e Y (by simp only[put_defers];exact ab) Tryz.func54 ae.1 ae.2<|ck aU aw _ E N aE bd λb h=>h
  |true=>
   rw[aw] at d;exact iJ e aj (d.of Y)<|nV e<|b4 aU aw _ E N _ ⟨(((((((d.nil.cons<|d.slot 1 _ Y).cons<|d.slot 2 _ Y).cons<|d.slot 4 _ Y).cons<|d.slot 6 _ Y).cons<|d.slot 7 _ Y).cons<|d.slot 16 _ Y).cons<|d.slot 17 _ Y).cons<|d.slot 18 _ Y,by simp only[put_defers];exact ab,aE,bd,(λb h=>h),by show m<_;omega,bj m a7 bk,b8,aB (F m a7 bk) br,by show f<_;omega,bj f bz bl,ca,aB (F f bz bl) cn⟩ (d.slot 9 _ Y) (by show T<_;omega)<|aB (F T bx cc) aA
end
section
variable{O:F->ag->Prop}{J:List cK->(Nat->Prop)->ag->Prop}{Go:List cK->Bool}{w:ag}{M own:Nat->Prop}{y first n T u k:Nat}{pre:List cK}{a:bt}{x:List aO}{l:List (bx×Int)}{Q:List Bd}{an:List Int}{H:List bH}{L p A t z:Nat}{S:Option aL}{bP ew:Nat->Nat}{B:Option aL}{cb bC bF:Nat}{ro:Option aL}{rb bL bD:Nat}{V:Nat->Nat->List aC}{cW:Nat}{sk:Bool}{b:Bd}{c:aO}
def t_(h:wi J w0 w M0 M own (ia L (I l) p A (I l) t S (I Q) cW B (I an) bF ro (I H) bD sk) y first n (I Q) (I Q) T u (I l) (ah S (I Q) cW) (dy (I l)<|an++H.map bH.col) pre a)(g:Xe (aH ax) ax O own (dR c<|cP #[n9 n,z9 0]) x w):
 Xe (aH ax) ax O own ((base 54).at a [bJ<|tD mB,gx<|tD mB,fh 0,bJ<|Ao mB]) (c::x) w:=by
 have d:=me (aH ax) ax O;have e:=h.kn;refine cy d ?_;refine dP d [0] Y ?_;refine eF d e Y (ak aj) (sE Y (e.of Y) (e.of Y) aI) λe=>?_;refine dr d ?_;refine cy d ?_;refine iJ d aj (e.of Y) ?_;refine wA d (k':=[bJ<|Ao mB]) Y ?_;refine cy d ?_;refine dP d [0,1,2] Y ?_;refine eL d e λe=>?_;refine lK d e λe=>?_;refine rD d e (z9 0) λe=>?_;refine dr d ?_;refine vg d ?_;have f:=Du (P:=ax) Tryz.results54 (e.slot 4 _ Y)<|e.slot 5 _ Y;exact xK d Y (by simp only[put_defers];exact h.df) Tryz.func54 f.1 f.2 g
def v_(E:Cons (aH ax) ax O y (λv=>FM v l Q an H L A S z bP ew B cb bC ro rb bL) J Go)(m:FQ l Q an H V)(hF:∀v,(∀b,b<U w0.heap->¬M0 b->pG v w0 b)->U w0.heap<=U v.heap->FM v l Q an H L A S z bP ew B cb bC ro rb bL)(aD:0<I Q->¬M0 z):
 ∀(e i:Nat),i+e=I Q->∀(pre:List cK) (own M:Nat->Prop) (w:ag) (a:bt) (n:Nat),Go pre=af->n<=i->I pre<=k8 Q i->
 wi J w0 w M0 M own (ia L (I l) p A (I l) t S (I Q) cW B (I an) bF ro (I H) bD sk) y (k8 Q i) n i (I Q) T u (I l) (ah S (I Q) cW) (dy (I l)<|an++H.map bH.col) pre a->
 (∀j r g,J (gK sk Q an H (dy (I l)<|an++H.map bH.col) V Go i e pre n).1 r g->Kept w0 g M0 r j->(∀b,j b->b<U g.heap)->Xe (aH ax) ax O j (dR c<|cP #[n9<|(gK sk Q an H (dy (I l)<|an++H.map bH.col) V Go i e pre n).2.1,n9<|(gK sk Q an H (dy (I l)<|an++H.map bH.col) V Go i e pre n).2.2]) x g)->
 Xe (aH ax) ax O own ((base 54).at a [bJ<|tD mB,gx<|tD mB,fh 0,bJ<|Ao mB]) (c::x) w:=by
 intro e
 induction e with
 |zero=>
  intro i aA pre own M w a n s aC P d f;have:i=I Q:=aa;subst this;exact t_ d<|f own M w d.j d.kept d.bd
 |succ e ar=>
  intro i aA pre own M w a n s aC P d f;have ae:i<I Q:=aa;have h:Q[i]? =K Q[i]:=dV ae;generalize Q[i]=b at h;have a1:=m.nb;have aR:=dW (E9 Q<|i+1) m.tot;have ao:=Fa h;refine u_ E m hF h aD d λaG aI aQ k F G N am al a2 a3 W=>?_;cases R:(sk&&pW Q H i) with
  |true=>
   have o:gK sk Q an H (dy (I l)<|an++H.map bH.col) V Go i (e+1) pre n=gK sk Q an H (dy (I l)<|an++H.map bH.col) V Go (i+1) e pre n:=by simp only[gK,R,if_true]
   rw[o] at f;refine nV (me (aH ax) ax O)<|MH m h aa ae F G N W λX C=>?_;rw[<-ao] at C;exact ar (i+1) aa pre aG M aI X n s aa aa C f
  |false=>
   cases q:hY Q (dy (I l)<|an++H.map bH.col) V i with
   |false=>
    have o:gK sk Q an H (dy (I l)<|an++H.map bH.col) V Go i (e+1) pre n=(pre,n+1,3):=by simp only[gK,R,q,eN,if_false]
    rw[o] at f;exact G0 E s m hF h Y P aa F G N am al W (λ_ j g ab ad Z=>f j M g ab ad Z) (λd=>by rw[q] at d;cases d) (λd=>by rw[q] at d;cases d)
   |true=>
    cases D:(feed Go pre<|kK Q an H V i).2 with
    |false=>
     have o:gK sk Q an H (dy (I l)<|an++H.map bH.col) V Go i (e+1) pre n=((feed Go pre<|kK Q an H V i).1,n+1,0):=by simp only[gK,R,q,D,eN,if_false,if_true]
     rw[o] at f;exact G0 E s m hF h Y P aa F G N am al W (λd=>by rw[q] at d;cases d) (λ_ _ j r g ab ad Z=>f j r g ab ad Z) (λ_ d=>by rw[D] at d;cases d)
    |true=>
     have o:gK sk Q an H (dy (I l)<|an++H.map bH.col) V Go i (e+1) pre n=gK sk Q an H (dy (I l)<|an++H.map bH.col) V Go (i+1) e (feed Go pre<|kK Q an H V i).1 (n+1):=by simp only[gK,R,q,D,eN,if_false,if_true]
     rw[o] at f;refine G0 E s m hF h Y P aa F G N am al W (λd=>by rw[q] at d;cases d) (λ_ d=>by rw[D] at d;cases d) λ_ _ j r g aK aw az aE aF=>(MH m h aa ae aw az aE aF λX C=>?_);rw[<-ao] at C;have aU:=E3 Go (kK Q an H V i) pre;have a0:I (kK Q an H V i)<=b.rows:=by
      unfold kK;rw[Dr h];exact GY _ _ _ _ _
     exact ar (i+1) aa _ j r g X (n+1) (JN _ _ s D) (by omega) (by omega) C f
def Iw (J:List cK->(Nat->Prop)->ag->Prop)(M0:Nat->Prop)(w0:ag)(d:List cK×Nat×Nat)(f:gN)(e:ag):Prop:=
 f=aN (cP #[n9 d.2.1,n9 d.2.2])/\∃g,J d.1 g e/\(∀b,b<U w0.heap->¬M0 b->e.heap[b]? =w0.heap[b]?)/\U w0.heap<=U e.heap/\∀b,g b->M0 b\/U w0.heap<=b
def s_(r:Cons (aH ax) ax O y (λh=>FM h l Q an H L A S z bP ew B cb bC ro rb bL) J Go)(aD:Go []=af)(q:FQ l Q an H V)(ae:J [] M0 w0)(hF:∀h,(∀b,b<U w0.heap->¬M0 b->pG h w0 b)->U w0.heap<=U h.heap->FM h l Q an H L A S z bP ew B cb bC ro rb bL)(a7:0<I Q->¬M0 z):
 sQ (aH ax) ax O 54 #[qv (aG L (I l) p) (aG A (I l) t) (ah S (I Q) cW) (ah B (I an) bF) (ah ro (I H) bD) sk,.func (gP y) #[] #[]] w0 (Iw J M0 w0<|gK sk Q an H (dy (I l)<|an++H.map bH.col) V Go 0 (I Q) [] 0):=by
 intro c x bc bm a9 aE;have e:=me (aH ax) ax O;refine Xe.go (own:=λb=>b<U w0.heap) ?_ (λb f=>f) a9;rw[enter_at _ Tryz.func54 Y];have d:=FB (qv (aG L (I l) p) (aG A (I l) t) (ah S (I Q) cW) (ah B (I an) bF) (ah ro (I H) bD) sk) (.func (gP y) #[] #[]) 59 az;have a1:jb tr (λb=>b<U w0.heap) w0:=λb g=>eD g ff λf=>f;have F:=r.bound _ _ _ ae;have a6:Kept w0 w0 M0 M0 (λb=>b<U w0.heap):=⟨λb g _=>⟨g,rfl⟩,λb g=>av g,F,aZ _,rfl,rfl,rfl⟩;refine cy e<|dP e [0,1,2] Y<|oS e a1 az Y Y (aq (ia L (I l) p A (I l) t S (I Q) cW B (I an) bF ro (I H) bD sk) 115) trivial (λn=>(aK n)) (z3 (v:=qv (aG L (I l) p) (aG A (I l) t) (ah S (I Q) cW) (ah B (I an) bF) (ah ro (I H) bD) sk) Y<|d.of Y) λT ao aI bo bb ad=>?_;replace d:=d.put (d:=2) az<|aK T;refine rD e d (z9 ((0:Nat):Int)) λd=>rD e d (z9 0) λd=>dr e ?_;have X:=FX bb;have G:=a6.rel (own':=λb=>b<U w0.heap\/b=T) X λb f=>av f;have a3:=r.rJ _ _ _ ao ae (λb g=>X.at_ b<|F b g) X.size;have aQ:∀b,(b<U w0.heap\/b=T)->b<U ao.heap:=λb g=>aa;refine cy e<|dP e [0,1,2] Y<|nU e d Y (qv (aG L (I l) p) (aG A (I l) t) (ah S (I Q) cW) (ah B (I an) bF) (ah ro (I H) bD) sk) (oz (cs:=dY<|ia L (I l) p A (I l) t S (I Q) cW B (I an) bF ro (I H) bD sk) Y (d.of Y) vS Y Ag (ai<|ai Y)<|wQ ad) λd=>DW (vs:= #[qv (aG L (I l) p) (aG A (I l) t) (ah S (I Q) cW) (ah B (I an) bF) (ah ro (I H) bD) sk]) (R:=λh D P=>∃s,D=aN (aG s (I l)<|I l)/\U h.heap<=s/\P.heap[s]? =K (aq (cR<|kH<|dy (I l)<|an++H.map bH.col) 4 (0,0))) fX Y Y Y Y (II<|d.of Y) Tryz.func76 aef Y (bq<|vw Y Y Y) (gT Y (by simp only[put_defers]) aR) (λh R ab=>?_) λv o h P R ab bj bd aF C=>?_;have E:=hF h (G.same R ab).1 (G.same R ab).2;have W:=q.m;have bl:=q.cn;refine bG (DQ (I l) an H (K ⟨L,0,Z⟩) p (aG A (I l) t) (ah S (I Q) cW) B cb bC bF ro rb bL bD sk h q.m (by unfold aV;omega) q.rn E.ca E.cl E.cc E.nr q.ck q.rk) λD P f=>?_;obtain⟨aw,s,rfl,aA,aC⟩:=f;exact⟨aw,_,rfl,s,rfl,aA,aC⟩;have⟨u,D,be,N⟩:=bd;cases D;have a5:=G.rel (own':=grown (λb=>b<U w0.heap\/b=T) (U h.heap)<|U o.heap) C λb f=>av f;have a4:=r.rJ _ _ _ o a3 (λb g=>C.at_ b<|G.oY b g) C.size;have am:=aB (C.at_ T<|ai Y) ad;have aU:∀b,grown (λb=>b<U w0.heap\/b=T) (U h.heap) (U o.heap) b->b<U o.heap:=λb g=>eD g (λf=>cL (aQ b f) C.size) λf=>f.2;replace N:=aF.row.1 N;have bh:u<U o.heap:=(dn.1 N).1;have al:grown (λb=>b<U w0.heap\/b=T) (U h.heap) (U o.heap) T:=av<|ai Y;have a8:grown (λb=>b<U w0.heap\/b=T) (U h.heap) (U o.heap) u:=ai ⟨be,bh⟩;replace d:=d.put (d:=13) az<|aG u (I l)<|I l;refine lK e d λd=>dr e<|cy e<|dP e [0] Y<|rD e d (z9 ((0:Nat):Int)) λd=>dr e<|cy e<|cy e<|dP e [0,1,2,3,4] Y<|eF e d Y (aK T) (nD (off':=0) Y (d.of Y) vS Y Tryz.sizeOf105 Y) λd=>eF e d Y (cU<|K ⟨T,2,Z⟩) (nD (off':=2) Y (d.of Y) Tryz.underlying105 Y Tryz.sizeOf103 Y) λd=>nU e d Y (ah S (I Q) cW) (ju Y (d.of Y) Tryz.isAgg103 (ai al)<|tB am Y) λd=>eF e d Y (n9<|I Q) (ye Y (d.of Y) Tryz.underlying103) λd=>eF e d Y (z9 ((0:Nat):Int)) (iw Y Y) λd=>dr e<|nS e<|xL e ?_;have a0:k8 Q 0=0:=by simp[k8]
 refine v_ (w0:=w0) (M0:=M0) r q hF a7 (I Q) 0 aa [] _ M0 o _ 0 aD (aZ _) (cH _) (by
  rw[a0];exact⟨(((((((d.nil.cons<|d.slot 1 _ Y).cons<|d.slot 2 _ Y).cons<|d.slot 4 _ Y).cons<|d.slot 6 _ Y).cons<|d.slot 7 _ Y).cons<|d.slot 16 _ Y).cons<|d.slot 17 _ Y).cons<|d.slot 18 _ Y,by simp only[put_defers],a4,a5,aU,al,λf=>cA<|F T f,aI,am,a8,λf=>cA<|F u f,aa,N⟩) λbr ar bs a2 j bk=>?_
 intro _ bi m ba;exact aE _ bi ⟨rfl,ar,r.rJ _ _ _ _ a2 (λb g=>m.at_ b<|j.oY b g) m.size,λb g W=>aB (m.at_ b (j.keep b g W).1) (j.keep b g W).2,dW j.size m.size,j.ext⟩ ba ⟨aB m.tape j.tape,aB m.os j.os,aB m.output j.output,dW j.size m.size⟩<|A4 bc
end
def F8(b:Qs.op= .nilCheck Qq)(hx:bp qT Qq=cU (K qQ)):∀a,(bX (bp qT) Qs).run Qo a=cm (fi<|cU<|K qQ) a/\(bX (bp qT) Qs).events Qo a #[]=#[]:=λa=>by
 unfold bX;simp[b,hx]
def Ys{b own:Nat->Prop}{w:ag}{cs:List F}{f:TypeDesc}(l:Qs.op= .load Qd Qq)(hx:bp qT Qq=cU (K ⟨m,k,Z⟩))(o:g9 Qo Qd=K f)(i:f.isRow=af)(j:(Qo.info? Qd).map (·.size)=K (I cs))(g:b m\/own m)(h:pF w m k cs)(p:bZ (cR cs)=v):∀a,RelB (λd=>b d\/own d) w a->(bX (bp qT) Qs).run Qo a=cm (fi v) a/\∀e∈(bX (bp qT) Qs).events Qo a #[],EvW b own e:=by
 subst p;exact oz l hx o i j g h
def jM (fn:cF):Array cC:=match fn.body with
 |some (iB _ a _)=>a
 |_=> #[]
def xP (J R O:Nat)(q:F):List (Nat×F):=[(4,(aK J)),(5,(aK J)),(6,(aK J)),(7,(aK J)),(8,(aK J)),(9,q),(10,.func (gP O) #[] #[])]
def zI (J:Nat)(n e:Nat):List (Nat×F):=[(11,cP #[n9 n,n9 e]),(3,cP #[n9 n,n9 e]),(12,n9 n),(13,n9 e),(14,(aK J)),(15,cU<|K ⟨J,6,Z⟩)]
def Cj (J:Nat):List (Nat×F):=[(16,(aK J)),(17,cU<|K ⟨J,7,Z⟩)]
def EQ:List Nat:=[4,5,6,7,8,9,10]
def Jp:o4 (jM jG) (λa=>decide (a<7)) 7 18 EQ=af:=aR
def Jq:o4 (jM jG) (λa=>decide (a<13)) 13 18 ([11,3,12,13,14,15]++EQ)=af:=aR
def Jr:o4 (jM jG) (λa=>decide (a<16)) 16 18 ([16,17]++([11,3,12,13,14,15]++EQ))=af:=aR
def Tq:(dI (fp<|U<|jM jG) λa=> !(λa=>decide (a<7)) a||match lN (jM jG) a with|some b=> !(iT ([11,3,12,13,14,15]:List Nat)) b|none=>af)=af:=aR
def Ts:(dI (fp<|U<|jM jG) λa=> !(λa=>decide (a<13)) a||match lN (jM jG) a with|some b=> !(iT ([16,17]:List Nat)) b|none=>af)=af:=aR
def Tt:(dI (fp<|U<|jM jG) λa=> !(λa=>decide (2<=a/\a<=7)) a||a==7||iT (under (jM jG) 6 (match (jM jG)[7]? with
 |some b=>(b.after.toList.filter λe=>jl eu e).map (·.on)
 |none=>[])) a)=af:=aR
def Tu:(dI (fp<|U<|jM jG) λa=> !(λa=>decide (a<=13/\a≠1/\a≠10)) a||a==13||iT (under (jM jG) 2 (match (jM jG)[13]? with
 |some b=>(b.after.toList.filter λe=>jl eu e).map (·.on)
 |none=>[])) a)=af:=aR
def Tv:(dI (fp<|U<|jM jG) λa=> !(λa=>decide (a<=16)) a||a==16||iT (under (jM jG) 2 (match (jM jG)[16]? with
 |some b=>(b.after.toList.filter λe=>jl eu e).map (·.on)
 |none=>[])) a)=af:=aR
def Tw:x5 (aH ax) (bY (jM jG) [])=af:=aR
def Ty(a:bU qT=[]):eS (aH ax) ((base 53).at qT [bY (jM jG) l]) []:=
 gT Y a (by rw[xw,List.all_nil,Bool.and_true];exact Tw)
def aec:(mB.name == "runtime.NumGoroutine")=aj:=aR
def Vq:(ax.info? 3).map (·.size)=K 1:=aR
def TZ:(ax.info? 27).map (·.size)=K 1:=aR
def J_{P:bn}{fn:cF}{a:bt}(b:rR fn=#[]):(∀w,(dB fn a.tmps).run P w=cm (cP #[]) w)/\∀w,(dB fn a.tmps).events P w #[]=#[]:=by
 constructor<;>intro w<;>simp[dB,b]
def fJ (q:Array F)(n e:Nat):Array F:=q++#[n9 n,n9 e]
section
variable{Q:F->ag->Prop}{own:Nat->Prop}{w:ag}{J R O n e:Nat}{H:bt}{q:Array F}{qa:F}{c:aO}{e0:Nat}
def Tx(j:Knows H 18 [(0,.func (gP O) #[] #[]),(1,(aK R))])(E:bU H=[])(F:jb tr own w)(L:own R)(s:own J)(V:R≠J)(hx:w.heap[R]? =K (aq #[(aK J)] 74 (0,0)))(t:q.size=6)(D:w.heap[J]? =K (aq (fJ q n e0) 119 (0,0)))
 (i:gM (jM jG) (λa=>decide (a<16)) H (fill H<|Cj J++(zI J n e++xP J R O qa)) q8 qT) (o:∀a,(λa=>decide (a<=13/\a≠1/\a≠10)) a=af->cB q8 a aj=af) (r:n5 q8<=m)
 (G:∀z,tc tr own J (aq (fJ q n e) 119 (0,0)) w z->Xe (aH ax) ax Q own (dR c<|cP #[]) cs z):
 Xe (aH ax) ax Q own ((base 53).at qT [bY (jM jG)<|lX eu (jM jG) m k q8 []]) (c::cs) w:=by
 have g:=me (aH ax) ax Q;refine uf (Dn:=λa=>decide (a<=13/\a≠1/\a≠10)) (u:=16) g az j Jr ?_ ?_ ?_ m k q8 qT i o r;intro b a f M o _ d;have S:a<16:=cN M;have T:¬(a<=13/\a≠1/\a≠10):=cN o;have:a=1\/a=10\/a=14\/a=15:=aa;rcases this with rfl|rfl|rfl|rfl;cases(show K _=K f from d);exact⟨_,rfl,av ⟨rfl,ju Y (b.of Y) Tryz.isAgg74 (ai L)<|tB hx Y⟩⟩;cases(show K _=K f from d);exact⟨_,rfl,av ⟨rfl,eY<|z5 Y (b.of Y) Y⟩⟩;cases(show K _=K f from d);exact⟨_,rfl,av ⟨rfl,eY<|F8 Y<|b.of Y⟩⟩;cases(show K _=K f from d);exact⟨_,rfl,av ⟨rfl,eY<|nD (off':=7) Y (b.of Y) Tryz.underlying119 Y Tryz.sizeOf27 Y⟩⟩;intro f d m k q8 qT i u r U _;have b:=j.fill (Cj J++(zI J n e++xP J R O qa)) Y;have l:=vB (Dn:=λa=>decide (a<=16)) i u Tv (λh p=>by
  have:h<=16:=cN p;show h<17;omega)
 cases(show K _=K f from d);have⟨B,C⟩:=Be i u Y j.size Jr (λh p=>l h (by
  have:h<17:=p;simp;omega))
 rw[C];subst B;refine vh g F (n:=J) az d Y s (aq (cR<|(fJ q n e0).toList.take 7++(aJ aM (e:Int)).cells.toList++(fJ q n e0).toList.drop (7+(aJ aM (e:Int)).cells.size)) 119) trivial (vr (n:=J) (off:=7) (v:=n9 e) Y (b.of Y) (b.of Y) TZ (λW y=>by simp[jn] at y;rw[y];rfl) (ai s) D (by
  show 7+1<=(fJ q n e0).size;simp[fJ,t])) λP x=>?_
 refine dr g<|I0 g ?_;have v:=J_ (P:=ax) (fn:=jG) (a:=bw (fill H<|Cj J++(zI J n e++xP J R O qa)) (jM jG)[16].dst bR) Tryz.results53;refine xK g Y (by rw[put_defers,tj];exact E) Tryz.func53 v.1 v.2<|G P ?_;have A:cR ((fJ q n e0).toList.take 7++(aJ aM (e:Int)).cells.toList++(fJ q n e0).toList.drop (7+(aJ aM (e:Int)).cells.size))=fJ q n e:=by
  apply Array.toList_inj.1;have N:I (dY q)=6:=cN t;simp[fJ,jn,List.take_append,List.drop_append,N];rw[iF aa,List.drop_eq_nil_of_le aa]
 rw[A] at x;exact x;intro l;exact absurd (l 16 az) az
def Tn(j:Knows H 18 [(0,.func (gP O) #[] #[]),(1,(aK R))])(p:bU H=[])(z:jb tr own w)(l:own R)(t:own J)(D:R≠J)(hx:w.heap[R]? =K (aq #[(aK J)] 74 (0,0)))(u:q.size=6)(M:w.heap[J]? =K (aq (fJ q n0 e0) 119 (0,0)))
 (k x:Nat) (h:gM (jM jG) (λa=>decide (a<13)) H (fill H<|zI J n e++xP J R O qa) q8 qT) (r:∀a,(λa=>decide (2<=a/\a<=7)) a=af->cB q8 a aj=af) (B:n5 q8<=k)
 (S:∀E m,tc tr own J (aq (fJ q n e0) 119 (0,0)) w E->tc tr own J (aq (fJ q n e) 119 (0,0)) E m->Xe (aH ax) ax Q own (dR c<|cP #[]) cs m):
 Xe (aH ax) ax Q own ((base 53).at qT [bY (jM jG)<|lX eu (jM jG) k x q8 []]) (c::cs) w:=by
 have y:=me (aH ax) ax Q;refine uf (Dn:=λa=>decide (2<=a/\a<=7)) (u:=13) y az j Jq ?_ ?_ ?_ k x q8 qT h r B;intro d a f U r _ b;have ad:a<13:=cN U;have ae:¬(2<=a/\a<=7):=cN r;have:a=0\/a=1\/a=8\/a=9\/a=10\/a=11\/a=12:=aa;rcases this with rfl|rfl|rfl|rfl|rfl|rfl|rfl;cases(show K _=K f from b);exact⟨_,rfl,av ⟨rfl,ju Y (d.of Y) Tryz.isAgg74 (ai l)<|tB hx Y⟩⟩;cases(show K _=K f from b);exact⟨_,rfl,av ⟨rfl,ju Y (d.of Y) Tryz.isAgg74 (ai l)<|tB hx Y⟩⟩;cases(show K _=K f from b);exact⟨_,rfl,av ⟨rfl,eY<|iw Y<|d.of Y⟩⟩;cases(show K _=K f from b);exact⟨_,rfl,av ⟨rfl,eY<|z5 Y (d.of Y) Y⟩⟩;cases(show K _=K f from b);exact⟨_,rfl,av ⟨rfl,eY<|z5 Y (d.of Y) Y⟩⟩;cases(show K _=K f from b);exact⟨_,rfl,av ⟨rfl,eY<|F8 Y<|d.of Y⟩⟩;cases(show K _=K f from b);exact⟨_,rfl,av ⟨rfl,eY<|nD (off':=6) Y (d.of Y) Tryz.underlying119 Y vR Y⟩⟩;intro f b k x q8 qT h v B A _;have d:=j.fill (zI J n e++xP J R O qa) Y;have o:=vB (Dn:=λa=>decide (a<=13/\a≠1/\a≠10)) h v Tu (λg s=>by
  have:g<=13/\g≠1/\g≠10:=cN s;show g<17;omega)
 cases(show K _=K f from b);have G:bp qT (.tmp 15)=cU (K ⟨J,6,Z⟩):=aB (A 15 az)<|d.slot 15 _ Y;have F:bp qT (.tmp 12)=n9 n:=aB (A 12 az)<|d.slot 12 _ Y;refine vh y z (n:=J) az b Y t (aq (cR<|(fJ q n0 e0).toList.take 6++(aJ aM (n:Int)).cells.toList++(fJ q n0 e0).toList.drop (6+(aJ aM (n:Int)).cells.size)) 119) trivial (vr (n:=J) (off:=6) (v:=n9 n) Y G F Vq (λal C=>by simp[jn] at C;rw[C];rfl) (ai t) M (by
  show 6+1<=(fJ q n0 e0).size;simp[fJ,u])) λX i=>?_
 have L:cR ((fJ q n0 e0).toList.take 6++(aJ aM (n:Int)).cells.toList++(fJ q n0 e0).toList.drop (6+(aJ aM (n:Int)).cells.size))=fJ q n e0:=by
  apply Array.toList_inj.1;have V:I (dY q)=6:=cN u;simp[fJ,jn,List.take_append,List.drop_append,V]
 rw[L] at i;have N:=h.Cv (l2:=Cj J) (r3:=λa=>decide (a<16)) (n:=18) (v:=bR) v b j.size Jq Y (λg s=>by
  have:g<13:=cN s;simp;omega) Y Ts λab p=>de p
 refine Tx (n:=n) (e:=e) (e0:=e0) (qa:=qa) j p (z.set i) l t D (aB (i.at_ R (ai l) D) hx) u i.set N o ?_ λm W=>S X m i W;have⟨_,_,P,T,_⟩:=mem_ready v;have:=Av (bV h.size P) T;omega;intro o;exact absurd (o 13 az) az
end
def OT (J:List cK->(Nat->Prop)->ag->Prop)(M0:Nat->Prop)(w0:ag)(cu:Nat)(e:Array F)(c:List cK×Nat×Nat)(f:gN)(b:ag):Prop:=
 f=aN (cP #[])/\(∃d,J c.1 d b/\∀a,d a->M0 a\/U w0.heap<=a)/\(∀a,a<U w0.heap->¬M0 a->a≠cu->b.heap[a]? =w0.heap[a]?)/\b.heap[cu]? =K (aq (fJ e c.2.1 c.2.2) 119 (0,0))/\U w0.heap<=U b.heap
structure Ia(J:List cK->(Nat->Prop)->ag->Prop)(M0:Nat->Prop)(w0:ag)(cu:Nat)(q:Array F):Prop where
 at_:∀pre M W,J pre M W->(∀b,b<U w0.heap->¬M0 b->W.heap[b]? =w0.heap[b]?)->∃n e:Nat,W.heap[cu]? =K (aq (fJ q n e) 119 (0,0))
 aav:∀pre M W W' (n e:Nat),J pre M W->(∀b,M b->M0 b\/U w0.heap<=b)->(∀b,M b->b≠cu->W'.heap[b]? =W.heap[b]?)->U W.heap<=U W'.heap->W'.heap[cu]? =K (aq (fJ q n e) 119 (0,0))->J pre M W'
section
variable{J:List cK->(Nat->Prop)->ag->Prop}{Go:List cK->Bool}{O cu xb:Nat}{l:List (bx×Int)}{Q:List Bd}{an:List Int}{H:List bH}{A p B L r:Nat}{T:Option aL}{bP ew:Nat->Nat}{S:Option aL}{cb bC bF:Nat}{ro:Option aL}{rb bL bD:Nat}{V:Nat->Nat->List aC}{cW e0:Nat}{sk:Bool}
def To(z:Cons (aH ax) ax Post O (λm=>FM m l Q an H A B T r bP ew S cb bC ro rb bL) J Go)(aF:Go []=af)(br:FQ l Q an H V)(i:J [] M0 w0)(hF:∀m,(∀a,a<U w0.heap->¬M0 a->a≠cu->pG m w0 a)->U w0.heap<=U m.heap->FM m l Q an H A B T r bP ew S cb bC ro rb bL)(bb:0<I Q->¬M0 r)(ab:Ia J M0 w0 cu (ia A (I l) p B (I l) L T (I Q) cW S (I an) bF ro (I H) bD sk))(bc:¬M0 xb)(bl:xb≠cu)
 (hx:w0.heap[xb]? =K (aq #[(aK cu)] 74 (0,0))) (Z:w0.heap[cu]? =K (aq (fJ (ia A (I l) p B (I l) L T (I Q) cW S (I an) bF ro (I H) bD sk) n0 e0) 119 (0,0))):
 sQ (aH ax) ax Post 53 #[.func (gP O) #[] #[],(aK xb)] w0 (OT J M0 w0 cu (ia A (I l) p B (I l) L T (I Q) cW S (I an) bF ro (I H) bD sk)<|gK sk Q an H (dy (I l)<|an++H.map bH.col) V Go 0 (I Q) [] 0):=by
 intro aA aC bj b0 P aI;have X:=me (aH ax) ax Post;have bm:cu<U w0.heap:=(dn.1 Z).1;have E:xb<U w0.heap:=(dn.1 hx).1;have aU:=z.bound _ _ _ i;refine Xe.go (own:=λa=>a<U w0.heap) ?_ (λa e=>e) P;rw[enter_at _ Tryz.func53 Y];have u:=FB (.func (gP O) #[] #[]) (aK xb) 18 az;have N:bU (⟨#[Value.func (gP O) #[] #[],(aK xb)]++jw (18-2) bR,[]⟩:bt)=[]:=rfl;have a2:pF w0 cu 0 (dY<|ia A (I l) p B (I l) L T (I Q) cW S (I an) bF ro (I H) bD sk):=λj v i=>by
  refine wQ Z j v ?_;have ba:j<6:=(fF.1 i).1;simp only[fJ,Array.toList_append];rw[tX<|by simpa [ia] using ba];exact i
 show Xe _ _ Post _ ((base 53).at ⟨#[Value.func (gP O) #[] #[],(aK xb)]++jw (18-2) bR,[]⟩ [bJ<|iB 0 (jM jG) af]) (aA::aC) w0;generalize (⟨#[Value.func (gP O) #[] #[],(aK xb)]++jw (18-2) bR,[]⟩:bt)=bv at u N;generalize al:qv (aG A (I l) p) (aG B (I l) L) (ah T (I Q) cW) (ah S (I an) bF) (ah ro (I H) bD) sk=s;have bh:bZ (ia A (I l) p B (I l) L T (I Q) cW S (I an) bF ro (I H) bD sk).toList.toArray=s:=by rw[<-al];rfl
 refine zC (Ph:=λc=>decide (c<7)) (l:=xP cu xb O s) X AF<|uf (u:=7) X az u Jp ?_ ?_ ?_;intro h c g P _ _ d;have bK:c<7:=cN P;have:c=0\/c=1\/c=2\/c=3\/c=4\/c=5\/c=6:=aa;rcases this with rfl|rfl|rfl|rfl|rfl|rfl|rfl;cases(show K _=K g from d);exact⟨_,rfl,av ⟨rfl,ju Y (h.of Y) Tryz.isAgg74 (ai E)<|tB hx Y⟩⟩;cases(show K _=K g from d);exact⟨_,rfl,av ⟨rfl,ju Y (h.of Y) Tryz.isAgg74 (ai E)<|tB hx Y⟩⟩;cases(show K _=K g from d);exact⟨_,rfl,av ⟨rfl,ju Y (h.of Y) Tryz.isAgg74 (ai E)<|tB hx Y⟩⟩;cases(show K _=K g from d);exact⟨_,rfl,av ⟨rfl,eY<|F8 Y<|h.of Y⟩⟩;cases(show K _=K g from d);exact⟨_,rfl,av ⟨rfl,eY<|nD (off':=0) Y (h.of Y) Tryz.underlying119 Y Tryz.sizeOf115 Y⟩⟩;cases(show K _=K g from d);exact⟨_,rfl,av ⟨rfl,Ys (cs:=dY<|ia A (I l) p B (I l) L T (I Q) cW S (I an) bF ro (I H) bD sk) Y (h.of Y) vS Y Ag (ai bm) a2 bh⟩⟩;cases(show K _=K g from d);exact⟨_,rfl,av ⟨rfl,eY<|iw Y<|h.of Y⟩⟩;intro g d aE bs b2 a D R bW ae _;have h:=u.fill (xP cu xb O s) Y;have a4:=vB (Dn:=λc=>decide (2<=c/\c<=7)) D R Tt (λj i=>by
  have:2<=j/\j<=7:=cN i;show j<17;omega)
 have a0:bU a=[]:=by rw[D.zJ,tj];exact N
 cases(show K _=K g from d);have aw:bp a (.tmp 9)=s:=aB (ae 9 az)<|h.slot 9 _ Y;have ar:bp a (.tmp 10)= .func (gP O) #[] #[]:=aB (ae 10 az)<|h.slot 10 _ Y;refine AE (R:=λt=>Iw J M0 t<|gK sk Q an H (dy (I l)<|an++H.map bH.col) V Go 0 (I Q) [] 0) (vs:= #[s,.func (gP O) #[] #[]]) Y d Y Y (B1 aw ar) Tryz.func54 aec Y (Ty a0) (λt f=>?_) (λt v F f bk W bd=>?_) (λt bx bu ⟨w,_⟩=>de w) λt bu ⟨w,_⟩=>de w;have a7:=z.rJ _ _ _ t i (λa b=>f.at_ a<|aU a b) f.size;rw[<-al];exact s_ z aF br a7 (λm aR bi=>hF m (λa b x _ g d aQ=>aR a (cL b f.size) x g (aB (f.at_ a b) d) aQ)<|dW f.size bi) bb;obtain⟨w,ao,G,a8,b1,ad⟩:=bk;cases w;generalize gK sk Q an H (dy (I l)<|an++H.map bH.col) V Go 0 (I Q) [] 0=k at*;have b3:=f.size;have M:∀a,a<U w0.heap->¬M0 a->F.heap[a]? =w0.heap[a]? :=λa b x=>aB (a8 a aa x)<|f.at_ a b;have a5:=D.Cv (l2:=zI cu k.2.1 k.2.2) (r3:=λc=>decide (c<13)) (n:=18) (v:=cP #[n9 k.2.1,n9 k.2.2]) R d u.size Jp Y (λj i=>by
  have:j<7:=cN i;simp;omega) Y Tq (λbz a3=>by cases a3;rfl)
 obtain⟨bo,aD,a1⟩:=ab.at_ _ _ _ G M;refine Xe.go (own:=λa=>a<U F.heap) ?_ (λa e=>e) bd;refine Tn (n:=k.2.1) (e:=k.2.2) (n0:=bo) (e0:=aD) (qa:=s) u N (λa b=>eD b ff λe=>e) (by show xb<_;omega) (by show cu<_;omega) bl (aB (M xb E bc) hx) Y a1 aE bs a5 a4 ?_ λb4 b5 y o=>?_;have⟨_,_,a6,a9,_⟩:=mem_ready R;have:=Av (bV D.size a6) a9;omega;intro bT am n be;have bM:=y.size;have bQ:=o.size;have bS:=n.size;have C:∀a,a<U F.heap->a≠cu->am.heap[a]? =F.heap[a]? :=λa b q=>aB (n.at_ a b)<|aB (o.at_ a (ai b) q)<|y.at_ a (ai b) q;refine aI _ am ⟨rfl,⟨ao,ab.aav _ _ _ _ k.2.1 k.2.2 G (λa b=>(ad a b).imp (λe=>e) λe=>aa) (λa b q=>C a (z.bound _ _ _ G a b) q) (by omega)<|aB (n.at_ cu (by show cu<_;omega)) o.set,λa b=>(ad a b).imp (λe=>e) λe=>by omega⟩,λa b x q=>aB (C a aa q)<|M a b x,aB (n.at_ cu (by show cu<_;omega)) o.set,by omega⟩ be ⟨?_,?_,?_,aa⟩<|A4 bj;rw[n.tape,o.tape,y.tape,W.tape,f.tape];rw[n.os,o.os,y.os,W.os,f.os];rw[n.output,o.output,y.output,W.output,f.output];intro C;exact absurd (C 16 az) az
end
section
variable{P:bn}{R:Array cC}{Q:Exit->bt->ag->Prop}{J:List Nat}{o:cC}{a:bt}{w H:ag}{v:F}
end
def z6{v:F}(h:aT u n Qd m v k S):v.cells=#[v]/\m3 v=af:=by
 rcases h.2 with⟨rfl,_⟩|⟨d,b,c,rfl,_⟩;exact⟨rfl,rfl⟩;exact⟨rfl,rfl⟩
def YG(i:Mk Qo w u)(h:aT u n Qd m v k S):aT w n Qd m v k S:=by
 obtain⟨a,h|⟨d,b,c,rfl,e,f,g⟩⟩:=h;exact⟨a,av h⟩;exact⟨a,ai ⟨d,b,c,rfl,e,i.un.row.2 f,g⟩⟩
open Ec Pk Pm
def kz(h:aT w n Qd m v k S)(s:0<k):∃a c,v=aG a k c/\n<=a/\a<U w.heap/\∀d e,S[d]? =K e->ap w ⟨a,d,Z⟩=K e:=by
 obtain⟨r,⟨f,g⟩|⟨a,c,l,f,g,i,o,p,q,j⟩⟩:=h;omega;refine⟨a,c,f,g,(dn.1 i).1,λd e b=>?_⟩;rw[<-j,vW] at b
 split at b
 unfold ap;simp only[i];simpa using b;cases b
def tI (f e d:Nat)(bP:Nat->Nat)(cb rb c g h:Nat):Nat->Prop:=λa=>a=f\/a=e\/(0<c/\a=d)\/(∃b,b<c/\a=bP b)\/(0<g/\a=cb)\/(0<h/\a=rb)
def FM.kept{y:List (bx×Int)}{l:List Bd}{s:List bH}{bP ew:Nat->Nat}{cb bC:Nat}{ro:Option aL}{rb bL:Nat}(h:FM w y l an s n m O k bP ew P cb bC ro rb bL)(p:U w.heap<=U u.heap)(B:∀c,tI n m k bP cb rb (I l) (I an) (I s) c->pG u w c):FM u y l an s n m O k bP ew P cb bC ro rb bL:=by
 have o:∀c,tI n m k bP cb rb (I l) (I an) (I s) c->∀r v,ap w ⟨c,r,Z⟩=K v->ap u ⟨c,r,Z⟩=K v:=λc i r v q=>by
  unfold ap at q ⊢;cases t:w.heap[c]? with
  |none=>rw[t] at q;cases q
  |some j=>
   rw[t] at q;cases j<;>first|(cases q;done)|skip
   rw[B c i _ t trivial];exact q
 have x:∀d c,l[d]? =K c->d<I l:=λd c h=>(fF.1 h).1;have f:∀{r v},0<I s->ap w ⟨rb,r,Z⟩=K v->ap u ⟨rb,r,Z⟩=K v:=λg=>o rb (ai<|ai<|ai<|ai<|ai ⟨g,rfl⟩) _ _;have e:=h.nr;refine⟨λb j a=>o n (av Y) _ _<|h.k b j a,λb j a=>o m (ai<|av Y) _ _<|h.e b j a,λd c i=>?_,λd c i b j a C D A=>o (bP d) (ai<|ai<|ai<|av ⟨d,x d c i,rfl⟩) _ _<|h.c d c i b j a C D A,cL h.lk p,cL h.le p,h.da,λg=>cL (h.ld g) p,λd z=>cL (h.lc d z) p,h.ca,λg=>cL (h.cl g) p,λb a=>o cb (ai<|ai<|ai<|ai<|av ⟨aa,rfl⟩) _ _<|h.cc b a,
  ⟨e.addr,λg=>cL (e.lt g) p,λb a=>f aa<|e.c0 b a,λb a=>f aa<|e.c1 b a,λb a=>f aa<|e.c2 b a,λb a=>f aa<|e.c3 b a,λb a=>f aa<|e.c4 b a,λb a=>f aa<|e.c5 b a,λb a=>f aa<|e.c6 b a⟩⟩
 intro b v a;exact o k (ai<|ai<|av ⟨cA<|x d c i,rfl⟩) _ _<|h.d d c i b v a
def zY(h:w.heap[n]? =u.heap[n]?):pG w u n:=λb a _=>aB h a
def WL(h:Un w u):pG u w n:=λd c b=>h.o c λa=>(tu (aH ax)).FZ<|a▸b
def sR (b:ag)(c:Nat)(a:F)(an:List Int):Prop:=(I an=0/\∃d,a=ah d 0 0)\/(0<I an/\aT b c 3 1 a (I an) (cO an))
def vM (b:ag)(c:Nat)(rv:F)(a:List bH):Prop:=(I a=0/\∃ro,rv=ah ro 0 0)\/(0<I a/\aT b c 61 7 rv (I a) (eZ a))
def sR.below(h:sR w n v an)(a:aD w u):sR u n v an:=h.imp (λh=>h) λh=>⟨h.1,fc h.2 a⟩
def sR.at_(h:sR w n v an):∃b cb c,v=ah b (I an) c/\(0<I an->b=K ⟨cb,0,Z⟩/\n<=cb/\cb<U w.heap)/\∀a,a<I an->bl w cb (0+a) (z9<|aW an a 0):=by
 rcases h with⟨d,b,rfl⟩|⟨d,h⟩;exact⟨b,0,0,by rw[d],λh=>absurd h aa,λa e=>absurd e aa⟩;obtain⟨f,c,rfl,g,i,j⟩:=kz h d;refine⟨_,f,c,rfl,λ_=>⟨rfl,g,i⟩,λa e=>?_⟩;rw[fq];refine j a _ ?_;simp[cO,ep,dV e]
def vM.at_{rv:F}{c:List bH}(h:vM w n rv c):∃ro rb d,rv=ah ro (I c) d/\(0<I c->n<=rb/\rb<U w.heap)/\dJ w ro rb 0 c:=by
 rcases h with⟨b,ro,rfl⟩|⟨b,h⟩;refine⟨ro,0,0,by rw[b],λh=>absurd h aa,?_⟩;have f:=s4 b;subst f;exact⟨λh=>absurd h aI,λh=>absurd h aI,λa h=>absurd h aI,λa h=>absurd h aI,λa h=>absurd h aI,λa h=>absurd h aI,λa h=>absurd h aI,λa h=>absurd h aI,λa h=>absurd h aI⟩;obtain⟨g,d,rfl,i,e,j⟩:=kz h b;exact⟨_,g,d,rfl,λ_=>⟨i,e⟩,dJ.Bn e λl v k=>by rw[fq];exact j l v k⟩
def ud:F->Nat
 |ah (K a) _ _=>cD a
 |_=>0
def AZ:F->Nat
 |ah _ _ a=>a
 |_=>0
def J0{j:List (bx×Int)}{g:List Bd}{b:List (Bd×F)}{R c D S rv:F}{C:List bH}(X:eB j g)(hL:b.map bf=g)(h:iZ w n j b R c D)(az:sR w n S an)(aD:vM w n rv C):
 ∃(A H x G:Nat) (q:Option aL) (k cW:Nat) (bP ew:Nat->Nat) (B:Option aL) (cb bF:Nat) (ro:Option aL) (rb bD:Nat),R=aG A (I j) H/\c=aG x (I j) G/\D=ah q (I g) cW/\S=ah B (I an) bF/\rv=ah ro (I C) bD/\FM w j g an C A x q k bP ew B cb 0 ro rb 0/\∀s,tI A x k bP cb rb (I g) (I an) (I C) s->n<=s/\s<U w.heap:=by
 have N:0<I j:=by
  have:=X.pl.1.1;simp at this;omega
 have M:I b=I g:=by rw[<-hL,er]
 obtain⟨A,H,rfl,aH,ab,aI⟩:=kz h.an N;obtain⟨x,G,rfl,ao,T,ar⟩:=kz h.gA N;obtain⟨B,cb,bF,rfl,E,ae⟩:=az.at_;obtain⟨ro,rb,bD,rfl,aR,aU⟩:=aD.at_;have aw:∃q k cW,D=ah q (I g) cW/\(0<I g->q=K ⟨k,0,Z⟩/\n<=k/\k<U w.heap)/\∀m f,(xQ b)[m]? =K f->bl w k m f:=by
  rcases v8 (I b) with d|d;have⟨ad,o,L⟩:=e9 h.e7.own;have am:=s4 d;refine⟨ad,0,o,by rw[<-M];exact L,λh=>absurd h aa,λm f Y=>?_⟩;rw[am] at Y;simp[xQ] at Y;have⟨l,o,L,u,J,al⟩:=kz h.e7.own d;exact⟨_,l,o,by rw[<-M];exact L,λ_=>⟨rfl,u,J⟩,al⟩
 obtain⟨q,k,cW,rfl,u,J⟩:=aw;have W:∀a c,g[a]? =K c->∃(e:a<I b),b[a].1=c/\∃l o,b[a].2=aG l (I j) o/\n<=l/\l<U w.heap/\∀m f,(sB c.chunks)[m]? =K f->bl w l m f:=λa c i=>by
  have e:a<I b:=by rw[M];exact(fF.1 i).1
  have V:b[a].1=c:=by
   have:(b.map bf)[a]? =K c:=by rw[hL];exact i
   rw[s5,dV e] at this;simpa using this
  have aC:I c.chunks=I j:=by
   have:=(X.e7 c<|oP i).len;simpa using this
  have:=h.e7.each b[a]<|dm e;rw[V,aC] at this;have⟨l,o,t,O,P,Q⟩:=kz this N;exact⟨e,V,l,o,t,O,P,Q⟩
 have y:∀a c,g[a]? =K c->(aW b a (⟨0,[]⟩,ak aj)).2=ah (K ⟨ud (aW b a (⟨0,[]⟩,ak aj)).2,0,Z⟩) (I j) (AZ (aW b a (⟨0,[]⟩,ak aj)).2)/\n<=ud (aW b a (⟨0,[]⟩,ak aj)).2/\ud (aW b a (⟨0,[]⟩,ak aj)).2<U w.heap/\∀m f,(sB c.chunks)[m]? =K f->ap w ⟨ud (aW b a (⟨0,[]⟩,ak aj)).2,m,Z⟩=K f:=λa c i=>by
  have⟨e,_,l,o,t,O,P,Q⟩:=W a c i;have:aW b a (⟨0,[]⟩,ak aj)=b[a]:=by rw[ep,dV e];rfl
  rw[this,t];exact⟨rfl,O,P,Q⟩
 refine⟨A,H,x,G,q,k,cW,λa=>ud (aW b a (⟨0,[]⟩,ak aj)).2,λa=>AZ (aW b a (⟨0,[]⟩,ak aj)).2,B,cb,bF,ro,rb,bD,rfl,rfl,rfl,rfl,rfl,⟨λr s p=>?_,λr s p=>?_,λa c i=>?_,λa c i r s p a0 f aE=>?_,ab,T,λd=>(u d).1,λd=>(u d).2.2,λa e=>(y a _ (dV e)).2.2.1,λd=>(E d).1,λd=>(E d).2.2,ae,aU⟩,λs aF=>?_⟩;obtain⟨z,rfl⟩:=fF.1 p;rw[fq];have:=(Ca (j.map bf) r<|by simpa using z).2;simp only[oO] at this;exact aI _ _ this;obtain⟨z,rfl⟩:=fF.1 p;rw[fq,uW];exact ar _ _ (by simp[cO,dV z]);obtain⟨e,aK,-⟩:=W a c i;have t:=(y a c i).1;have aQ:aW b a (⟨0,[]⟩,ak aj)=b[a]:=by rw[ep,dV e];rfl
 intro r v p;have aA:(uh b[a])[r]? =K v:=by
  unfold uh;rw[aK];rw[aQ] at t p;rw[t];exact p
 have:=J _ _<|pM uh 2 Jw b a e r v aA;rw[fq];exact this;obtain⟨z,rfl⟩:=fF.1 p;exact(y a c i).2.2.2 _ _<|pM mL 8 VE c.chunks r z a0 f aE;rcases aF with rfl|rfl|⟨d,rfl⟩|⟨a,e,rfl⟩|⟨d,rfl⟩|⟨d,rfl⟩;exact⟨aH,ab⟩;exact⟨ao,T⟩;exact(u d).2;exact⟨(y a _<|dV e).2.1,(y a _<|dV e).2.2.1⟩;exact(E d).2;exact aR d
abbrev nL:=Option<|List (bx×Int)×List Bd
def uI (s:ByteArray):nL->Prop
 |none=>∀b a,¬mC s b a
 |some (b,a)=>mC s b a/\∀d c,mC s d c->d=b/\c=a
def nj (a:Nat)(an:List Int)(c:List bH):Bool:=dI an (fR a)&&dI c λb=>fR a b.col
def lQ (b:List (bx×Int))(a:Int):Int:=(aW b (bO a) (⟨⟨#[]⟩,0⟩,0)).1.kind
def pY (b:List (bx×Int))(c:List bH):Bool:=dI c λa=>oB (lQ b a.col) a
def eU (c:nL)(an:List Int)(b:List bH):Nat:=match c with
 |none=>3
 |some (a,_)=>if nj (I a) an b then(if pY a b then 0 else 5) else 4
def tH:fR n M=af↔0<=M/\M<(n:Int):=by
 unfold fR;simp
def xG{c:List bH}:nj n an c=af↔(∀a∈an,0<=a/\a<(n:Int))/\∀b∈c,0<=b.col/\b.col<(n:Int):=by
 unfold nj;rw[fe,fA,fA];simp only[tH]
def PR{b:nL}{d:List bH}(h:eU b an d=0):∃a c,b=K (a,c)/\nj (I a) an d=af/\pY a d=af:=by
 cases b with
 |none=>simp[eU] at h
 |some g=>
  have⟨a,c⟩:=g;simp only[eU] at h
  split at h
  rename_i e
  split at h
  rename_i f;exact⟨a,c,rfl,e,f⟩;cases h;cases h
def zU{a:List (bx×Int)}(h:k3 a){k:Int}(f:fR (I a) k=af):lQ a k=1\/lQ a k=2\/lQ a k=3:=by
 have⟨e,g⟩:=tH.1 f;obtain⟨c,rfl⟩:=uR e;have b:c<I a:=aa;have d:=(h.1.2.2 c<|cN b).1;simp only[oO,oU,ov,fe,decide_eq_true_eq] at d;unfold lQ;rw[ep];simp[b];omega
def z0{v:aC}(b:M=1\/M=2\/M=3)(h:gR v M=af):bg v.s<=32:=by
 have a:∀s:ByteArray,(jE s==[])=af->bg s<=32:=λs h=>by
  have:jE s=[]:=cN h;rw[FW this];decide
 unfold gR at h
 split at h
 rw[fe] at h;exact a _ h.2
 split at h
 exact a _ h
 split at h
 rw[fe] at h;exact a _ h.2;rw[fe,decide_eq_true_eq] at h;have:=h.2;omega
section
variable{P:bn}{Q:Exit->bt->ag->Prop}{a:bt}{w:ag}{H:Nat}{J:Array cC}
def OR (P:bn)(m:Machine)(b:aO)(d:List ez)(c:List aO):Exit->bt->ag->Prop
 |cX,a,w=>Steps P m<|lone (b.atR a d) c w
 | .exit H,a,w=>∃e,jJ H e=jJ H d/\Steps P m (lone (b.atR a<|bJ (.exit H)::e) c w)
 |_,_,_=>False
def Wr (P:bn)(h:cQ)(Q:Exit->bt->ag->Prop)(a:bt)(w:ag):Prop:=∀(c:aO) (f:List ez) (d:List aO),∃e b g,Q e b g/\OR P (lone (c.atR a<|bJ h::f) d w) c f d e b g
def HU(h:Q cX a w):Wr P ey Q a w:=λ_ _ _=>⟨cX,a,w,h,.one stepR_skip⟩
def adN(h:Q (.exit H) a w):Wr P (.exit H) Q a w:=λc b d=>⟨.exit H,a,w,h,b,rfl,.refl _ _⟩
def DU{f g:cQ}(e:Bool)(d:bp a Qq=ak e)(h:Wr P (if e then f else g) Q a w):Wr P (.cond Qq f g) Q a w:=λj o k=>by
 have⟨c,i,q,n,b⟩:=h j o k;refine⟨c,i,q,n,?_⟩;cases c with
 |normal=>exact .head (stepR_cond d) b
 |exit H=>
  have⟨p,l,m⟩:=b;exact⟨p,l,.head (stepR_cond d) m⟩
 |_=>exact ff b
def OC{n g:cQ}(h:Wr P n (Exit.then (Wr P g Q) Q) a w):Wr P (aS n g) Q a w:=λi m j=>by
 have⟨q,o,s,l,b⟩:=h i (bJ g::m) j;cases q with
 |normal=>
  have⟨k,p,t,r,e⟩:=l i m j;refine⟨k,p,t,r,?_⟩;cases k with
  |normal=>exact .head stepR_seq<|sZ b e
  |exit H=>
   have⟨f,c,d⟩:=e;exact⟨f,c,.head stepR_seq<|sZ b d⟩
  |_=>exact ff e
 |exit H=>
  have⟨f,c,d⟩:=b;exact⟨.exit H,o,s,l,f,aB c Y,.head stepR_seq d⟩
 |_=>exact ff b
def Fl (H:Nat)(Q:Exit->bt->ag->Prop):Exit->bt->ag->Prop
 | .exit b,a,w=>if b=H then Q cX a w else Q (.exit b) a w
 |e,a,w=>Q e a w
def adL(h:Wr P QK (Fl H Q) a w):Wr P (fT H QK) Q a w:=λm e n=>by
 have⟨c,f,j,d,g⟩:=h m (fh H::e) n;cases c with
 |normal=>exact⟨cX,f,j,d,.head stepR_block<|sZ g<|.one stepR_inBlock⟩
 |exit b=>
  have⟨o,k,l⟩:=g;by_cases i:b=H;subst i;have c:jJ b (fh b::e)=K e:=by simp[jJ]
  simp only[Fl,if_true] at d;exact⟨cX,f,j,d,.head stepR_block<|sZ l<|.one<|stepR_exit<|aB k c⟩;have c:jJ b (fh H::e)=jJ b e:=by
   have:¬H=b:=λh=>i<|bq h;simp[jJ,this]
  simp only[Fl,if_neg i] at d;exact⟨.exit b,f,j,d,o,aB k c,.head stepR_block l⟩
 |_=>exact ff g
def OB{N:bt->ag->Prop}(h:wpOps P J (Exit.then N λ_ _ _=>False) (fp<|U J) a w)(f:∀a w,N a w->Q cX a w)(g:(dI J.toList λk=> !x4 k.op)=af):Wr P (iB H J aj) Q a w:=λd j e=>by
 have⟨c,l,i,b⟩:=Gd (P0:=P) (b:=d) (k:=j) (cs:=e) [] g (λ_ _ _ h=>h) (fun⟨_,_,h⟩=>h) _ a w h;rw[l5] at b;exact⟨cX,c,l,f _ _ i,.head stepR_region<|b.trans<|.one stepR_region_end⟩
def vI(h:wpList P J (Exit.then (Wr P QK Q) λ_ _ _=>False) (dY J) a w)(b:(dI J.toList λc=> !x4 c.op)=af:=by kernel_rfl):Wr P (aS (iB H J aj) QK) Q a w:=OC (OB (by
 rw[List.range_eq_range',<-yJ,wpOps_eq_wpList (dY J) 0 aI];exact h) (λ_ _ h=>h) b)
def OA(h:wpList P J (Exit.then (Q cX) λ_ _ _=>False) (dY J) a w)(b:(dI J.toList λc=> !x4 c.op)=af:=by kernel_rfl):Wr P (iB H J aj) Q a w:=OB (by
 rw[List.range_eq_range',<-yJ,wpOps_eq_wpList (dY J) 0 aI];exact h) (λ_ _ h=>h) b
def adM{N:bt->ag->Prop}(h:∀l,wpOps P J (Exit.then N λ_ _ _=>False) (y4 (P.follows .mixedOrders) J l) a {w with drawn:=dU w+1})(g:∀a w,N a w->Q cX a w)(i:(dI J.toList λk=> !x4 k.op)=af):Wr P (iB H J af) Q a w:=λb e c=>by
 have⟨f,m,j,d⟩:=Gd (P0:=P) (b:=b) (k:=e) (cs:=c) [] i (λ_ _ _ h=>h) (fun⟨_,_,h⟩=>h) _ a _<|h<|dG w (dU w)<|.order b.fn H;rw[l5] at d;exact⟨cX,f,m,g _ _ j,.head (stepR_region_draw (P:=P) (b:=b) (a:=a) (k:=e) (cs:=c) (w:=w) (ops:=J) (id:=H))<|d.trans<|.one stepR_region_end⟩
def Pp (P:bn)(d:Nat)(c:F->ag->Prop):Exit->bt->ag->Prop
 |cX,_,w=>∃v b,(tQ d Z).run P w=cm v b/\c v b
 | .exit H,_,w=>∃v b,(tQ d<|K<|.exit H).run P w=cm v b/\c v b
 |_,_,_=>False
def o_{l:Nat}{f:FuncId}{R:F->ag->Prop}(h:Wr P assign (Exit.then (λe s=>∃m,(Instr.beginRound l).run P s=cm () m/\Wr P body (Pp P l R) e m) λ_ _ _=>False) ⟨tmps,[]⟩ w)(c:aO)(d:List aO):
 ∃v r,R v r/\Steps P (lone (mZ l f tmps assign body dM) (c::d) w) (lone (dR c v) d r):=by
 let b:aO:={(default:aO) with fn:=f,kind:=dM,roundOf:=K l};have z:mZ l f tmps assign body dM=b.atR ⟨tmps,[]⟩ [bJ assign,.beginRound,bJ body]:=by
  simp[mZ,Frame.atR,b]
 rw[z];have⟨t,e,s,o,i⟩:=h b [.beginRound,bJ body]<|c::d;cases t with
 |normal=>
  have⟨m,B,A⟩:=o;have⟨u,C,E,p,j⟩:=A b []<|c::d;have q:=stepR_beginRound (P:=P) (b:=b) (a:=e) (k:=[bJ body]) (cs:=c::d) Y B;cases u with
  |normal=>
   have⟨v,n,k,g⟩:=p;exact⟨v,n,g,sZ i<|.head q<|sZ j<|.one<|stepR_round_end Y Y k⟩
  |exit H=>
   have⟨v,n,k,g⟩:=p;have⟨D,x,y⟩:=j;exact⟨v,n,g,sZ i<|.head q<|sZ y<|.one<|stepR_round_exit Y Y (aB x Y) k⟩
  |_=>exact ff j
 |exit H=>exact ff o
 |_=>exact ff i
end
end Cc
namespace Un
open Go.RowKit
def Yx{P:bn}{J:Array cC}{N:bt->ag->Prop}{Q:Exit->bt->ag->Prop}{H:Nat}{a:bt}{w:ag}(c:ag->Prop)(k:Nat)
 (h:X (∀b a (d:Nat) v w,(Exit.then N λ_ _ _=>False) (ig b) (bw a (K d) v) w->(Exit.then N λ_ _ _=>False) (ig b) a w)->Any P eu J (Exit.then N λ_ _ _=>False) c k (U J) (jw (U J) aj) a w.drew) (e:∀a w,N a w->Q cX a w) (f:P.follows .mixedOrders=af:=by kernel_rfl) (g:(dI J.toList λi=> !Cc.x4 i.op)=af:=by kernel_rfl):Cc.Wr P (iB H J af) Q a w:=
 Cc.adM (λj=>by
  simp only[y4,f,Bool.true_or,if_true];exact wpAny_sound (U J) j _ a _<|Ei _ _ _ _<|h λ_ _ _ _ _ h=>h) e g
end Un
namespace Ec
open Go.RowKit Pk Pm
open Cc (sR vM nL uI nj lQ pY eU tH xG zU z0 kz)
def sF (h:ag)(a:Nat)(b c d e g f:F):ag:=aY (aY (aY (aY (aY (aY h ⟨a,0,Z⟩ b) ⟨a,1,Z⟩ c) ⟨a,2,Z⟩ d) ⟨a,3,Z⟩ e) ⟨a,4,Z⟩ g) ⟨a,5,Z⟩ f
def C1{i j k l m f:F}(a b c d e g:F)(h:w.heap[n]? =K (aq #[i,j,k,l,m,f] Qd (0,0))):(sF w n a b c d e g).heap[n]? =K (aq #[a,b,c,d,e,g] Qd (0,0)):=by
 exact ek _ n 5 _ _ g<|ek _ n 4 _ _ e<|ek _ n 3 _ _ d<|ek _ n 2 _ _ c<|ek _ n 1 _ _ b<|ek w n 0 _ _ a h
def C2(c d e f g i:F)(h:Below m u w)(b:m<=U u.heap)(a:m<=n):Below m u (sF w n c d e f g i):=
 ku (ku (ku (ku (ku (ku h b a) b a) b a) b a) b a) b a
def BE{a b c d e f:F}(g:w.heap[n]? =K (aq #[a,b,c,d,e,f] Qd (0,0))):cE w ⟨n,0,Z⟩=aj/\cE w ⟨n,1,Z⟩=aj/\cE w ⟨n,2,Z⟩=aj/\cE w ⟨n,3,Z⟩=aj/\cE w ⟨n,4,Z⟩=aj/\cE w ⟨n,5,Z⟩=aj:=by
 unfold cE;simp[g]
def U0(f:Nat)(an:List Int)(b:List bH)(i:Option aL)(h:Nat)(j k:F)(d:Option aL)(cb bC bF:Nat)(ro:Option aL)(rb bL bD:Nat)(sk:Bool)(a:ag)(q:I an<=aV)(r:I b<=aV)
 (n:0<I an->d=K ⟨cb,bC,Z⟩) (p:0<I an->cb<U a.heap) (o:∀c,c<I an->bl a cb (bC+c) (z9<|aW an c 0)) (s:dJ a ro rb bL b):
 bc 68 #[bZ #[ah i f h,j,k,ah d (I an) bF,ah ro (I b) bD,ak sk]] a λe g=>e=aN (ak<|nj f an b)/\aD a g:=by
 refine bG (UZ q r n p o s) ?_;rintro e g ⟨t,rfl,l,m⟩;refine⟨tC ?_,m⟩;rw[rO,l];unfold nj;rw[fe,fA,fA,List.forall_mem_iff_forall_getElem,List.forall_mem_iff_forall_getElem]
def U4(a:List (bx×Int))(c:List bH)(h o:Nat)(p q r:F)(ro:Option aL)(rb bL bD:Nat)(sk:Bool)(d:ag)(y:I c<=aV)(k:k3 a)(e:dJ d ro rb bL c)(l:∀f∈c,fR (I a) f.col=af)(w:h<U d.heap)(v:∀b n,a[b]? =K n->bl d h (b*2+1) (z9 n.1.kind)):
 bc 69 #[bZ #[aG h (I a) o,p,q,r,ah ro (I c) bD,ak sk]] d λi m=>i=aN (ak<|pY a c)/\aD d m:=by
 have x:I a<=aV:=by have:=k.each.2;unfold aV;omega
 refine bG (U3 (lQ a) y x e λf e=>?_) ?_;have⟨t,A⟩:=tH.1<|l f e;have⟨b,j⟩:=uR t;have g:b<I a:=aa;refine⟨b,j,g,w,?_,zU k<|l f e⟩;have:=v b _<|dV g;rw[this];unfold lQ;rw[j,ep];simp[g];rintro i m ⟨z,rfl,s,u⟩;refine⟨tC ?_,u⟩;rw[rO,s];unfold pY;rw[fA,List.forall_mem_iff_forall_getElem]
def dJ.cells{d:List bH}(h:dJ w O n m d):∀a f,(eZ d)[a]? =K f->bl w n (m+a) f:=by
 intro a f g;have p:a<I d*7:=by rw[<-uk];exact(fF.1 g).1
 have c:a/7<I d:=aa;have i:a=a/7*7+a%7:=aa;have o:(eZ d)[a/7*7+a%7]? =K f:=by rw[<-i];exact g
 have e:∀b v,a%7=b->(tt d[a/7])[b]? =K v->f=v:=λb v k l=>by
  have:=yb d (a/7) c b v l;rw[<-k,o] at this;exact uX this
 have j:m+a=m+a/7*7+a%7:=aa;rw[j];generalize a%7=b at*;have:b=0\/b=1\/b=2\/b=3\/b=4\/b=5\/b=6:=aa;rcases this with rfl|rfl|rfl|rfl|rfl|rfl|rfl;rw[e 0 _ Y Y];exact h.c0 _ c;rw[e 1 _ Y Y];exact h.c1 _ c;rw[e 2 _ Y Y];exact h.c2 _ c;rw[e 3 _ Y Y];exact h.c3 _ c;rw[e 4 _ Y Y];exact h.c4 _ c;rw[e 5 _ Y Y];exact h.c5 _ c;rw[e 6 _ Y Y];exact h.c6 _ c
structure we(W:ag)(bse9:Nat)(l:List (bx×Int))(L:List (Bd×F))(a b c cv rv:F)(an:List Int)(rs:List bH):Prop where
 f:iZ W bse9 l L a b c
 c:sR W bse9 cv an
 r:vM W bse9 rv rs
def we.put{j:List (bx×Int)}{d:List (Bd×F)}{e f g i rv:F}{k:List bH}(h:we w n j d e f g i rv an k)(c:w.heap[m]? =K (aq C 115 (0,0)))(a:Nat)(b:F):we (aY w ⟨m,a,Z⟩ b) n j d e f g i rv an k:=by
 refine⟨⟨fI h.f.an (eM w m a b)<|ai (dS h.f.an c az).symm,fI h.f.gA (eM w m a b)<|ai (dS h.f.gA c az).symm,h.f.e7.put c az az a b⟩,h.c.imp (λh=>h) λh=>⟨h.1,fI h.2 (eM w m a b)<|ai (dS h.2 c az).symm⟩,h.r.imp (λh=>h) λh=>⟨h.1,fI h.2 (eM w m a b)<|ai (dS h.2 c az).symm⟩⟩
def we.sF{l:List (bx×Int)}{a:List (Bd×F)}{b c d e rv:F}{o:List bH}(h:we w n l a b c d e rv an o)(p q r s t u:F)(k:w.heap[m]? =K (aq #[v,x,y,z,T,qs] 115 (0,0))):we (sF w m p q r s t u) n l a b c d e rv an o:=by
 have f:=ek w m 0 _ _ p k;have g:=ek _ m 1 _ _ q f;have i:=ek _ m 2 _ _ r g;have j:=ek _ m 3 _ _ s i;exact(((((h.put k _ _).put f _ _).put g _ _).put i _ _).put j _ _).put (ek _ m 4 _ _ t j) _ _
def OS (c:ag)(a:nL)(an:List Int)(b:List bH)(sk:Bool)(k:gN)(d:ag):Prop:=
 aD c d/\((eU a an b≠0/\k=aN (cP #[bZ #[aF,aF,aF,aF,aF,ak aj],n9<|eU a an b]))\/
  (∃(l:List (bx×Int)) (h:List Bd) (e:List (Bd×F)) (f g i j rv:F),a=K (l,h)/\eU a an b=0/\k=aN (cP #[bZ #[f,g,i,j,rv,ak sk],z9 0])/\e.map bf=h/\iZ d (U c.heap) l e f g i/\sR d (U c.heap) j an/\vM d (U c.heap) rv b))
def PS(s:ByteArray)(A:nL)(an:List Int)(c:List bH)(o:Option aL)(cb bC bF:Nat)(ro:Option aL)(rb bL bD:Nat)(sk:Bool)(d:ag)(dt:s.size<=aV)(hF:uI s A)(cd:I an<=1000)(bm:I c<=1000)
 (b7:0<I an->o=K ⟨cb,bC,Z⟩) (bi:0<I an->cb<U d.heap) (dq:∀b,b<I an->bl d cb (bC+b) (z9<|aW an b 0)) (ad:dJ d ro rb bL c):
 bc 48 #[ay s,ah o (I an) bF,ah ro (I c) bD,ak sk] d (OS d A an c sk):=by
 have c7:=aA ad;have am:X (cq (d.alloc<|aq #[aF,aF,aF,aF,aF,ak aj] 115) (U d.heap) #[aF,aF,aF,aF,aF,ak aj] 115):=iI d _;have bM:X (aD d<|d.alloc<|aq #[aF,aF,aF,aF,aF,ak aj] 115):=(bN _ _).alloc (aZ _) _;go_enter aE.func48,Tryz.ntmps48;go_wp2_with fail;refine(Ku s _ dt).mono ?_;rintro w n ⟨ab,⟨a,b3,f,dA,dC,dE,rfl,aU,df,aC,dK⟩|⟨rfl,du⟩⟩;rotate_left
 .have de:eU A an c=3:=by
   cases A with
   |none=>rfl
   |some dy=>exact(du _ _ hF.1).elim
  have a0:=bE am.o;have bh:(n.alloc<|aq #[aF,aF,aF] 105).heap[U d.heap]? =K (aq #[aF,aF,aF,aF,aF,ak aj] 115 (0,0)):=by rw[fM _ _ _<|cL a0 ab.size];exact(cT ab _ a0).trans am.o
  have W:aD d n:=bM.o.trans<|ab.mono aI;have dc:aD d (n.alloc<|aq #[aF,aF,aF] 105):=W.alloc W.size _;have r:=aA de;go_upto_region 3 with fail;generalize n.alloc (aq #[aF,aF,aF] 105)=c9 at*;have B:X (aD d<|sF c9 (U d.heap) aF aF aF aF aF<|ak aj):=C2 _ _ _ _ _ _ dc (aZ _)<|aZ _;have⟨bs,bu,bv,bx,bz,bK⟩:=o7 bh;have⟨a8,a9,ba,bb,bd,be⟩:=BE bh;have⟨M,N,O,P,Q,R⟩:=o7<|C1 aF aF aF aF aF (ak aj) bh;unfold sF at*;go_wp2;simp[jI,dB,Tryz.results48,go_sem,M,N,O,P,Q,R];exact⟨B.o,av ⟨by rw[r.o];decide,gG r.o⟩⟩
 have aH:A=K (a,b3):=by
  cases A with
  |none=>exact(hF _ _ aU).elim
  |some dy=>
   have⟨da,db⟩:=hF.2 _ _ aU;rw[da,db]
 have dv:0<I a:=by
  have:=aU.1.pl.1.1;simp at this;omega
 have a2:=aA aU.1.pl;obtain⟨e,i,rfl,dL,cl,dx⟩:=kz aC.an dv;obtain⟨h,g,rfl⟩:=e9 aC.gA;obtain⟨j,k,rfl⟩:=e9 aC.e7.own;have a0:=bE am.o;have W:aD d n:=bM.o.trans<|ab.mono aI;have b5:cq n (U d.heap) #[aF,aF,aF,aF,aF,ak aj] 115:=(cT ab _ a0).trans am.o;have ds:=bE b5;have Y:aD n ((n.alloc<|aq #[aG e (I a) i,ah h (I a) g,ah j (I f) k] 105).alloc<|aq #[aG e (I a) i,ah h (I a) g,ah j (I f) k,ah o (I an) bF,ah ro (I c) bD,ak sk] 115):=((bN _ _).alloc (aZ _) _).alloc aI _;have a3:X (cq ((n.alloc<|aq #[aG e (I a) i,ah h (I a) g,ah j (I f) k] 105).alloc<|aq #[aG e (I a) i,ah h (I a) g,ah j (I f) k,ah o (I an) bF,ah ro (I c) bD,ak sk] 115) (U n.heap+1) #[aG e (I a) i,ah h (I a) g,ah j (I f) k,ah o (I an) bF,ah ro (I c) bD,ak sk] 115):=B2 _;have ao:X (cq ((n.alloc<|aq #[aG e (I a) i,ah h (I a) g,ah j (I f) k] 105).alloc<|aq #[aG e (I a) i,ah h (I a) g,ah j (I f) k,ah o (I an) bF,ah ro (I c) bD,ak sk] 115) (U d.heap) #[aF,aF,aF,aF,aF,ak aj] 115):=(cT Y _ ds).trans b5;have B:=aA<|W.trans<|Y.mono W.size;have c5:X (iZ ((n.alloc<|aq #[aG e (I a) i,ah h (I a) g,ah j (I f) k] 105).alloc<|aq #[aG e (I a) i,ah h (I a) g,ah j (I f) k,ah o (I an) bF,ah ro (I c) bD,ak sk] 115) (U d.heap) a f (aG e (I a) i) (ah h (I a) g)<|ah j (I f) k):=(aC.B4 aI).below Y;have ci:=cL cl Y.size;have c6:X (∀b F,a[b]? =K F->ap ((n.alloc<|aq #[aG e (I a) i,ah h (I a) g,ah j (I f) k] 105).alloc<|aq #[aG e (I a) i,ah h (I a) g,ah j (I f) k,ah o (I an) bF,ah ro (I c) bD,ak sk] 115) ⟨e,b*2+1,Z⟩=K (z9 F.1.kind)):=λb F q=>by
  obtain⟨bj,rfl⟩:=fF.1 q;have:=(Ca (a.map bf) b<|cN bj).2;simp only[oO] at this;exact(bA Y (p:=⟨e,b*2+1,Z⟩) cl).trans<|dx _ _ this
 have bQ:X (U d.heap≠U n.heap+1):=by show _≠_;omega
 have bS:X (U d.heap<=U n.heap+1):=by show _<=_;omega
 go_upto_region 5 with fail;generalize (n.alloc<|aq #[aG e (I a) i,ah h (I a) g,ah j (I f) k] 105).alloc (aq #[aG e (I a) i,ah h (I a) g,ah j (I f) k,ah o (I an) bF,ah ro (I c) bD,ak sk] 115)=a5 at*;generalize U n.heap+1=p at*;have b8:=B.o.size;have ca:∀b,b<I an->bl a5 cb (bC+b) (z9<|aW an b 0):=λb q=>(bA B.o (p:=⟨cb,bC+b,Z⟩) (bi aa)).trans<|dq b q;have ck:=c7.o.below B.o;have ae:=U0 (I a) an c (K ⟨e,0,Z⟩) i (ah h (I a) g) (ah j (I f) k) o cb bC bF ro rb bL bD sk a5 (by have:=cd;unfold aV;omega) (by have:=bm;unfold aV;omega) b7 (λm=>cL (bi m) b8) ca ck;have bP:X (0<I an->cb<U a5.heap):=λm=>cL (bi m) b8;have⟨cn,co,cp,cr,cs,cu⟩:=o7 a3.o;cases T:nj (I a) an c
 .rw[T] at ae;have r:X (eU A an c=4):=by
   show _=_;rw[aH];simp[eU,T]
  go_upto_region 6 with(go_at_call 68;refine ae.mono ?_;rintro w z ⟨rfl,l⟩;have J:cq z (U d.heap) #[aF,aF,aF,aF,aF,ak aj] 115:=(cT l _<|bE ao.o).trans ao.o;have S:=aA<|B.o.trans<|l.mono B.o.size);have D:X (aD d<|sF z (U d.heap) aF aF aF aF aF<|ak aj):=C2 _ _ _ _ _ _ S.o (aZ _)<|aZ _;have⟨bs,bu,bv,bx,bz,bK⟩:=o7 J;have⟨a8,a9,ba,bb,bd,be⟩:=BE J;have⟨M,N,O,P,Q,R⟩:=o7<|C1 aF aF aF aF aF (ak aj) J;unfold sF at*;go_wp2;simp[jI,dB,Tryz.results48,go_sem,M,N,O,P,Q,R];exact⟨D.o,av ⟨by rw[r.o];decide,gG r.o⟩⟩
 rw[T] at ae
 skip
 go_upto_region 7 with(go_at_call 68;refine ae.mono ?_;rintro w z ⟨rfl,l⟩;have ar:X (cq z (U d.heap) #[aF,aF,aF,aF,aF,ak aj] 115):=(cT l _<|bE ao.o).trans ao.o;have a4:X (cq z p #[aG e (I a) i,ah h (I a) g,ah j (I f) k,ah o (I an) bF,ah ro (I c) bD,ak sk] 115):=(cT l _<|bE a3.o).trans a3.o;have S:=aA<|B.o.trans<|l.mono B.o.size;have c3:=aA<|c5.o.below l;have c0:X (∀b,b<I an->bl z cb (bC+b) (z9<|aW an b 0)):=λb q=>(bA l (p:=⟨cb,bC+b,Z⟩) (bP.o aa)).trans<|ca b q;have bW:=aA<|ck.below l;have c2:X (0<I an->cb<U z.heap):=λm=>cL (bP.o m) l.size;have bT:X (e<U z.heap/\∀b F,a[b]? =K F->bl z e (b*2+1) (z9 F.1.kind)):=⟨cL ci l.size,λb F q=>(bA l (p:=⟨e,b*2+1,Z⟩) ci).trans<|c6.o b F q⟩);have⟨cn,co,cp,cr,cs,cu⟩:=o7 a4.o;have bo:∀E∈c,fR (I a) E.col=af:=by
  have:=T;unfold nj at this;rw[fe,fA,fA] at this;exact this.2
 have al:=U4 a c e i (ah h (I a) g) (ah j (I f) k) (ah o (I an) bF) ro rb bL bD sk z (by have:=bm;unfold aV;omega) a2.o bW.o bo bT.o.1 bT.o.2
 skip
 cases V:pY a c
 .rw[V] at al;have r:X (eU A an c=5):=by
   show _=_;rw[aH];simp[eU,V,T]
  go_upto_region 8 with(go_at_call 69;refine al.mono ?_;rintro w C ⟨rfl,l⟩;have J:cq C (U d.heap) #[aF,aF,aF,aF,aF,ak aj] 115:=(cT l _<|bE ar.o).trans ar.o;have D:=aA<|S.o.trans<|l.mono S.o.size);have cW:X (aD d<|sF C (U d.heap) aF aF aF aF aF<|ak aj):=C2 _ _ _ _ _ _ D.o (aZ _)<|aZ _;have⟨bs,bu,bv,bx,bz,bK⟩:=o7 J;have⟨a8,a9,ba,bb,bd,be⟩:=BE J;have⟨M,N,O,P,Q,R⟩:=o7<|C1 aF aF aF aF aF (ak aj) J;unfold sF at*;go_wp2;simp[jI,dB,Tryz.results48,go_sem,M,N,O,P,Q,R];exact⟨cW.o,av ⟨by rw[r.o];decide,gG r.o⟩⟩
 rw[V] at al;have r:X (eU A an c=0):=by
  show _=_;rw[aH];simp[eU,V,T]
 have c8:X (∀E∈c,E.low.s.size<=32/\E.high.s.size<=32):=λE ad=>by
  unfold pY at V;have aw:=fA.1 V E ad;unfold oB at aw;rw[fe] at aw;exact⟨z0 (zU a2.o<|bo E ad) aw.1,z0 (zU a2.o<|bo E ad) aw.2⟩
 go_upto_region 9 with(go_at_call 69;refine al.mono ?_;rintro w C ⟨rfl,l⟩;have b1:X (cq C (U d.heap) #[aF,aF,aF,aF,aF,ak aj] 115):=(cT l _<|bE ar.o).trans ar.o;have bV:X (cq C p #[aG e (I a) i,ah h (I a) g,ah j (I f) k,ah o (I an) bF,ah ro (I c) bD,ak sk] 115):=(cT l _<|bE a4.o).trans a4.o;have D:=aA<|S.o.trans<|l.mono S.o.size;have c4:=aA<|c3.o.below l;have c1:X (∀b,b<I an->bl C cb (bC+b) (z9<|aW an b 0)):=λb q=>(bA l (p:=⟨cb,bC+b,Z⟩) (c2.o aa)).trans<|c0.o b q;have b0:=aA<|bW.o.below l);have cv:=Sc an o cb bC bF C cd b7 (λb dO q=>by
  have⟨bj,w⟩:=fF.1 q;have ch:b<I an:=by simpa [cO] using bj
  rw[c1.o b ch,<-w];simp[cO,ep,ch])
 have cx:=λb2 (dk:aD C b2)=>SI c ro rb bL bD b2 bm (λm=>b0.o.addr m) (b0.o.below dk).cells c8.o;go_upto_region 10 with(first|(go_at_call 70;refine cv.mono ?_;rintro w br ⟨aR,dl⟩;have dr:∃a6,w=aN a6/\sR br (U C.heap) a6 an:=dl.elim (fun⟨H,a7,L⟩=>⟨_,L,av ⟨H,a7,rfl⟩⟩) (fun⟨H,v,L,bk⟩=>⟨v,L,ai ⟨H,bk⟩⟩);obtain⟨a6,rfl,cc⟩:=dr;obtain⟨t,afd,u,rfl,_⟩:=cc.at_;have cy:=cx br aR)|(go_at_call 71;refine cy.mono ?_;rintro w G ⟨b6,dp⟩;have dw:∃rv,w=aN rv/\vM G (U br.heap) rv c:=dp.elim (fun⟨H,a7,L⟩=>⟨_,L,av ⟨H,a7,rfl⟩⟩) (fun⟨H,v,L,bk⟩=>⟨v,L,ai ⟨H,bk⟩⟩);obtain⟨rv,rfl,cf⟩:=dw;obtain⟨x,afe,y,rfl,_⟩:=cf.at_;have az:=aR.trans<|b6.mono aR.size;have cZ:=aA<|D.o.trans<|az.mono D.o.size;have di:cq G (U d.heap) #[aF,aF,aF,aF,aF,ak aj] 115:=(cT az _<|bE b1.o).trans b1.o;have aK:cq G p #[aG e (I a) i,ah h (I a) g,ah j (I f) k,ah o (I an) bF,ah ro (I c) bD,ak sk] 115:=(cT az _<|bE bV.o).trans bV.o;have cA:X (we G (U d.heap) a f (aG e (I a) i) (ah h (I a) g) (ah j (I f) k) (ah t (I an) u) (ah x (I c) y) an c):=⟨c4.o.below az,(cc.below b6).imp (λm=>m) λm=>⟨m.1,j5 m.2 D.o.size⟩,cf.imp (λm=>m) λm=>⟨m.1,j5 m.2<|dW D.o.size aR.size⟩⟩;have⟨u0,u1,u2,u3,u4,u5⟩:=o7 aK;have⟨dP,dQ,dS,dT,d0,d1⟩:=BE aK));have b4:=ek _ p 3 _ _ (ah t (I an) u) aK;have dg:=ek _ p 4 _ _ (ah x (I c) y) b4;have aQ:(aY (aY G ⟨p,3,Z⟩<|ah t (I an) u) ⟨p,4,Z⟩<|ah x (I c) y).heap[U d.heap]? =K (aq #[aF,aF,aF,aF,aF,ak aj] 115 (0,0)):=by
  rw[ei _ _ _ _ bQ.o,ei _ _ _ _ bQ.o];exact di
 have cK:X (we (aY (aY G ⟨p,3,Z⟩<|ah t (I an) u) ⟨p,4,Z⟩<|ah x (I c) y) (U d.heap) a f (aG e (I a) i) (ah h (I a) g) (ah j (I f) k) (ah t (I an) u) (ah x (I c) y) an c):=(cA.o.put aK _ _).put b4 _ _;have dd:aD d (aY (aY G ⟨p,3,Z⟩<|ah t (I an) u) ⟨p,4,Z⟩<|ah x (I c) y):=ku (ku cZ.o (aZ _) bS.o) (aZ _) bS.o;generalize (aY (aY G ⟨p,3,Z⟩<|ah t (I an) u) ⟨p,4,Z⟩<|ah x (I c) y)=dz at*;have a1:X _:=cK.o.sF (aG e (I a) i) (ah h (I a) g) (ah j (I f) k) (ah t (I an) u) (ah x (I c) y) (ak sk) aQ;have cM:X _:=C2 (aG e (I a) i) (ah h (I a) g) (ah j (I f) k) (ah t (I an) u) (ah x (I c) y) (ak sk) dd (aZ _)<|aZ _;have⟨M,N,O,P,Q,R⟩:=o7<|C1 (aG e (I a) i) (ah h (I a) g) (ah j (I f) k) (ah t (I an) u) (ah x (I c) y) (ak sk) aQ;have⟨bs,bu,bv,bx,bz,bK⟩:=o7 aQ;have⟨a8,a9,ba,bb,bd,be⟩:=BE aQ;have⟨cn,co,cp,cr,cs,cu⟩:=o7 dg;unfold sF at*;go_wp2;simp[jI,dB,Tryz.results48,go_sem,M,N,O,P,Q,R];exact⟨cM.o,ai ⟨a,b3,f,_,_,_,_,_,aH,r.o,rfl,df,a1.o.f,a1.o.c,a1.o.r⟩⟩
open Cc (FM J0 tI ia fJ FM.kept)
def xB (h:ag)(b:nL)(an:List Int)(a:List bH)(sk:Bool)(n:gN)(i:ag):Prop:=
 aD h i/\((eU b an a≠0/\n=aN (cP #[cU Z,n9<|eU b an a]))\/
  (∃(e:List (bx×Int)) (c:List Bd) (d g p f o:Nat) (l:Option aL) (m cW:Nat) (bP ew:Nat->Nat) (k:Option aL) (cb bF:Nat) (ro:Option aL) (rb bD:Nat),b=K (e,c)/\eU b an a=0/\n=aN (cP #[(aK d),z9 0])/\U h.heap<=d/\i.heap[d]? =K (aq (fJ (ia g (I e) p f (I e) o l (I c) cW k (I an) bF ro (I a) bD sk) 0 0) 119 (0,0))/\FM i e c an a g f l m bP ew k cb 0 ro rb 0/\∀j,tI g f m bP cb rb (I c) (I an) (I a) j->U h.heap<=j/\j<d))
def PO(a:nL)(an:List Int)(b:List bH):eU a an b=0\/eU a an b=3\/eU a an b=4\/eU a an b=5:=by
 unfold eU
 split
 simp
 split
 split<;>simp
 simp
def Gc{s:ByteArray}{c:nL}{a:List bH}{cb bC bF:Nat}{ro:Option aL}{rb bL bD:Nat}{sk:Bool}(T:s.size<=aV)(hF:uI s c)(Q:I an<=1000)(W:I a<=1000)
 (L:0<I an->O=K ⟨cb,bC,Z⟩) (P:0<I an->cb<U w.heap) (M:∀u,u<I an->bl w cb (bC+u) (z9<|aW an u 0)) (V:dJ w ro rb bL a):
 bc 31 #[ay s,ah O (I an) bF,ah ro (I a) bD,ak sk] w (xB w c an a sk):=by
 have z:=PS s c an a O cb bC bF ro rb bL bD sk w T hF Q W L P M V;have v:=aA hF;go_enter aE.func31,Tryz.ntmps31;go_wp2_with fail;refine z.mono ?_;rintro ao e ⟨j,⟨aw,rfl⟩|⟨b,d,ab,ad,ae,al,am,rv,y,E,rfl,H,G,N,R⟩⟩
 .have ar:=PO c an a;have q:aD w (e.alloc<|aq #[aF,aF,aF,aF,aF,ak aj] 115):=j.alloc j.size _;have o:X (∀m,eU c an a=m->m≠0->∀p,aD w p->xB w c an a sk (aN<|cP #[cU Z,n9 m]) p):=λm x C p J=>⟨J,av ⟨bV x C,by rw[x]⟩⟩;generalize eU c an a=m at*;have D:m=3\/m=4\/m=5:=aa;rcases D with rfl|rfl|rfl
  .go_wp2;simp[jI,dB,Tryz.results31,go_sem];exact o.o 3 Y az _ q
  .go_wp2;simp[jI,dB,Tryz.results31,go_sem];exact o.o 4 Y az _ q
  go_wp2;simp[jI,dB,Tryz.results31,go_sem];exact o.o 5 Y az _ q
 have S:eB b d:=by
  rw[y] at v;exact v.o.1.1
 obtain⟨k,g,i,f,h,B,cW,bP,ew,ae8,afd,ae6,ae9,afe,ae7,rfl,rfl,rfl,rfl,rfl,F,t⟩:=J0 S H G N R;have r:aD e ((e.alloc<|aq #[aG k (I b) g,aG i (I b) f,ah h (I d) cW,ah ae8 (I an) ae6,ah ae9 (I a) ae7,ak sk] 115).alloc<|aq #[aG k (I b) g,aG i (I b) f,ah h (I d) cW,ah ae8 (I an) ae6,ah ae9 (I a) ae7,ak sk,z9 0,z9 0] 119):=((bN _ _).alloc (aZ _) _).alloc aI _;have A:X (xB w c an a sk (aN<|cP #[(aK<|U e.heap+1),z9 0])<|(e.alloc<|aq #[aG k (I b) g,aG i (I b) f,ah h (I d) cW,ah ae8 (I an) ae6,ah ae9 (I a) ae7,ak sk] 115).alloc<|aq #[aG k (I b) g,aG i (I b) f,ah h (I d) cW,ah ae8 (I an) ae6,ah ae9 (I a) ae7,ak sk,z9 0,z9 0] 119):=
  ⟨fN j<|r.mono j.size,ai ⟨b,d,U e.heap+1,k,g,i,f,h,B,cW,bP,ew,ae8,afd,ae6,ae9,afe,ae7,y,E,rfl,cA j.size,B2 _,F.kept r.size λl n=>Cc.zY<|cT r l (t l n).2,λl n=>⟨(t l n).1,cA<|(t l n).2⟩⟩⟩
 go_wp2;simp[jI,dB,Tryz.results31,go_sem];exact A.o
def Ck:bc 36 #[(aK n)] w λa b=>a=aN (.func (.func 53) #[] #[(aK<|U w.heap)])/\b=cG w (aq #[(aK n)] 74):=by
 go_enter aE.func36,Tryz.ntmps36;go_wp2;go_ret;exact⟨rfl,rfl⟩
def Ci(h:bl w n 7 v):bc 32 #[(aK n)] w λa b=>a=aN v/\b=w:=by
 go_enter aE.func32,Tryz.ntmps32;go_wp2;go_ret;exact⟨rfl,rfl⟩
def Jo(b:Nat)(v:F)(a:ag)(h:bl a b 6 v):bc 33 #[(aK b)] a λc d=>c=aN v/\d=a:=by
 go_enter aE.func33,Tryz.ntmps33;go_wp2;go_ret;exact⟨rfl,rfl⟩
end Ec
end Go.Proofs.YtjidbonhhpkljaaGreat
