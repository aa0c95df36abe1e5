/- What the proof stands on, in short names. -/
import Derived.Test.YtjidbonhhpkljaaGreatMc
import Derived.Deep.CutRange
set_option linter.all false
open Array renaming getD_eq_getD_getElem? → Se, getElem?_eq_some_iff → RH, length_toList → TL, replicate → SN
open Bool renaming and_eq_true → R7, false → RE, false_eq_true → Sa, or_eq_true → UA, true → RF
open False renaming elim → Vt
open Go renaming Act → TZ, Addr → Sl, Calls → Sc, Code → UR, Deferred → TS, Ending → Uw, Frame → RU, Func → Uj, Item → Uk, Obj → UQ, Oper → Te, Operand → SG, PanicEntry → S1, Program → RM, TypeId → RO, TypeInfo → Ur, Value → RB, World → RD, bodyPost → TV, execOp → Sd, heap_alloc_new → TN, heap_setCell_other → R6, heap_setCell_same → RZ, info_parts → S3, lt_of_block → RP, maxLen → R3, results → SD, typeInfo → UE, undef → SP, wpList_append_fits → Tn, wpList_make_own → TM, zeroValue → TO
open Go.Act renaming put → Tc
open Go.Addr renaming add → VN, add_lit → TC, add_mid → U2
open Go.Addr.mk renaming injEq → UO
open Go.Conc renaming G → RN
open Go.Frame renaming enter → Sz, finish_at → UY
open Go.Instr renaming makeSlice → Vd
open Go.IntKind renaming i64 → VQ, u64 → TT
open Go.Lib renaming size_eq → Vh
open Go.Proofs.Tryz renaming f116 → Tk, f117 → U6, f78 → SB, f79 → T4, isAgg3 → VG, prog → Rz, sizeOf3 → Vi, underlying115 → T9, underlying139 → TI, underlying160 → Ua, underlying43 → UX
open Go.Region renaming binds → S4, ready → SI
open Go.Region.linearise renaming go → SJ
open Go.RowKit renaming Below → RQ, Hid → RJ, intOf → SC, wrap64 → SW
open Go.RowKit.Below renaming heap_alloc → Sr, refl → R5
open Go.Sem renaming run_bind → Ue
open Go.Value renaming bool → Ug, cells → Ub, int → TW, slice → SS
open Go.Value.slice renaming injEq → T5
open Go.World renaming cell? → R2, frozen? → SH, ownsRow_nil → T6
open Go.World.grownBy renaming block → T2
open List renaming all_eq_true → Sf, append_assoc → R9, append_nil → Ud, drop_eq_getElem_cons → S6, eq_nil_of_length_eq_zero → Ta, flatMap_append → SU, flatMap_cons → Ui, flatMap_singleton → SO, getD → VR, getD_eq_getElem?_getD → RX, getElem?_append_left → S7, getElem?_append_right → SX, getElem?_eq_getElem → RS, getElem?_eq_some_iff → R8, getElem?_take → TJ, getElem_mem → RV, getElem_of_mem → To, length → U4, length_append → RI, length_cons → TA, length_drop → Ut, length_eq_zero_iff → TQ, length_map → Sy, length_take → Tb, map_append → SQ, map_cons → UP, map_singleton → TX, mem_append → SM, mem_cons → Tq, mem_map → S5, mem_of_mem_take → Uc, mem_range → Tg, not_mem_nil → U7, range → Sw, setIfInBounds_toArray → R1, set_cons_succ → Sg, set_cons_zero → Sj, take_append_drop → Ul, take_length → SR, take_of_length_le → SF, take_succ_eq_append_getElem → RR
open List.cons renaming injEq → UB
open Nat renaming add_assoc → SL, le_refl → RG, le_trans → R4, lt_of_lt_of_le → RK, lt_or_ge → Ts, mul_le_mul → UW, mul_le_mul_left → Uz, mul_one → Vs, pow_le_pow_right → Tu, pow_succ → Uf, zero_add → SA, zero_le → Sk
open Option renaming bind_eq_some_iff → Su, map_eq_some_iff → TY, none → RA, some → Ry
open Option.some renaming injEq → SY
open Or renaming inl → UD
open Prod renaming fst → Sb, snd → TK
set_option maxRecDepth 100000
set_option maxHeartbeats 8000000
namespace Go.Proofs.YtjidbonhhpkljaaGreat
namespace Ec
open Go.RowKit Pk Pm
theorem KA(d:List aD)(z:aD)(q:Nat)(h:q<d.length):d.getD q z=d[q]:=by simp[VR,h]
theorem Bc(k:Int)(b3:k=1∨k=2∨k=3)(s:ByteArray)(r p cn:Nat)(w:RD)(ca:s.size≤R3)(O:cn≤100)(cf:p≤s.size)(h:w.heap[r]? =Ry (bh s p)):
 Sc (aa.of Rz) 171 #[.pointer (Ry ⟨r,0,RA⟩),.int .i64 k,.int .i64 cn] w fun e w'=>Kp r w w'∧
  ((∃ (l:List aD) (v:RB),e= .returned v∧l.length=cn∧(∀ x∈l,VK k x)∧ag (bytesOf s) p (dQ k l)∧(∀ L:List aD,L.length=cn→(∀ x∈L,VK k x)→ag (bytesOf s) p (dQ k L)→L=l)∧p+(dQ k l).length≤s.size∧
    w'.heap[r]? =Ry (bh s (p+(dQ k l).length))∧w'.ownsRow w.heap.size 59 3 v l.length (aE l))∨
   (∃ q,e= .panicked (dV q)∧∀ L:List aD,L.length=cn→(∀ x∈L,VK k x)→¬ ag (bytesOf s) p (dQ k L))):=by
 obtain⟨c0,g,ec,cu,ee⟩:=S3 aa.ni;have d8:r<w.heap.size:=RP h;have bb:RJ (w.heap[r]? =Ry (bh s p)):=h;clear h;go_enter aa.func171,Tryz.ntmps171
 go_wp2_with fail
 refine(uV k b3 s r p cn _ ca O cf bb.out).mono ?_;rintro e C ⟨M,⟨a,v,rfl,d4,bB,cb,ci,ck,co,b4,bx,ar⟩|⟨q,rfl,i⟩⟩
 ·have y:RJ (Kp r w C):=M;have V:RJ (ag (bytesOf s) p (aA a.length)):=ci;have dq:RJ (ag (bytesOf s) (p+(aA a.length).length) (aH k a)):=ck;have W:RJ (∀ D:List aD,D.length=a.length→(∀ x∈D,VK k x)→ag (bytesOf s) (p+(aA a.length).length) (aH k D)→D=a):=co;have bc:RJ (C.heap[r]? =Ry (bh s (p+(aA a.length).length+(aH k a).length))):=bx;have c7:RJ (∀ x∈a,VK k x):=bB;have dk:RJ a.Nodup:=cb;have ba:RJ (C.ownsRow w.heap.size 59 3 v a.length (aE a)):=ar;have e4:=M.size;obtain⟨a5,c1,rfl⟩:=tc ar;have H:RJ (p+(aA a.length).length+(aH k a).length≤s.size):=b4;generalize bv:p+(aA a.length).length+(aH k a).length=f at*;have G:RJ (p+(aA a.length).length+(aH k a).length=f):=bv;have du:RJ (∀ w,Sc (aa.of Rz) 158 #[.int .i64 (a.length:Int)] w fun e w'=>e= .returned (.int .i64 (wid a.length))∧w'=w):=fun w=>uJ a.length (by omega) w;clear M ci ck co bx bB cb ar bb bv b4;have cs:=yx a.length
  go_wp2_with (go_at_call 158;refine(du.out _).mono ?_;rintro e w' ⟨rfl,o⟩;rw[o];clear o w')
  refine(xB s r f (wid a.length) cn _ ca (by omega) O H.out bc.out).mono ?_;rintro e d ⟨N,⟨rfl,A,bA,cc⟩|⟨q,rfl,i⟩⟩
  ·have dr:RJ (ag (bytesOf s) f (b7 (wid a.length) (D (wid a.length) (dB s f) cn))):=yW s f _ cn H.out A;have ds:RJ (∀ b:List Nat,b.length=cn→(∀ x∈b,x<2 ^ wid a.length)→ag (bytesOf s) f (b7 (wid a.length) b)→b=D (wid a.length) (dB s f) cn):=by
    intro b K bt d1;have:=(kS s f _ b H.out bt d1).2;rw[K] at this;exact this.symm
   have aw:(D (wid a.length) (dB s f) cn).length=cn:=og _ _ _;have ch:∀ q∈D (wid a.length) (dB s f) cn,q<65536:=fun q B=>by
    have K:=Ow _ _ _ q B;have bt:2 ^ wid a.length≤2 ^ 7:=Tu (by omega) cs;omega
   generalize D (wid a.length) (dB s f) cn=b at*;have R:(iZ b).length=cn:=by rw[← aw];simp[iZ]
   have z:RJ (b.length=cn):=aw;have dp:RJ (∀ q∈b,q<65536):=ch;have U:RJ (qi d (.slice (Ry ⟨C.heap.size,0,RA⟩) cn cn) (iZ b)):=qi.cm (by rw[R];exact cc);have E:RJ (Kp r w d):=y.out.trans N;have dl:RJ (d.ownsRow w.heap.size 59 3 (.slice a5 a.length c1) a.length (aE a)):=N.own ba.out d8;have bd:RJ (d.heap[r]? =Ry (bh s (f+(cn*wid a.length+7) / 8))):=bA;have eb:=E.out.size;clear N bA cc A y ba bc aw ch R;generalize bu:f+(cn*wid a.length+7) / 8=X at*;have df:RJ (f+(cn*wid a.length+7) / 8=X):=bu;clear bu cs
   go_wp2_with fail
   refine(uQ s r X a.length _ b _ (by omega) (by rw[z.out];omega) dp.out U.out bd.out).mono ?_;rintro e w' ⟨o,⟨rfl,n⟩|⟨q,rfl,i⟩⟩
   ·rw[o];clear o w';have et:RJ (lF 0 b=Ry a.length):=n;have a9:RJ _:=Hq b3 (s:=s) (p:=p) (cn:=cn) (n:=a.length) (d:=a) (ps:=b) ⟨RE,0,⟨#[]⟩⟩ O d4 rfl c7.out dk.out z.out n V.out dq.out (by rw[G.out];exact dr.out) W.out (by rw[G.out];exact H.out);have dd:RJ (∀ c,(g:c<b.length)→b[c]<a.length):=fun c g=>sL n _ (RV g);clear n;have bi:RJ (ql d (.slice a5 a.length c1) a):=ql.cm dl.out;obtain⟨e5,Q,T,e6,cv,a2,a3,a4⟩:=U.out;simp only[T5] at cv;obtain⟨cx,cR,ef⟩:=cv;rw[← cR] at a2 a3 a4;have da:RJ (∀ c,(g:c<b.length)→d.cell? ⟨Q,T+c,RA⟩=Ry (.int .i64 (b[c]:Int))):=fun c g=>by
     have K:=a4 c (by rw[← z.out];exact g);have R:(iZ b).length=b.length:=by simp[iZ]
     rw[eE (by rw[R];exact g)] at K;simpa [iZ] using K
    have c9:RJ (0<cn→Q<d.heap.size):=a3;have c8:RJ (0<cn→(Ry (⟨C.heap.size,0,RA⟩:Sl))=Ry ⟨Q,T,RA⟩):=fun d0=>by rw[cx];exact a2 d0
    obtain⟨eQ,dC,el,e0,c2,cp⟩:=bi.out;simp only[T5] at c2;obtain⟨rfl,_,rfl⟩:=c2;have dt:RJ (ot d a5 dC el a):=cp;clear a2 a3 a4 cp bi U cx cR ef
    go_wp2_with (at_make;refine TM _ rfl _ _ 43 rfl d.heap.size 59 c0 _ 3 aa.underlying43 g ec cu .i64 .i64 _ cn rfl rfl rfl (by rw[ee];omega) (by unfold R3;omega) (RG _) ?_;intro er cd b1)
    have a8:RJ (RQ d.heap.size d er):=(R5 _ _).grown b1 (RG _) (by simp);clear b1
    go_loopw [9,31] (fun eh a1 wr=>∃ c:Nat,c≤cn∧a1= .int .i64 (c:Int)∧eh= .slice (Ry ⟨d.heap.size,0,RA⟩) c cn∧wr.ownsRow d.heap.size 59 3 (.slice (Ry ⟨d.heap.size,0,RA⟩) c cn) c (aE ((b.take c).map fun q=>a.getD q ⟨RE,0,⟨#[]⟩⟩))∧RQ d.heap.size d wr) (fun _ a1 _=>cn - (SC a1).toNat)
    case atStart=>exact⟨0,Sk _,rfl,rfl,by simpa [aE] using cd,a8.out⟩
    case round=>
     clear cd a8;obtain⟨c,e2,rfl,rfl,S,al⟩:=hrel;have u:RJ (RQ d.heap.size d wr):=al;have d9:=al.size;clear al;by_cases d7:c<cn
     ·have ao:c<b.length:=by rw[z.out];exact d7
      have B:=dd.out c ao;have b0:=c8.out (by omega);have d6:=c9.out (by omega);have n:wr.cell? ⟨Q,T+c,RA⟩=Ry (.int .i64 (b[c]:Int)):=(u.out.cell (p:=⟨Q,T+c,RA⟩) d6).trans (da.out c ao);have P:=dt.out.below u.out;obtain rfl:=P.addr (by omega);have em:=P.c0 b[c] B;have en:=P.c1 b[c] B;have eo:=P.c2 b[c] B;have be:RJ (∀ x:aD,a[b[c]]=x→aE ((b.take c).map fun q=>a.getD q ⟨RE,0,⟨#[]⟩⟩) ++ [.bool x.null,.int .i64 x.n,.string x.s]=aE ((b.take (c+1)).map fun q=>a.getD q ⟨RE,0,⟨#[]⟩⟩)):=by
       intro x t;rw[RR ao,SQ,TX,← eB,KA a _ _ B,t]
      simp only[SY,UO] at b0;obtain⟨d2,d3,_⟩:=b0;subst d2;subst d3;rw[SA] at n;generalize t:a[b[c]]=x at*;have bj:=be.out x rfl;have dv:RJ _:=bj;clear bj be t P;generalize b[c]=q at*
      go_wp2_with (at_builtin;refine Tn _ rfl _ _ 43 rfl d.heap.size 59 c0 3 aa.underlying43 g cu d.heap.size c cn _ rfl (S.alloc _) ⟨wr.heap.size,0,RA⟩ 1 1 [.bool x.null,.int .i64 x.n,.string x.s] rfl rfl (by exact iC _ _ _ _ _) (fY x) (by omega) ?_;intro es ce b2)
      have c6:RJ (RQ d.heap.size d es):=(u.out.alloc d9 _).grown b2 (by simp;omega) (by intro e1 d5;simp at d5;omega);rw[dv.out] at ce;clear S b2 u n em en eo;go_wp2
      go_roundw
      case rel=>exact⟨c+1,by omega,by go_num,rfl,ce,c6.out⟩
      case measure=>simp[SC];omega
     ·obtain rfl:c=cn:=by omega
      have cl:b.take c=b:=SF (by rw[z.out];omega);rw[cl] at S;obtain⟨bl,bm,bo,br,bs⟩:=a9.out;have a6:RJ _:=bl;have c3:RJ _:=bm;have c4:RJ _:=bo;have a7:RJ _:=br;have c5:RJ _:=bs;clear bl bm bo br bs a9 cl;have db:RJ (p+(dQ k (b.map fun q=>a.getD q ⟨RE,0,⟨#[]⟩⟩)).length=X):=by
       show _=_;rw[c4.out,RI,RI,fp,z.out,← SL,← SL,G.out,df.out]
      have dc:RJ (p+(dQ k (b.map fun q=>a.getD q ⟨RE,0,⟨#[]⟩⟩)).length≤s.size):=by
       have:=fP a7.out (by rw[ai];exact cf);rwa [ai] at this
      generalize e3:(b.map fun q=>a.getD q ⟨RE,0,⟨#[]⟩⟩)=l at*;go_wp2;go_ret;exact⟨E.out.trans (Kp.bS u.out),.inl ⟨l,_,rfl,a6.out,c3.out,a7.out,c5.out,dc.out,by rw[db.out,u.out.block r (by omega)];exact bd.out,by rw[a6.out];exact bz S eb⟩⟩
   ·have F:RJ (∀ L:List aD,L.length=cn→(∀ x∈L,VK k x)→¬ ag (bytesOf s) p (dQ k L)):=by
     intro L am A a0;obtain⟨Y,eq,dO,ab,dT,ad,j,ae,J,m⟩:=jE O am A a0;have I:=bW (by omega) (by omega) ae V.out;rw[I] at J m j;have Z:=W.out Y I ab J;rw[Z,G.out] at m;have dE:=ds.out eq ad (fun x t=>r8 _ (by omega) x (sL j x t)) m;rw[dE] at j;exact i j
    rw[o];clear i o w';go_wp2;exact⟨rfl,E.out,.inr ⟨q,rfl,F.out⟩⟩
  ·have F:RJ (∀ L:List aD,L.length=cn→(∀ x∈L,VK k x)→¬ ag (bytesOf s) p (dQ k L)):=by
    intro L am A a0;obtain⟨Y,b,dO,ab,dT,ad,j,ae,J,m⟩:=jE O am A a0;have I:=bW (by omega) (by omega) ae V.out;rw[I] at J m j;have Z:=W.out Y I ab J;rw[Z,G.out] at m;have:=(kS s f (wid a.length) b H.out (fun x t=>r8 _ (by omega) x (sL j x t)) m).1;rw[ad] at this;exact i this
   have E:RJ (Kp r w d):=y.out.trans N;clear i N y;go_wp2;exact⟨rfl,E.out,.inr ⟨q,rfl,F.out⟩⟩
 ·have F:RJ (∀ L:List aD,L.length=cn→(∀ x∈L,VK k x)→¬ ag (bytesOf s) p (dQ k L)):=i;have y:RJ (Kp r w C):=M;clear i M;go_wp2;exact⟨rfl,y.out,.inr ⟨q,rfl,F.out⟩⟩
theorem GZ(L:List aD)(d:∀ x∈L,VK 2 x):(L.map aD.n).map yE=L:=by
 rw[List.map_map]
 conv=>rhs;rw[← List.map_id L]
 apply List.map_congr_left;intro x e;have a:=d x e;have b:=a.there;have c:=(a.s2 rfl).2;cases x;simp at b c;simp[yE,b,c]
theorem qM(a:List Int):(a.map yE).map aD.n=a:=by
 rw[List.map_map]
 conv=>rhs;rw[← List.map_id a]
 rfl
theorem MC(b:List Int)(h:kx b):∀ x∈b.map yE,VK 2 x:=by
 intro x d;obtain⟨a,e,rfl⟩:=S5.1 d;have c:=h a e;exact⟨rfl,by show _≤a;omega,by show a≤_;omega,fun h=>by omega,fun _=>⟨c,rfl⟩,fun h=>by omega⟩
theorem DR(L:List aD)(a:∀ x∈L,VK 2 x):kx (L.map aD.n):=by
 intro d c;obtain⟨x,b,rfl⟩:=S5.1 c;exact((a x b).s2 rfl).1
def Reads(s:ByteArray)(r p cn:Nat)(k:Int)(E:List aD→List Nat)(w:RD)(e:Uw)(w':RD):Prop:=Kp r w w'∧
 ((∃ (b:List aD) (v:RB),e= .returned v∧b.length=cn∧(∀ c∈b,VK k c)∧ag (bytesOf s) p (E b)∧(∀ a:List aD,a.length=cn→(∀ c∈a,VK k c)→ag (bytesOf s) p (E a)→a=b)∧p+(E b).length≤s.size∧
   w'.heap[r]? =Ry (bh s (p+(E b).length))∧w'.ownsRow w.heap.size 59 3 v b.length (aE b))∨
  (∃ d,e= .panicked (dV d)∧∀ a:List aD,a.length=cn→(∀ c∈a,VK k c)→¬ ag (bytesOf s) p (E a)))
theorem uW(k e:Int)(B:bf k e=RF)(s:ByteArray)(r p cn:Nat)(w:RD)(q:s.size≤R3)(n:cn≤100)(u:p≤s.size)(h:w.heap[r]? =Ry (bh s p)):
 Sc (aa.of Rz) 165 #[.pointer (Ry ⟨r,0,RA⟩),.int .i64 k,.int .i64 e,.int .i64 cn] w fun x w'=>Reads s r p cn k (cU k e) w x w':=by
 obtain⟨H,Y⟩:=zA B;have ad:r<w.heap.size:=RP h;have m:RJ (w.heap[r]? =Ry (bh s p)):=h;clear h;rcases Y with rfl|rfl|rfl|rfl
 ·have g:∀ a,cU k 0 a=aH k a:=fun a=>rfl;have f:RJ (cU k 0=aH k):=funext g;clear g;go_enter aa.func165,Tryz.ntmps165
  go_wp2_with fail
  refine(qB k H s r p cn _ q n u m.out).mono ?_;intro x d l;have j:RJ (Reads s r p cn k (cU k 0) w x d):=by
   show Reads _ _ _ _ _ _ _ _ _;rw[f.out];exact l
  rcases l with⟨c,⟨a,v,rfl,_⟩|⟨y,rfl,_⟩⟩
  ·clear c;go_wp2;go_ret;exact j.out
  ·clear c;go_wp2;exact⟨rfl,j.out⟩
 ·have C:k=1:=by simp[bf] at B;omega
  subst C;have g:∀ a,cU 1 1 a=bp 0 a:=fun a=>rfl;have f:RJ (cU 1 1=bp 0):=funext g;clear g;go_enter aa.func165,Tryz.ntmps165
  go_wp2_with fail
  refine(yY s r p cn _ q n u m.out).mono ?_;intro x d l;have j:RJ (Reads s r p cn 1 (cU 1 1) w x d):=by
   show Reads _ _ _ _ _ _ _ _ _;rw[f.out];exact l
  rcases l with⟨c,⟨a,v,rfl,_⟩|⟨y,rfl,_⟩⟩
  ·clear c;go_wp2;go_ret;exact j.out
  ·clear c;go_wp2;exact⟨rfl,j.out⟩
 ·have g:∀ a,cU k 2 a=dQ k a:=fun a=>rfl;have f:RJ (cU k 2=dQ k):=funext g;clear g;go_enter aa.func165,Tryz.ntmps165
  go_wp2_with fail
  refine(Bc k H s r p cn _ q n u m.out).mono ?_;intro x d l;have j:RJ (Reads s r p cn k (cU k 2) w x d):=by
   show Reads _ _ _ _ _ _ _ _ _;rw[f.out];exact l
  rcases l with⟨c,⟨a,v,rfl,_⟩|⟨y,rfl,_⟩⟩
  ·clear c;go_wp2;go_ret;exact j.out
  ·clear c;go_wp2;exact⟨rfl,j.out⟩
 ·have C:k=2:=by simp[bf] at B;omega
  subst C;have g:∀ a,cU 2 3 a=bF (a.map aD.n):=fun a=>rfl;have f:RJ (∀ a,cU 2 3 a=bF (a.map aD.n)):=g;clear g;go_enter aa.func165,Tryz.ntmps165
  go_wp2_with fail
  refine(rR s r p cn _ q n u m.out).mono ?_;rintro x d ⟨c,⟨i,v,rfl,O,N,L,M,Z,F,J⟩|⟨y,rfl,I⟩⟩
  ·have z:RJ (Kp r w d):=c;have X:RJ (kx i):=N;have V:RJ (ag (bytesOf s) p (bF i)):=L;have W:RJ (∀ b:List Int,b.length=cn→kx b→ag (bytesOf s) p (bF b)→b=i):=M;have U:RJ (d.heap[r]? =Ry (bh s (p+(bF i).length))):=F;have R:RJ (qi d v i):=qi.cm J;have E:RJ (i.length=cn):=O;have ab:=c.size;clear c N L M F J O m
   go_wp2_with fail
   refine(BH v i _ (by rw[E.out];exact n) R.out).mono ?_;rintro x Q ⟨G,P,rfl,K⟩;have D:RJ (RQ d.heap.size d Q):=G;have T:RJ (Q.ownsRow d.heap.size 59 3 P i.length (aE (i.map yE))):=K;clear G K;go_wp2;go_ret;refine⟨z.out.trans (Kp.bS D.out),.inl ⟨i.map yE,P,rfl,by rw[Sy];exact E.out,MC i X.out,?_,?_,?_,?_,?_⟩⟩
   ·rw[f.out,qM];exact V.out
   ·intro b A t o;rw[f.out] at o;rw[← W.out (b.map aD.n) (by rw[Sy];exact A) (DR b t) o,GZ b t]
   ·rw[f.out,qM];exact Z
   ·rw[f.out,qM,D.out.block r (by omega)];exact U.out
   ·rw[Sy];exact bz T.out ab
  ·have S:RJ (∀ b:List aD,b.length=cn→(∀ x∈b,VK 2 x)→¬ ag (bytesOf s) p (cU 2 3 b)):=by
    intro b A t o;rw[f.out] at o;exact I (b.map aD.n) (by rw[Sy];exact A) (DR b t) o
   have z:RJ (Kp r w d):=c;clear I c;go_wp2;exact⟨rfl,z.out,.inr ⟨y,rfl,S.out⟩⟩
def zL:aD:=⟨RF,0,⟨#[]⟩⟩
structure JA(k:Int)(zs:List Int)(pres:List aD)(j nx:Nat)(l:List aD):Prop where
 lv:l.map mo=zs.take j
 th:there l=pres.take nx
 QD:nx=j7 (zs.take j)
 ok:∀ x∈l,VC k x
theorem Iq(a:List Int)(j:Nat):j7 (a.take j)≤j7 a:=by
 unfold j7;exact((List.take_sublist j a).filter _).length_le
theorem yg(l:List aD)(x:aD):there (l ++ [x])=if x.null then there l else there l ++ [x]:=by
 unfold there;rw[List.filter_append];cases a:x.null<;>simp[a]
theorem JA.null{k:Int}{a:List Int}{f:List aD}{j e:Nat}{l:List aD}(h:JA k a f j e l)(i:kx a)(c:j<a.length)(d:a.getD j 0=0):JA k a f (j+1) e (l ++ [zL]):=by
 have g:=pG a i j c;rw[d] at g;refine⟨?_,?_,?_,?_⟩
 ·rw[SQ,h.lv,RR c,← eE c,d];rfl
 ·rw[yg];exact h.th
 ·rw[h.QD];omega
 ·intro n m;rcases SM.1 m with b|b
  ·exact h.ok n b
  ·simp at b;subst b;exact .inl ⟨rfl,rfl,rfl⟩
theorem JA.lt{k:Int}{a:List Int}{c:List aD}{j e:Nat}{l:List aD}(h:JA k a c j e l)(d:kx a)(b:j<a.length)(o:a.getD j 0≠0)(n:c.length=j7 a):e<c.length:=by
 have g:=pG a d j b;have i:=Iq a (j+1);have f:=d _ (RV b);rw[← eE b] at f;have m:=h.QD;omega
theorem JA.one{k:Int}{a:List Int}{d:List aD}{j c:Nat}{l:List aD}(h:JA k a d j c l)(i:kx a)(b:j<a.length)(r:a.getD j 0≠0)(o:c<d.length)(f:VK k d[c]):JA k a d (j+1) (c+1) (l ++ [d[c]]):=by
 have m:=pG a i j b;have n:=i _ (RV b);rw[← eE b] at n;have g:a.getD j 0=1:=by omega
 rw[g] at m;refine⟨?_,?_,?_,?_⟩
 ·rw[SQ,h.lv,RR b,← eE b,g];congr 1;simp[mo,f.there]
 ·rw[yg,f.there,h.th,RR o];rfl
 ·rw[h.QD];omega
 ·intro q p;rcases SM.1 p with e|e
  ·exact h.ok q e
  ·simp at e;subst e;exact .inr f
theorem xy(k e:Int)(c0:bf k e=RF)(s:ByteArray)(r p cn:Nat)(w:RD)(bl:s.size≤R3)(cR:cn≤100)(c5:p≤s.size)(h:w.heap[r]? =Ry (bh s p)):
 Sc (aa.of Rz) 156 #[.pointer (Ry ⟨r,0,RA⟩),.int .i64 k,.int .i64 e,.int .i64 cn] w fun x w'=>Kp r w w'∧
  ((∃ (l:List aD) (v:RB),x= .returned v∧l.length=cn∧(∀ x∈l,VC k x)∧ag (bytesOf s) p (aZ k e l)∧(∀ L:List aD,L.length=cn→(∀ x∈L,VC k x)→ag (bytesOf s) p (aZ k e L)→L=l)∧p+(aZ k e l).length≤s.size∧
    w'.heap[r]? =Ry (bh s (p+(aZ k e l).length))∧w'.ownsRow w.heap.size 59 3 v l.length (aE l))∨
   (∃ q,x= .panicked (dV q)∧∀ L:List aD,L.length=cn→(∀ x∈L,VC k x)→¬ ag (bytesOf s) p (aZ k e L))):=by
 obtain⟨am,Y,c9,ad,da⟩:=S3 aa.ni;have c6:r<w.heap.size:=RP h;have a6:RJ (w.heap[r]? =Ry (bh s p)):=h;clear h;go_enter aa.func156,Tryz.ntmps156
 go_wp2_with fail
 refine(rR s r p cn _ bl cR c5 a6.out).mono ?_;rintro x H ⟨z,⟨b,v,rfl,b4,ae,bu,bB,c2,W,ab⟩|⟨q,rfl,C⟩⟩
 ·have o:RJ (Kp r w H):=z;have K:RJ (kx b):=ae;have ck:RJ (ag (bytesOf s) p (bF b)):=bu;have a8:RJ (∀ L:List Int,L.length=cn→kx L→ag (bytesOf s) p (bF L)→L=b):=bB;have a7:RJ (H.heap[r]? =Ry (bh s (p+(bF b).length))):=W;have a4:RJ (H.ownsRow w.heap.size 3 1 v b.length (aY b)):=ab;have a1:RJ (qi H v b):=qi.cm ab;have t:RJ (b.length=cn):=b4;have du:=z.size;have c4:j7 b≤100:=by have:=Gi b;omega
  have aw:RJ (∀ w,qi w v b→Sc (aa.of Rz) 166 #[v] w fun e w'=>e= .returned (.int .i64 ((j7 b:Nat):Int))∧w'=w):=fun w h=>yM v b w (by omega) ae h;have dt:=RP W;clear z ae bu bB W ab b4 a6
  go_wp2_with (go_at_call 166;refine(aw.out _ a1.out).mono ?_;rintro x w' ⟨rfl,b2⟩;rw[b2];clear b2 w')
  refine(uW k e c0 s r (p+(bF b).length) (j7 b) _ bl c4 c2 a7.out).mono ?_;rintro x c ⟨A,⟨f,dE,rfl,bt,bs,bv,b0,bi,bd,bo⟩|⟨q,rfl,C⟩⟩
  ·have J:RJ (Kp r w c):=o.out.trans A;have ch:RJ (∀ x∈f,VK k x):=bs;have cl:RJ (ag (bytesOf s) (p+(bF b).length) (cU k e f)):=bv;have co:RJ (∀ L:List aD,L.length=j7 b→(∀ x∈L,VK k x)→ag (bytesOf s) (p+(bF b).length) (cU k e L)→L=f):=b0;have ci:RJ (c.heap[r]? =Ry (bh s (p+(bF b).length+(cU k e f).length))):=bd;have a5:RJ (f.length=j7 b):=bt;obtain⟨dv,N,O,dC,rfl,ca,cb,cc⟩:=qi.cm (A.own a4.out c6);have a0:RJ (∀ a,a<b.length→c.cell? ⟨N,O+a,RA⟩=Ry (.int .i64 (b.getD a 0))):=cc;obtain⟨cs,cu,dd,dq,rfl,b1⟩:=ql.cm bo;have cp:RJ (ot c cs cu dd f):=b1;have c7:=J.out.size;have c3:p+(bF b).length+(cU k e f).length≤s.size:=bi;clear A bs bv b0 bd bt bo cc b1 a4 a1 o a7 aw bi;rw[t.out] at ca cb;have cf:RJ (∀ a,a<cn→c.cell? ⟨N,O+a,RA⟩=Ry (.int .i64 (b.getD a 0))):=by
    have:=a0.out;rw[t.out] at this;exact this
   clear a0;rw[t.out]
   go_wp2_with (at_make;refine TM _ rfl _ _ 43 rfl c.heap.size 59 am _ 3 aa.underlying43 Y c9 ad .i64 .i64 _ cn rfl rfl rfl (by rw[da];omega) (by unfold R3;omega) (RG _) ?_;intro dp br be)
   have ar:RJ (RQ c.heap.size c dp):=(R5 _ _).grown be (RG _) (by simp);clear be
   go_loopw [11,12,28] (fun db dc al wr=>∃ (a d:Nat) (l:List aD),a≤cn∧d≤a∧al= .int .i64 (a:Int)∧dc= .int .i64 (d:Int)∧db= .slice (Ry ⟨c.heap.size,0,RA⟩) a cn∧JA k b f a d l∧wr.ownsRow c.heap.size 59 3 (.slice (Ry ⟨c.heap.size,0,RA⟩) a cn) a (aE l)∧RQ c.heap.size c wr) (fun _ _ al _=>cn - (SC al).toNat)
   case atStart=>exact⟨0,0,[],Sk _,RG _,rfl,rfl,rfl,⟨rfl,rfl,rfl,fun x c8=>by simp at c8⟩,by simpa [aE] using br,ar.out⟩
   case round=>
    clear br ar;obtain⟨a,d,l,dr,ds,rfl,rfl,rfl,bc,E,U⟩:=hrel;have i:RJ (RQ c.heap.size c wr):=U;have j:RJ (JA k b f a d l):=bc;have bx:=U.size;clear U bc;by_cases bj:a<cn
    ·have n:a<b.length:=by rw[t.out];exact bj
     obtain rfl:=ca (by omega);have c1:=cb (by omega);have M:wr.cell? ⟨N,O+a,RA⟩=Ry (.int .i64 (b.getD a 0)):=(i.out.cell (p:=⟨N,O+a,RA⟩) c1).trans (cf.out a bj);by_cases u:b.getD a 0=0
     ·have Q:RJ (JA k b f (a+1) d (l ++ [zL])):=j.out.null K.out n u;rw[u] at M;have S:RJ (aE l ++ [.bool RF,.int .i64 0,.string ⟨#[]⟩]=aE (l ++ [zL])):=eB l zL;clear u n
      go_wp2_with (at_builtin;refine Tn _ rfl _ _ 43 rfl c.heap.size 59 am 3 aa.underlying43 Y ad c.heap.size a cn _ rfl (E.alloc _) ⟨wr.heap.size,0,RA⟩ 1 1 [.bool RF,.int .i64 0,.string ⟨#[]⟩] rfl rfl (by exact iC _ _ _ _ _) (fY zL) (by omega) ?_;intro ao F B)
      have P:RJ (RQ c.heap.size c ao):=(i.out.alloc bx _).grown B (by simp;omega) (by intro cv X;simp at X;omega);rw[S.out] at F;clear E B i M;refine⟨⟨a+1,d,l ++ [zL],by omega,by omega,by go_num,rfl,rfl,Q.out,F,P.out⟩,by simp[SC];omega⟩
     ·have D:=j.out.lt K.out n u a5.out;have b3:b.getD a 0=1:=by
       have cx:=K.out _ (RV n);rw[← eE n] at cx;omega
      have Q:RJ (JA k b f (a+1) (d+1) (l ++ [f[d]])):=j.out.one K.out n u D (ch.out _ (RV D));rw[b3] at M;have G:=cp.out.below i.out;obtain rfl:=G.addr (by omega);have df:=G.c0 d D;have dk:=G.c1 d D;have dl:=G.c2 d D;have S:RJ (aE l ++ [.bool f[d].null,.int .i64 f[d].n,.string f[d].s]=aE (l ++ [f[d]])):=eB l _;clear u b3 n G;generalize f[d]=I at*
      go_wp2_with (at_builtin;refine Tn _ rfl _ _ 43 rfl c.heap.size 59 am 3 aa.underlying43 Y ad c.heap.size a cn _ rfl (E.alloc _) ⟨wr.heap.size,0,RA⟩ 1 1 [.bool I.null,.int .i64 I.n,.string I.s] rfl rfl (by exact iC _ _ _ _ _) (fY I) (by omega) ?_;intro ao F B)
      have P:RJ (RQ c.heap.size c ao):=(i.out.alloc bx _).grown B (by simp;omega) (by intro cv X;simp at X;omega);rw[S.out] at F;clear E B i M df dk dl;refine⟨⟨a+1,d+1,l ++ [I],by omega,by omega,by go_num,by go_num,rfl,Q.out,F,P.out⟩,by simp[SC];omega⟩
    ·obtain rfl:a=cn:=by omega
     have bA:b.take a=b:=SF (by rw[t.out];omega);have m:=j.out.lv;have y:=j.out.th;have T:=j.out.QD;rw[bA] at m T;rw[T,← a5.out,SR] at y;have Z:l.length=a:=by rw[← t.out,← m,Sy]
     obtain⟨ba,bb⟩:=Ci (k:=k) (e:=e) (s:=s) (p:=p) (cn:=a) (l:=l) Z j.out.ok (by rw[m];exact ck.out) (by rw[m];exact a8.out) (by rw[m,y];exact cl.out) (by rw[m,y];exact co.out);have cd:RJ (ag (bytesOf s) p (aZ k e l)):=ba;have ce:RJ (∀ L:List aD,L.length=a→(∀ x∈L,VC k x)→ag (bytesOf s) p (aZ k e L)→L=l):=bb;have a3:RJ (p+(aZ k e l).length=p+(bF b).length+(cU k e f).length):=by
      show _=_;unfold aZ;rw[RI,m,y,SL]
     have a2:RJ (l.length=a):=Z;clear ba bb m y T bA Z;go_wp2;go_ret;exact⟨J.out.trans (Kp.bS i.out),.inl ⟨l,_,rfl,a2.out,j.out.ok,cd.out,ce.out,by rw[a3.out];exact c3,by rw[a3.out,i.out.block r (by omega)];exact ci.out,by rw[a2.out];exact bz E c7⟩⟩
  ·have R:RJ (∀ L:List aD,L.length=cn→(∀ x∈L,VC k x)→¬ ag (bytesOf s) p (aZ k e L)):=by
    intro L V bm g;unfold aZ at g;rw[ap] at g;have a9:=a8.out (L.map mo) (by rw[Sy];exact V) (wQ L) g.1;rw[a9] at g;exact C (there L) (by rw[yf,a9]) (DI bm) g.2
   have J:RJ (Kp r w c):=o.out.trans A;clear C A o;go_wp2;exact⟨rfl,J.out,.inr ⟨q,rfl,R.out⟩⟩
 ·have R:RJ (∀ L:List aD,L.length=cn→(∀ x∈L,VC k x)→¬ ag (bytesOf s) p (aZ k e L)):=by
   intro L V bm g;unfold aZ at g;rw[ap] at g;exact C (L.map mo) (by rw[Sy];exact V) (wQ L) g.1
  have o:RJ (Kp r w H):=z;clear C z;go_wp2;exact⟨rfl,o.out,.inr ⟨q,rfl,R.out⟩⟩
end Ec
namespace Pk
open Go.RowKit Pm
theorem BA(w:RD)(a b c:UQ):(((w.alloc a).alloc b).alloc c).heap[w.heap.size]? =Ry a:=by
 rw[Sr _ _ _ (by simp;omega),Sr _ _ _ (by simp)];exact TN w a
theorem BB(w:RD)(a b c:UQ):(((w.alloc a).alloc b).alloc c).heap[w.heap.size+1]? =Ry b:=by
 rw[Sr _ _ _ (by simp)];have:=TN (w.alloc a) b;rwa [show(w.alloc a).heap.size=w.heap.size+1 from by simp] at this
theorem BC(w:RD)(a b c:UQ):(((w.alloc a).alloc b).alloc c).heap[w.heap.size+1+1]? =Ry c:=by
 have:=TN ((w.alloc a).alloc b) c;rwa [show((w.alloc a).alloc b).heap.size=w.heap.size+1+1 from by simp] at this
end Pk
namespace Ec
open Go.RowKit Pk Pm
theorem cV{w:RD}{g:Nat}{v:RB}{t:RO}(h:w.heap[g]? =Ry (.cells #[v] t (0,0))):w.cell? ⟨g,0,RA⟩=Ry v∧w.frozen? ⟨g,0,RA⟩=RE:=by
 constructor
 ·simp[R2,h]
 ·simp[SH,h]
theorem rJ{w:RD}{g:Nat}{v:RB}(u:RB){t:RO}(h:w.heap[g]? =Ry (.cells #[v] t (0,0))):(w.setCell ⟨g,0,RA⟩ u).heap[g]? =Ry (.cells #[u] t (0,0)):=by
 rw[RZ w g 0 _ _ _ h];rfl
theorem sK(a b:Sl)(m l:RB)(u:RO)(d:RB)(c:List S1)(w:RD)(h:w.cell? a=Ry m)(i:w.frozen? a=RE)
 (f:(w.setCell a (.slice RA 0 0)).cell? b=Ry l) (g:(w.setCell a (.slice RA 0 0)).frozen? b=RE):
 CallsD (aa.of Rz) 169 #[.pointer (Ry a),.pointer (Ry b)] (.panicking ({v:=.iface u d,recovered:=RE} :: c)) w fun e k w'=>
  e= .returned (.tuple #[])∧k= .panicking ({v:=.iface u d,recovered:=RF} :: c)∧w'=(w.setCell a (.slice RA 0 0)).setCell b (.bool RE):=by
 refine callsD_of_wpS aa.func169 rfl fun o n j=>?_;apply wpS_seq;apply wpS_region;simp[wpOpsS,go_sem,recoverD,j,Tryz.ntmps169,Exit.thenS];refine wpS_cond (t:=RF) (by simp[Act.eval,SN]) ?_;simp only[if_true];apply wpS_seq;apply wpS_region;simp[wpOpsS,go_sem,Exit.thenS];apply wpS_region;simp[wpOpsS,go_sem,h,i,f,g,bodyPostS,SD,Tryz.results169]
theorem Cd(d c:Sl)(w:RD):
 CallsD (aa.of Rz) 169 #[.pointer (Ry d),.pointer (Ry c)] .returning w fun e f w'=>e= .returned (.tuple #[])∧f= .returning∧w'=w:=by
 refine callsD_of_wpS aa.func169 rfl fun a g b=>?_;apply wpS_seq;apply wpS_region;simp[wpOpsS,go_sem,recoverD,b,Tryz.ntmps169,Exit.thenS];refine wpS_cond (t:=RE) (by simp[Act.eval,SN]) ?_;simp only[Sa,if_false];refine wpS_of_wp (wp_skip ?_);cases a;simp_all [bodyPostS,SD,Tryz.results169]
theorem zw{w w4:RD}{v:RB}{d b:RO}{v2:RB}(q:Nat)(hL:w4.heap[w.heap.size]? =Ry (.cells #[v] d (0,0)))(c:w4.heap[w.heap.size+1]? =Ry (.cells #[v2] b (0,0))):
 CallsD (aa.of Rz) 169 #[.pointer (Ry ⟨w.heap.size,0,RA⟩),.pointer (Ry ⟨w.heap.size+1,0,RA⟩)] (.panicking (dV q)) w4 fun e f w'=>
  e= .returned (.tuple #[])∧f= .panicking [{v:=.iface 205 (.agg #[.int .i64 (q:Int)]),recovered:=RF}]∧w'=(w4.setCell ⟨w.heap.size,0,RA⟩ (.slice RA 0 0)).setCell ⟨w.heap.size+1,0,RA⟩ (.bool RE):=by
 have a:(w4.setCell ⟨w.heap.size,0,RA⟩ (.slice RA 0 0)).heap[w.heap.size+1]? =Ry (.cells #[v2] b (0,0)):=by
  rw[R6 _ _ _ _ (by simp)];exact c
 exact sK _ _ _ _ _ _ [] w4 (cV hL).1 (cV hL).2 (cV a).1 (cV a).2
theorem tR{w w4:RD}{v v2:RB}{b c:RO}(u1 u2:RB)(hL:w4.heap[w.heap.size]? =Ry (.cells #[v] b (0,0)))(g:w4.heap[w.heap.size+1]? =Ry (.cells #[v2] c (0,0)))(f:RQ w.heap.size w w4):
 let a:=(w4.setCell ⟨w.heap.size,0,RA⟩ u1).setCell ⟨w.heap.size+1,0,RA⟩ u2
 a.cell? ⟨w.heap.size,0,RA⟩=Ry u1∧a.cell? ⟨w.heap.size+1,0,RA⟩=Ry u2∧RQ w.heap.size w a:=by
 have d:=rJ u1 hL;have e:(w4.setCell ⟨w.heap.size,0,RA⟩ u1).heap[w.heap.size+1]? =Ry (.cells #[v2] c (0,0)):=by
  rw[R6 _ _ _ _ (by simp)];exact g
 refine⟨?_,(cV (rJ u2 e)).1,?_⟩
 ·refine(cV (t:=b) ?_).1;rw[R6 _ _ _ _ (by simp)];exact d
 ·exact(f.setCell (RG _) _).setCell (Nat.le_succ _) _
theorem FN(c1 c2 L:RB)(s:ByteArray)(w:RD)(U:s.size≤R3)(g j:Nat)(Q:Nat→List RB→Nat→Prop)(N:Prop)
 (S:∀ (k:RD) (r:Nat),RQ w.heap.size w k→r=w.heap.size+1+1→k.heap[r]? =Ry (bh s 0)→Sc (aa.of Rz) 155 #[.pointer (Ry ⟨r,0,RA⟩),c1,c2,L] k fun e w'=>Kp r k w'∧
   ((∃ v n d q,e= .returned v∧w'.heap[r]? =Ry (bh s q)∧q≤s.size∧w'.ownsRow k.heap.size g j v n d∧Q n d q)∨(∃ q,e= .panicked (dV q)∧N))):
 Sc (aa.of Rz) 163 #[.string s,.func (.func 155) #[] #[c1,c2,L]] w fun e w'=>RQ w.heap.size w w'∧
  ((∃ v n d,e= .returned (.tuple #[v,.bool RF])∧w'.ownsRow w.heap.size g j v n d∧Q n d s.size)∨(e= .returned (.tuple #[.slice RA 0 0,.bool RE])∧(N∨∃ n d q,Q n d q∧q<s.size))):=by
 have Y:RJ _:=S;clear S;have a2:∀ (M:Fn) (first a:Array RB) (w:RD),(Instr.makeFunc M first a).run (aa.of Rz) w= .ok (.func M first a) w:=fun _ _ _ _=>rfl
 go_enter_defers aa.func163,Tryz.ntmps163
 go_wp2_with (go_at_call 65;refine(mH s _).mono ?_;rintro e w' ⟨rfl,rfl⟩)
 have A:(((w.alloc (.cells #[.slice RA 0 0] 43)).alloc (.cells #[.bool RE] 4)).alloc (bh s 0)).heap[w.heap.size]? =Ry (.cells #[.slice RA 0 0] 43 (0,0)):=BA _ _ _ _;have y:(((w.alloc (.cells #[.slice RA 0 0] 43)).alloc (.cells #[.bool RE] 4)).alloc (bh s 0)).heap[w.heap.size+1]? =Ry (.cells #[.bool RE] 4 (0,0)):=BB _ _ _ _;have F:(((w.alloc (.cells #[.slice RA 0 0] 43)).alloc (.cells #[.bool RE] 4)).alloc (bh s 0)).heap[w.heap.size+1+1]? =Ry (bh s 0):=BC _ _ _ _;have R:(((w.alloc (.cells #[.slice RA 0 0] 43)).alloc (.cells #[.bool RE] 4)).alloc (bh s 0)).heap.size=w.heap.size+3:=by simp
 have t:RQ w.heap.size w (((w.alloc (.cells #[.slice RA 0 0] 43)).alloc (.cells #[.bool RE] 4)).alloc (bh s 0)):=(((R5 _ _).alloc (RG _) _).alloc (by simp) _).alloc (by simp;omega) _;generalize (((w.alloc (.cells #[.slice RA 0 0] 43)).alloc (.cells #[.bool RE] 4)).alloc (bh s 0))=D at*;refine(Y.out D (w.heap.size+1+1) t rfl F).mono ?_;rintro e c ⟨f,⟨v,n,d,q,rfl,P,a3,u,O⟩|⟨q,rfl,ab⟩⟩
 ·have i:c.heap[w.heap.size]? =Ry (.cells #[.slice RA 0 0] 43 (0,0)):=Kp.block f A (by omega);have h:c.heap[w.heap.size+1]? =Ry (.cells #[.bool RE] 4 (0,0)):=Kp.block f y (by omega);have x:RQ w.heap.size w c:=t.trans ((f.below (by omega)).mono (by omega));have V:v.ownBlock≠Ry w.heap.size∧v.ownBlock≠Ry (w.heap.size+1):=⟨fun e=>by have:=(u.lt _ e).1;omega,fun e=>by have:=(u.lt _ e).1;omega⟩;obtain⟨b,a,am⟩:=tc u;subst am;have Z:RJ (c.ownsRow w.heap.size g j (.slice b n a) n d):=bz u (by omega);have C:RJ _:=V;have J:RJ (Q n d q):=O;obtain⟨aw,a1⟩:=cV i;obtain⟨ar,a0⟩:=cV h;have I:RJ _:=i;have H:RJ _:=h;have G:RJ _:=x;have K:RJ (c.heap[w.heap.size+1+1]? =Ry (bh s q)):=P;clear A y F R t i h f P u O x V;clear D;by_cases T:q<s.size
  ·go_wp2_with (go_at_call 93;refine(AM (w.heap.size+1+1) q s _ U T (by rw[R6 _ _ _ _ (by simp;omega)];exact K.out)).mono ?_;rintro e w' ⟨rfl,m,rfl⟩)
   have B:((c.setCell ⟨w.heap.size,0,RA⟩ (.slice b n a)).drewN m).heap[w.heap.size]? =Ry (.cells #[.slice b n a] 43 (0,0)):=rJ _ I.out;have z:((c.setCell ⟨w.heap.size,0,RA⟩ (.slice b n a)).drewN m).heap[w.heap.size+1]? =Ry (.cells #[.bool RE] 4 (0,0)):=by
    show(c.setCell ⟨w.heap.size,0,RA⟩ (.slice b n a)).heap[w.heap.size+1]? =_;rw[R6 _ _ _ _ (by simp)];exact H.out
   have E:=below_drewN (G.out.setCell (p:=⟨w.heap.size,0,RA⟩) (RG _) (.slice b n a)) m;generalize (c.setCell ⟨w.heap.size,0,RA⟩ (.slice b n a)).drewN m=a4 at*;obtain⟨l,o,p⟩:=tR (.slice RA 0 0) (.bool RE) B z E;refine leaves_cons (f:=169) (args:= #[.pointer (Ry ⟨w.heap.size,0,RA⟩),.pointer (Ry ⟨w.heap.size+1,0,RA⟩)]) (by simp) (by simp[go_sem]) ?_;refine(zw _ B z).mono ?_;rintro e W X ⟨rfl,rfl,rfl⟩;simp[Leaves,settle,SD,Tryz.results163,go_sem,l,o];exact⟨p,.inr ⟨n,d,q,J.out,T⟩⟩
  ·obtain rfl:q=s.size:=by omega
   go_wp2_with (go_at_call 93;refine(EA (w.heap.size+1+1) s.size s _ U (by omega) (by rw[R6 _ _ _ _ (by simp;omega)];exact K.out)).mono ?_;rintro e w' ⟨rfl,m,rfl⟩)
   have B:((c.setCell ⟨w.heap.size,0,RA⟩ (.slice b n a)).drewN m).heap[w.heap.size]? =Ry (.cells #[.slice b n a] 43 (0,0)):=rJ _ I.out;have z:((c.setCell ⟨w.heap.size,0,RA⟩ (.slice b n a)).drewN m).heap[w.heap.size+1]? =Ry (.cells #[.bool RE] 4 (0,0)):=by
    show(c.setCell ⟨w.heap.size,0,RA⟩ (.slice b n a)).heap[w.heap.size+1]? =_;rw[R6 _ _ _ _ (by simp)];exact H.out
   have E:=below_drewN (G.out.setCell (p:=⟨w.heap.size,0,RA⟩) (RG _) (.slice b n a)) m;have ad:((c.setCell ⟨w.heap.size,0,RA⟩ (.slice b n a)).drewN m).ownsRow w.heap.size g j (.slice b n a) n d:=qy (ownsRow_setCell_other Z.out C.out.1 _) m;have ae:(((c.setCell ⟨w.heap.size,0,RA⟩ (.slice b n a)).drewN m).setCell ⟨w.heap.size,0,RA⟩ (.slice b n a)).ownsRow w.heap.size g j (.slice b n a) n d:=ownsRow_setCell_other ad C.out.1 _;have al:((((c.setCell ⟨w.heap.size,0,RA⟩ (.slice b n a)).drewN m).setCell ⟨w.heap.size,0,RA⟩ (.slice b n a)).setCell ⟨w.heap.size+1,0,RA⟩ (.bool RF)).ownsRow w.heap.size g j (.slice b n a) n d:=ownsRow_setCell_other ae C.out.2 _;obtain⟨l,o,p⟩:=tR (.slice b n a) (.bool RF) B z E;generalize (((c.setCell ⟨w.heap.size,0,RA⟩ (.slice b n a)).drewN m).setCell ⟨w.heap.size,0,RA⟩ (.slice b n a)).setCell ⟨w.heap.size+1,0,RA⟩ (.bool RF)=ao at*;refine leaves_cons (f:=169) (args:= #[.pointer (Ry ⟨w.heap.size,0,RA⟩),.pointer (Ry ⟨w.heap.size+1,0,RA⟩)]) (by simp) (by simp[go_sem]) ?_;refine(Cd ⟨w.heap.size,0,RA⟩ ⟨w.heap.size+1,0,RA⟩ _).mono ?_;rintro e W X ⟨rfl,rfl,rfl⟩;simp[Leaves,settle,SD,Tryz.results163,go_sem,l,o];exact⟨p,n,d,al,J.out⟩
 ·have i:c.heap[w.heap.size]? =Ry (.cells #[.slice RA 0 0] 43 (0,0)):=Kp.block f A (by omega);have h:c.heap[w.heap.size+1]? =Ry (.cells #[.bool RE] 4 (0,0)):=Kp.block f y (by omega);have x:RQ w.heap.size w c:=t.trans ((f.below (by omega)).mono (by omega));clear A y F R t f;clear D;obtain⟨l,o,p⟩:=tR (.slice RA 0 0) (.bool RE) i h x;refine leaves_cons (f:=169) (args:= #[.pointer (Ry ⟨w.heap.size,0,RA⟩),.pointer (Ry ⟨w.heap.size+1,0,RA⟩)]) (by simp) (by simp[go_sem]) ?_;refine(zw _ i h).mono ?_;rintro e W X ⟨rfl,rfl,rfl⟩;simp[Leaves,settle,SD,Tryz.results163,go_sem,l,o];exact⟨p,.inl ab⟩
theorem Cp(k e:Int)(M:bf k e=RF)(s:ByteArray)(r cn x y z:Nat)(w:RD)(N:s.size≤R3)(K:cn≤100)(h:w.heap[r]? =Ry (bh s 0))
 (u:w.cell? ⟨x,0,RA⟩=Ry (.int .i64 k)) (A:w.cell? ⟨y,0,RA⟩=Ry (.int .i64 e)) (B:w.cell? ⟨z,0,RA⟩=Ry (.int .i64 cn)):
 Sc (aa.of Rz) 155 #[.pointer (Ry ⟨r,0,RA⟩),.pointer (Ry ⟨x,0,RA⟩),.pointer (Ry ⟨y,0,RA⟩),.pointer (Ry ⟨z,0,RA⟩)] w fun f w'=>Kp r w w'∧
  ((∃ v n C q,f= .returned v∧w'.heap[r]? =Ry (bh s q)∧q≤s.size∧w'.ownsRow w.heap.size 59 3 v n C∧
    (∃ l:List aD,n=cn∧l.length=cn∧C=aE l∧q=(aZ k e l).length∧(∀ x∈l,VC k x)∧ag (bytesOf s) 0 (aZ k e l)∧∀ L:List aD,L.length=cn→(∀ x∈L,VC k x)→ag (bytesOf s) 0 (aZ k e L)→L=l))∨
   (∃ q,f= .panicked (dV q)∧∀ L:List aD,L.length=cn→(∀ x∈L,VC k x)→¬ ag (bytesOf s) 0 (aZ k e L))):=by
 have G:RJ (w.heap[r]? =Ry (bh s 0)):=h;clear h;go_enter aa.func155,Tryz.ntmps155
 go_wp2_with fail
 refine(xy k e M s r 0 cn _ N K (Sk _) G.out).mono ?_;rintro f b ⟨a,⟨l,v,rfl,i,m,p,t,O,g,o⟩|⟨q,rfl,j⟩⟩
 ·have c:RJ (Kp r w b):=a;have d:RJ (l.length=cn):=i;have F:RJ (∀ x∈l,VC k x):=m;have I:RJ (ag (bytesOf s) 0 (aZ k e l)):=p;have J:RJ (∀ L:List aD,L.length=cn→(∀ x∈L,VC k x)→ag (bytesOf s) 0 (aZ k e L)→L=l):=t;have H:RJ (b.heap[r]? =Ry (bh s (0+(aZ k e l).length))):=g;have E:RJ (b.ownsRow w.heap.size 59 3 v l.length (aE l)):=o;clear a i m p t g o u A B;go_wp2;go_ret;refine⟨c.out,.inl ⟨v,cn,aE l,(aZ k e l).length,rfl,by simpa using H.out,by omega,by rw[← d.out];exact E.out,l,rfl,d.out,rfl,rfl,F.out,I.out,J.out⟩⟩
 ·have c:RJ (Kp r w b):=a;have D:RJ _:=j;clear a j u A B;go_wp2;exact⟨rfl,c.out,.inr ⟨q,rfl,D.out⟩⟩
theorem xC(c1 c2 h:RB)(s:ByteArray)(w:RD)(u:s.size≤R3)(c f:Nat)(Q:Nat→List RB→Nat→Prop)(N:Prop)
 (k:∀ (b:RD) (r:Nat),RQ w.heap.size w b→r=w.heap.size+1+1→b.heap[r]? =Ry (bh s 0)→Sc (aa.of Rz) 155 #[.pointer (Ry ⟨r,0,RA⟩),c1,c2,h] b fun e w'=>Kp r b w'∧
   ((∃ v n a q,e= .returned v∧w'.heap[r]? =Ry (bh s q)∧q≤s.size∧w'.ownsRow b.heap.size c f v n a∧Q n a q)∨(∃ q,e= .panicked (dV q)∧N))):
 Sc (aa.of Rz) 154 #[.string s,.func (.func 155) #[] #[c1,c2,h]] w fun e w'=>RQ w.heap.size w w'∧
  ((∃ v n a,e= .returned (.tuple #[v,.int .i64 0])∧w'.ownsRow w.heap.size c f v n a∧Q n a s.size)∨(e= .returned (.tuple #[.slice RA 0 0,.int .i64 3])∧(N∨∃ n a q,Q n a q∧q<s.size))):=by
 have m:RJ _:=k;clear k;go_enter aa.func154,Tryz.ntmps154
 go_wp2_with fail
 refine(FN c1 c2 h s w u c f Q N m.out).mono ?_;rintro e x ⟨d,⟨v,n,a,rfl,l,j⟩|⟨rfl,i⟩⟩
 ·have g:RJ _:=d;have p:RJ (x.ownsRow w.heap.size c f v n a):=l;have t:RJ (Q n a s.size):=j;clear d l j;go_wp2
  go_ret2
  exact⟨g.out,.inl ⟨v,n,a,rfl,p.out,t.out⟩⟩
 ·have g:RJ _:=d;have o:RJ _:=i;clear d i;go_wp2
  go_ret2
  exact⟨g.out,.inr ⟨rfl,o.out⟩⟩
structure ri(s:ByteArray)(k e:Int)(cn:Nat)(l:List aD):Prop where
 len:l.length=cn
 ok:∀ x∈l,VC k x
 eq:aZ k e l=bytesOf s
 GF:∀ L:List aD,L.length=cn→(∀ x∈L,VC k x)→ag (bytesOf s) 0 (aZ k e L)→L=l
def vG (s:ByteArray)(k e:Int)(cn:Nat):Prop:=∀ a:List aD,a.length=cn→(∀ b∈a,VC k b)→aZ k e a≠bytesOf s
theorem G6(cn k e:Int):iv cn k e≠0∨(iv cn k e=0∧bf k e=RF∧∃ c:Nat,cn=(c:Int)∧c≤100):=by
 unfold iv;by_cases a:cn<0∨100<cn
 ·left;rw[if_pos a];omega
 ·rw[if_neg a];cases b:bf k e with
  |false=>left;simp
  |true=>right;exact⟨by simp,rfl,cn.toNat,by omega,by omega⟩
theorem OI(w:RD)(a b c:UQ):(((w.alloc a).alloc b).alloc c).heap.size=w.heap.size+3:=by simp
theorem oA(s:ByteArray)(k e cn:Int)(w:RD)(N:s.size≤R3):
 Sc (aa.of Rz) 139 #[.string s,.int .i64 k,.int .i64 e,.int .i64 cn] w fun f w'=>RQ w.heap.size w w'∧
  ((iv cn k e≠0∧f= .returned (.tuple #[.slice RA 0 0,.int .i64 (iv cn k e)]))∨
   (∃ c:Nat,cn=(c:Int)∧c≤100∧iv cn k e=0∧bf k e=RF∧((∃ v l,f= .returned (.tuple #[v,.int .i64 0])∧w'.ownsRow w.heap.size 59 3 v l.length (aE l)∧ri s k e c l)∨(f= .returned (.tuple #[.slice RA 0 0,.int .i64 3])∧vG s k e c)))):=by
 have K:RQ w.heap.size w (((w.alloc (.cells #[.int .i64 k] 3)).alloc (.cells #[.int .i64 e] 3)).alloc (.cells #[.int .i64 cn] 3)):=(((R5 _ _).alloc (RG _) _).alloc (by simp) _).alloc (by simp;omega) _;have p:RJ _:=K;have n:=n5 cn k e;have al:∀ (J:Fn) (first I:Array RB) (w:RD),(Instr.makeFunc J first I).run (aa.of Rz) w= .ok (.func J first I) w:=fun _ _ _ _=>rfl;clear K;rcases G6 cn k e with O|⟨t,M,c,rfl,u⟩
 ·generalize iv cn k e=U at*;have ad:(U != 0)=RF:=by simpa using O
  go_enter aa.func139,Tryz.ntmps139
  go_wp2_with (go_at_call 123;refine(n _).mono ?_;rintro B w' ⟨rfl,rfl⟩)
  go_ret2
  exact⟨p.out,.inl ⟨O,rfl⟩⟩
 ·rw[t] at n;have F:=(cV (BA w (.cells #[.int .i64 k] 3 (0,0)) (.cells #[.int .i64 e] 3 (0,0)) (.cells #[.int .i64 (c:Int)] 3 (0,0)))).1;have G:=(cV (BB w (.cells #[.int .i64 k] 3 (0,0)) (.cells #[.int .i64 e] 3 (0,0)) (.cells #[.int .i64 (c:Int)] 3 (0,0)))).1;have H:=(cV (BC w (.cells #[.int .i64 k] 3 (0,0)) (.cells #[.int .i64 e] 3 (0,0)) (.cells #[.int .i64 (c:Int)] 3 (0,0)))).1;have A:=OI w (.cells #[.int .i64 k] 3) (.cells #[.int .i64 e] 3) (.cells #[.int .i64 (c:Int)] 3);have R:RJ _:=F;have S:RJ _:=G;have T:RJ _:=H;have W:RJ _:=A;have E:RJ (iv (c:Int) k e=0):=t;have r:RJ (bf k e=RF):=M;clear F G H A t M;go_enter aa.func139,Tryz.ntmps139
  go_wp2_with (go_at_call 123;refine(n _).mono ?_;rintro B w' ⟨rfl,rfl⟩)
  generalize (((w.alloc (.cells #[.int .i64 k] 3)).alloc (.cells #[.int .i64 e] 3)).alloc (.cells #[.int .i64 (c:Int)] 3))=X at*;have A:=W.out;refine(xC (.pointer (Ry ⟨w.heap.size,0,RA⟩)) (.pointer (Ry ⟨w.heap.size+1,0,RA⟩)) (.pointer (Ry ⟨w.heap.size+1+1,0,RA⟩)) s X N 59 3
   (fun g D Q=>∃ l:List aD,g=c∧l.length=c∧D=aE l∧Q=(aZ k e l).length∧(∀ h∈l,VC k h)∧ag (bytesOf s) 0 (aZ k e l)∧∀ a:List aD,a.length=c→(∀ h∈a,VC k h)→ag (bytesOf s) 0 (aZ k e a)→a=l)
   (∀ a:List aD,a.length=c→(∀ h∈a,VC k h)→¬ ag (bytesOf s) 0 (aZ k e a))
   (fun Y B b ao ab=>Cp k e r.out s B c _ _ _ Y N u ab ((b.cell (p:=⟨w.heap.size,0,RA⟩) (by show w.heap.size<_;omega)).trans R.out) ((b.cell (p:=⟨w.heap.size+1,0,RA⟩) (by show w.heap.size+1<_;omega)).trans S.out) ((b.cell (p:=⟨w.heap.size+1+1,0,RA⟩) (by show w.heap.size+1+1<_;omega)).trans T.out))).mono ?_
  rintro f C ⟨b,⟨v,g,D,rfl,P,l,rfl,j,rfl,y,d,z,m⟩|⟨rfl,i⟩⟩
  ·have o:RJ (RQ w.heap.size w C):=p.out.trans (b.mono (by omega));have V:RJ (C.ownsRow w.heap.size 59 3 v l.length (aE l)):=by rw[j];exact bz P (by omega)
   have q:RJ (ri s k e g l):=⟨j,d,By z (by rw[ai];omega),m⟩;clear b P y d z m j;go_wp2
   go_ret2
   exact⟨o.out,.inr ⟨g,rfl,u,E.out,r.out,.inl ⟨v,l,rfl,V.out,q.out⟩⟩⟩
  ·have o:RJ (RQ w.heap.size w C):=p.out.trans (b.mono (by omega));have q:RJ (vG s k e c):=by
    intro a L d x;rcases i with i|⟨g,D,Q,⟨l,rfl,j,rfl,y,am,z,m⟩,ae⟩
    ·exact i a L d (eu x)
    ·have Z:=m a L d (eu x);subst Z;rw[x,ai] at y;omega
   clear b i;go_wp2
   go_ret2
   exact⟨o.out,.inr ⟨c,rfl,u,E.out,r.out,.inr ⟨rfl,q.out⟩⟩⟩
theorem jV(n:Nat):∀ x∈aA n,x<256:=Mg 10 n
theorem Df(f:Nat)(l:List Int):∀ x∈fU f l,x<256:=by
 induction f generalizing l with
 |zero=>simp[fU]
 |succ f c=>
  cases l with
  |nil=>simp[fU]
  |cons e d=>
   intro x b;simp only[fU] at b;rcases SM.1 b with a|a
   ·exact jV _ x a
   ·rcases SM.1 a with a|a
    ·simp at a;rw[a];exact mS _
    ·exact c _ x a
theorem td(k:Int)(v:aD):∀ x∈aR k v,x<256:=by
 intro x a;unfold aR at a
 split at a
 ·exact jV _ x a
 ·split at a
  ·simp at a;rw[a];exact mS _
  ·rcases SM.1 a with b|b
   ·exact jV _ x b
   ·exact iH _ x b
theorem xg(k:Int)(l:List aD):∀ x∈aH k l,x<256:=by
 intro x a;unfold aH at a;obtain⟨v,_,b⟩:=List.mem_flatMap.1 a;exact td k v x b
theorem Hj(a:Int)(l:List aD):∀ x∈bp a l,x<256:=by
 induction l generalizing a with
 |nil=>simp[bp]
 |cons f e d=>
  intro x c;simp only[bp] at c;rcases SM.1 c with b|b
  ·exact jV _ x b
  ·exact d _ x b
theorem Er(k e:Int)(l:List aD):∀ x∈aZ k e l,x<256:=by
 intro x b;unfold aZ at b;rcases SM.1 b with a|a
 ·exact Df _ _ x a
 ·unfold cU at a
  split at a
  ·exact Hj _ _ x a
  ·split at a
   ·unfold dQ at a;rcases SM.1 a with a|a
    ·exact jV _ x a
    ·rcases SM.1 a with a|a
     ·exact xg _ _ x a
     ·exact rM _ _ x a
   ·split at a
    ·exact Df _ _ x a
    ·exact xg _ _ x a
theorem CK{cs:List bO}(h:fD cs):∀ c∈cs,c.name.size≤16:=by
 intro c a;obtain⟨d,b,rfl⟩:=To a;have:=(h.2.2 d b).1;simp[n6] at this;omega
theorem JW{P:aD→Prop}{b:kL}{v:aD}(h1:P b.least)(a:P b.most)(c:P v):P (mh b v).least∧P (mh b v).most:=by
 unfold mh
 split
 ·exact⟨h1,a⟩
 ·dsimp only;constructor<;>split<;>assumption
theorem Eh{P:aD→Prop}(d:P ⟨RE,0,⟨#[]⟩⟩)(l:List aD)(h:∀ x∈l,P x):P (bQ l).least∧P (bQ l).most:=by
 have:∀ (l:List aD) (a:kL),P a.least→P a.most→(∀ x∈l,P x)→P (l.foldl mh a).least∧P (l.foldl mh a).most:=by
  intro l
  induction l with
  |nil=>intro a b c _;exact⟨b,c⟩
  |cons x j g=>
   intro a b c h;rw[List.foldl_cons];have e:=JW b c (h x (by simp));exact g _ e.1 e.2 (fun i f=>h i (by simp[f]))
 exact this l bZ d d h
theorem yu:mN ⟨RE,0,⟨#[]⟩⟩:=⟨by decide,by decide,by decide⟩
theorem IU{l:List Int}(h:0<l.length):0<(bF l).length:=by
 cases l with
 |nil=>simp at h
 |cons b a=>
  unfold bF fU;simp;omega
theorem Ch{k e:Int}{l:List aD}(h:0<l.length):0<(aZ k e l).length:=by
 unfold aZ;rw[RI];have:=IU (l:=l.map mo) (by simpa using h);omega
theorem Ep{k e:Int}{l:List aD}(h:∀ x∈l,mN x)(a:l.length≤100):(aZ k e l).length≤110000:=by
 unfold aZ;rw[RI];have c:=nK (l.map mo) (by simpa using a);have d:=yL k e (there l) (fun x b=>h x (Ai b)) (by have:=nS l;omega);omega
structure qj(cs:List bO)(rows:List (List aD))(es:List Int)(bd:Nat):Prop where
 table:fF cs rows
 mF:kB cs es
 lo:1≤bd
 hi:bd≤100
 vals:∀ r∈rows,∀ x∈r,D5 x
theorem qj.len{cs:List bO}{a:List (List aD)}{es:List Int}{b:Nat}(h:qj cs a es b):∀ r∈a,r.length=cs.length:=by
 intro r d;obtain⟨e,c,rfl⟩:=To d;exact(h.table.2.2 e c).1
theorem Cm{a:List (List aD)}{b j:Nat}{r:List aD}(h:r∈dI a b j):r∈a:=List.mem_of_mem_drop (Uc h)
theorem qj.col{cs:List bO}{k:List (List aD)}{es:List Int}{c:Nat}(h:qj cs k es c)(j p:Nat)(e:p<cs.length):∀ x∈bJ (dI k c j) p,eU x cs[p].kind=RF∧mN x:=by
 intro x g;unfold bJ at g;obtain⟨i,m,rfl⟩:=S5.1 g;have f:=Cm m;obtain⟨o,l,n⟩:=To f;have b:=h.table.2.2 o l;rw[n] at b;have a:p<i.length:=by rw[b.1];exact e
 have d:=b.2 p a e;rw[RX,RS a];exact⟨d,yt (h.vals i f _ (RV a)) d⟩
theorem qj.cut{cs:List bO}{b:List (List aD)}{es:List Int}{a:Nat}(h:qj cs b es a)(j p:Nat):(bJ (dI b a j) p).length≤100:=by
 rw[iW,gC];have:=h.hi;omega
theorem qj.Hr{cs:List bO}{b:List (List aD)}{es:List Int}{a:Nat}(h:qj cs b es a):es.length=cs.length:=h.mF.1.symm
theorem qj.lF{cs:List bO}{c:List (List aD)}{es:List Int}{a:Nat}(h:qj cs c es a)(d:Bool)(j p:Nat)(b:p<cs.length):
 Cf (dI c a j) cs es d p=⟨strOf (aZ cs[p].kind (es.getD p 0) (bJ (dI c a j) p)),if d then bQ (bJ (dI c a j) p) else bZ⟩:=by
 rw[F0 b (by rw[h.Hr];exact b)];have e:=h.col j p b;rw[Ko (by have:=h.cut j p;omega) (h.mF.2 p b) (fun g f=>(e _ (RV f)).1)]
theorem qj.chunks{cs:List bO}{d:List (List aD)}{es:List Int}{a:Nat}(h:qj cs d es a)(e:Bool)(j:Nat):∀ c∈cE (dI d a j) cs es e cs.length,c.text.size≤110000∧mN c.dU.least∧mN c.dU.most∧(j*a<d.length→0<c.text.size):=by
 intro c k;unfold cE at k;obtain⟨b,f,rfl⟩:=S5.1 k;have f:=Tg.1 f;rw[h.lF e j b f];have l:∀ g∈bJ (dI d a j) b,mN g:=fun g n=>(h.col j b f g n).2;have m:=Eh yu _ l;have i:mN (if e=RF then bQ (bJ (dI d a j) b) else bZ).least∧mN (if e=RF then bQ (bJ (dI d a j) b) else bZ).most:=by
  cases e
  ·exact⟨yu,yu⟩
  ·exact m
 refine⟨?_,i.1,i.2,fun o=>?_⟩
 ·show(strOf _).size≤_;rw[lW];exact Ep l (h.cut j b)
 ·show 0<(strOf _).size;rw[lW];refine Ch ?_;rw[iW,gC];have:=h.lo;omega
theorem qj.QR{cs:List bO}{e:List (List aD)}{es:List Int}{c:Nat}(h:qj cs e es c)(f:Bool)(j:Nat):vE cs.length (mg (dI e c j) cs es f):=by
 have d:=h.chunks f j;refine⟨?_,dn _ _ _ _ _,fun a b=>?_,fun a b=>(d a b).2.1,fun a b=>(d a b).2.2.1⟩
 ·show(dI e c j).length<_;rw[gC];have:=h.hi;omega
 ·have:=(d a b).1;omega
theorem qj.nb{cs:List bO}{b:List (List aD)}{es:List Int}{a:Nat}(h:qj cs b es a):eY b.length a≤2000:=by
 have d:=h.table.2.1;have e:=h.lo;unfold eY;have:=Nat.div_le_self (b.length+a - 1) a;rcases Ts a 2 with c|c
 ·have:a=1:=by omega
  subst this;simp;omega
 ·have f:=Nat.div_mul_le_self (b.length+a - 1) a;have g:(b.length+a - 1) / a*2≤(b.length+a - 1) / a*a:=Uz _ c;have:=h.hi;omega
theorem qj.bU{cs:List bO}{e:List (List aD)}{es:List Int}{a:Nat}(h:qj cs e es a)(c:Bool)(n:Nat):∀ b∈dh e cs es c a n,vE cs.length b:=by
 intro b d;unfold dh at d;obtain⟨f,-,rfl⟩:=S5.1 d;exact h.QR c f
theorem qj.pos{cs:List bO}{d:List (List aD)}{es:List Int}{a:Nat}(h:qj cs d es a)(e:Bool):∀ b∈dh d cs es e a (eY d.length a),∀ c∈b.chunks,0<c.text.size:=by
 intro b f c i;unfold dh at f;obtain⟨g,j,rfl⟩:=S5.1 f;exact(h.chunks e g c i).2.2.2 ((oz h.lo g).2 (Tg.1 j))
theorem qj.body{cs:List bO}{b:List (List aD)}{es:List Int}{a:Nat}(h:qj cs b es a)(c:Bool):(bC (dh b cs es c a (eY b.length a))).length≤10000000000:=by
 have i:=rC (fun f:Bd=>bN f.chunks) 880000 (dh b cs es c a (eY b.length a)) (fun f g=>by
  unfold dh at g;obtain⟨d,-,rfl⟩:=S5.1 g;have j:=rC (fun e:ju=>bytesOf e.text) 110000 (cE (dI b a d) cs es c cs.length) (fun e k=>by rw[ai];exact(h.chunks c d e k).1);have l:=h.table.1.2.1;rw[dn] at j;show(List.flatMap _ _).length≤_;have:(mg (dI b a d) cs es c).chunks=cE (dI b a d) cs es c cs.length:=rfl;rw[this];omega)
 have m:=h.nb;rw[mD] at i;show(List.flatMap _ _).length≤_;omega
def jw (cs:List bO)(b:List (List aD))(es:List Int)(c:Bool)(a:Nat):List Nat:=ua cs es (dh b cs es c a (eY b.length a))
def JK (cs:List bO)(a:List (List aD))(b:Int)(es:List Int)(c:Bool)(s:ByteArray)(n:Int):Prop:=
 (¬ fF cs a∧s=⟨#[]⟩∧n=1)∨(fF cs a∧¬ kF b es cs∧s=⟨#[]⟩∧n=2)∨
 (fF cs a∧kF b es cs∧65536<(jw cs a es c b.toNat).length∧s=⟨#[]⟩∧n=6)∨
 (fF cs a∧kF b es cs∧¬ 65536<(jw cs a es c b.toNat).length∧s=strOf (jw cs a es c b.toNat)∧n=0)
end Ec
namespace Ec
open Go.RowKit Pk
theorem tA{w:RD}{g:Nat}{C:Array RB}{t:RO}(h:w.heap[g]? =Ry (.cells C t (0,0))):w.rangeAt g 0 C.toList:=by
 intro b v a;rw[SA];simp only[R2,h];simpa using a
theorem z4{w:RD}{g:Nat}{C:Array RB}{t:RO}(h:w.heap[g]? =Ry (.cells C t (0,0))):w.there g 0 C.size:=by
 intro b a;rw[SA];refine⟨?_,?_⟩
 ·simp[R2,h,a]
 ·simp[SH,h]
theorem lA{g k:Nat}(h:k≠g):∀ (vs:List RB) (o:Nat) (w:RD),(w.setCells g o vs).heap[k]? =w.heap[k]?
 | [],_,_=>rfl
 |v :: a,o,w=>by
  rw[World.setCells,lA h a (o+1)];exact R6 _ _ _ _ (by simpa using h)
theorem zN{P:RM}{fn:Uj}{R:Uw→RD→Prop}{a:TZ}{w:RD}{p:Tmp}{ty:RO}{g:Nat}{cs:List RB}{d:TypeDesc}(k:fn.results=#[.cell p ty])(c:a.defers=[])
 (i:a.tmps.getD p SP= .pointer (Ry ⟨g,0,RA⟩)) (hc:w.rangeAt g 0 cs) (l:P.underlying ty=Ry d) (e:d.isRow=RF) (f:(P.info? ty).map (·.size)=Ry cs.length) (h:R (.returned (.agg cs.toArray)) w):TV P fn R .ret a w:=by
 refine bodyPost_ret (v:=.agg cs.toArray) ?_ c h;have b:=run_loadVar_mid w g 0 ty cs d hc l e f;have j:a.tmps[p]?.getD SP= .pointer (Ry ⟨g,0,RA⟩):=by simpa using i
 simp[SD,k,j,asAddr,Ue,Result.andThen,b]
end Ec
namespace Ec
open Go.RowKit Pk Pm
def Jz (k:Int)(b:kL):Prop:=b=bZ∨(b.there=RF∧VK k b.least∧VK k b.most∧¬ 0<iN b.least b.most)
def ax (b:kL):Array RB:= #[.bool b.there,.bool b.least.null,.int .i64 b.least.n,.string b.least.s,.bool b.most.null,.int .i64 b.most.n,.string b.most.s]
theorem Kp.Pd{r g:Nat}{w:RD}(c:w.heap.size≤g):∀ (vs:List RB) (o:Nat) (a:RD),Kp r w a→Kp r w (a.setCells g o vs)
 | [],_,_,b=>b
 |v :: e,o,a,b=>Kp.Pd c e (o+1) _ (b.grown (aJ a g o v) (fun f d=>by cases d;exact c))
theorem Dl{w:RD}{g:Nat}{b:kL}{t:RO}(h:w.heap[g]? =Ry (.cells (ax b) t (0,0))):(w.cell? ⟨g,0,RA⟩=Ry (.bool b.there)∧w.cell? ⟨g,1,RA⟩=Ry (.bool b.least.null)∧w.cell? ⟨g,2,RA⟩=Ry (.int .i64 b.least.n)∧w.cell? ⟨g,3,RA⟩=Ry (.string b.least.s)∧w.cell? ⟨g,4,RA⟩=Ry (.bool b.most.null)∧w.cell? ⟨g,5,RA⟩=Ry (.int .i64 b.most.n)∧w.cell? ⟨g,6,RA⟩=Ry (.string b.most.s))∧∀ j,w.frozen? ⟨g,j,RA⟩=RE:=by
 unfold ax at h;refine⟨⟨?_,?_,?_,?_,?_,?_,?_⟩,fun j=>by simp[SH,h]⟩<;>simp[R2,h]
def FV (w:RD)(r p:Nat)(s:ByteArray)(k:Int)(e:Uw)(w':RD):Prop:=
 Kp r w w'∧((∃ a:kL,e= .returned (Ei a)∧Jz k a∧ag (bytesOf s) p (bL k a)∧p+(bL k a).length≤s.size∧w'.heap[r]? =Ry (bh s (p+(bL k a).length)))∨
  (∃ b,e= .panicked (dV b)∧∀ a:kL,Jz k a→¬ ag (bytesOf s) p (bL k a)))
theorem xx(k:Int)(K:k=1∨k=2∨k=3)(r p:Nat)(s:ByteArray)(w:RD)(bb:s.size≤R3)(bc:p≤s.size)(h:w.heap[r]? =Ry (bh s p)):
 Sc (aa.of Rz) 131 #[.pointer (Ry ⟨r,0,RA⟩),.int .i64 k] w (FV w r p s k):=by
 have db:r<w.heap.size:=RP h;have bs:RJ ((w.alloc (.cells (ax bZ) 141)).heap[r]? =Ry (bh s p)):=by
  show _=_;rw[Sr _ _ r db];exact h
 have ao:RJ (Kp r w (w.alloc (.cells (ax bZ) 141))):=(Kp.refl r w).alloc _;have df:RJ (∀ p,p≤s.size→∀ be,ag (bytesOf s) p be→p+be.length≤s.size):=fun p bc be d=>by have:=fP d (by rw[ai];exact bc);rwa [ai] at this
 clear h;go_enter aa.func131,Tryz.ntmps131
 go_wp2_with fail
 refine(Az r p s _ bb bc bs.out).mono ?_;rintro i A ⟨H,⟨dc,rfl,g,cb,b1,b3⟩|⟨x,rfl,t⟩⟩;rotate_left
 ·have y:RJ (∀ e:kL,Jz k e→¬ ag (bytesOf s) p (bL k e)):=fun e g d=>by
   rcases g with rfl|⟨u,-⟩
   ·exact t 0 (.inl rfl) d
   ·unfold bL at d;rw[if_pos u] at d;exact t 1 (.inr rfl) (ap.1 d).1
  have B:RJ (Kp r w A):=ao.out.trans H;clear t H;go_wp2;exact⟨rfl,B.out,.inr ⟨x,rfl,y.out⟩⟩
 ·have B:RJ (Kp r w A):=ao.out.trans H;have S:RJ (A.heap[w.heap.size]? =Ry (.cells (ax bZ) 141 (0,0))):=Kp.block H (TN w _) (by omega);have ar:RJ (A.heap[r]? =Ry (bh s (p+1))):=b1;have a0:RJ (ag (bytesOf s) p [dc.toNat]):=cb;clear cb b1 H bs ao;rcases g with rfl|rfl
  ·have cn:RJ (A.there w.heap.size 0 (ax bZ).size):=z4 S.out;have a3:RJ ((A.setCells w.heap.size 0 (ax bZ).toList).rangeAt w.heap.size 0 (ax bZ).toList):=World.rangeAt_setCells_same _ _ _ _ cn.out;obtain⟨⟨co,cp,cs,cu,cv,cx,cR⟩,j⟩:=Dl S.out;have c0:=j 0;have c1:=j 1;have c2:=j 2;have c3:=j 3;have c4:=j 4;have c5:=j 5;have c6:=j 6;have al:RJ (FV w r p s k (.returned (.agg (ax bZ).toList.toArray)) (A.setCells w.heap.size 0 (ax bZ).toList)):=⟨Kp.Pd (RG _) _ _ _ B.out,.inl ⟨bZ,rfl,.inl rfl,a0.out,b3,(lA (by omega) _ _ _).trans ar.out⟩⟩;go_wp2;exact zN Tryz.results131 rfl rfl a3.out aa.underlying141 rfl (by kernel_rfl) al.out
  ·have W:RJ (ag (bytesOf s) p [1]):=a0.out;clear a0
   go_upto_region 3 with fail
   have bo:RJ (∀ c,c.heap[r]? =Ry (bh s (p+1))→Sc (aa.of Rz) 153 #[.pointer (Ry ⟨r,0,RA⟩),.int .i64 k] c fun i o=>Kp r c o∧((∃ v:aD,i= .returned (.agg #[.bool v.null,.int .i64 v.n,.string v.s])∧VK k v∧ag (bytesOf s) (p+1) (aR k v)∧p+1+(aR k v).length≤s.size∧o.heap[r]? =Ry (bh s (p+1+(aR k v).length)))∨(∃ x,i= .panicked (dV x)∧∀ v:aD,VK k v→¬ ag (bytesOf s) (p+1) (aR k v)))):=fun c J=>ji k K r (p+1) s c bb b3 J
   go_wp2_with fail
   refine(bo.out _ ar.out).mono ?_;rintro i q ⟨I,⟨b,rfl,ce,cc,b4,a8⟩|⟨x,rfl,t⟩⟩;rotate_left
   ·have y:RJ (∀ e:kL,Jz k e→¬ ag (bytesOf s) p (bL k e)):=fun e g d=>by
     rcases g with rfl|⟨u,z,-⟩
     ·have:=gK W.out (show ag (bytesOf s) p [0] from d) rfl;simp at this
     ·unfold bL at d;rw[if_pos u] at d;exact t _ z (ap.1 (ap.1 d).2).1
    have D:RJ (Kp r w q):=B.out.trans I;clear t I;go_wp2;exact⟨rfl,D.out,.inr ⟨x,rfl,y.out⟩⟩
   ·have a2:RJ (VK k b):=ce;have a1:RJ (ag (bytesOf s) (p+1) (aR k b)):=cc;obtain⟨f,bd⟩:∃ f,f=p+1+(aR k b).length:=⟨_,rfl⟩;have U:RJ (f=p+1+(aR k b).length):=bd;rw[← bd] at b4 a8;have D:RJ (Kp r w q):=B.out.trans I;have ad:RJ (q.heap[w.heap.size]? =Ry (.cells (ax bZ) 141 (0,0))):=Kp.block I S.out (by omega);have dq:w.heap.size<q.heap.size:=RP ad.out;have bu:RJ ((q.alloc (.cells #[.bool b.null,.int .i64 b.n,.string b.s] 59)).heap[r]? =Ry (bh s f)):=by
     show _=_;rw[Sr _ _ r (by omega)];exact a8
    have br:RJ (∀ c,c.heap[r]? =Ry (bh s f)→Sc (aa.of Rz) 153 #[.pointer (Ry ⟨r,0,RA⟩),.int .i64 k] c fun i o=>Kp r c o∧((∃ v:aD,i= .returned (.agg #[.bool v.null,.int .i64 v.n,.string v.s])∧VK k v∧ag (bytesOf s) f (aR k v)∧f+(aR k v).length≤s.size∧o.heap[r]? =Ry (bh s (f+(aR k v).length)))∨(∃ x,i= .panicked (dV x)∧∀ v:aD,VK k v→¬ ag (bytesOf s) f (aR k v)))):=fun c J=>ji k K r f s c bb b4 J;clear ce cc bd I a8 bo ar S B
    go_upto_region 4 with fail
    go_wp2_with fail
    refine(br.out _ bu.out).mono ?_;rintro i l ⟨C,⟨a,rfl,cf,cd,da,b2⟩|⟨x,rfl,t⟩⟩;rotate_left
    ·have y:RJ (∀ e:kL,Jz k e→¬ ag (bytesOf s) p (bL k e)):=fun e g d=>by
      rcases g with rfl|⟨u,z,G,-⟩
      ·have:=gK W.out (show ag (bytesOf s) p [0] from d) rfl;simp at this
      ·unfold bL at d;rw[if_pos u] at d;obtain⟨a9,g⟩:=ap.1 (ap.1 d).2;have:=kY K z a2.out a9 a1.out;rw[this] at g;refine t _ G ?_;rw[U.out];exact g
     have T:RJ (Kp r w l):=(D.out.alloc _).trans C;clear t C;go_wp2;exact⟨rfl,T.out,.inr ⟨x,rfl,y.out⟩⟩
    ·have bA:RJ (VK k a):=cf;have bv:RJ (ag (bytesOf s) f (aR k a)):=cd;have bt:RJ (l.heap[r]? =Ry (bh s (f+(aR k a).length))):=b2;have T:RJ (Kp r w l):=(D.out.alloc _).trans C;have bi:RJ (l.heap[w.heap.size]? =Ry (.cells (ax bZ) 141 (0,0))):=Kp.block C (alloc_old _ (by omega) ad.out) (by omega);have a5:RJ (l.heap[q.heap.size]? =Ry (.cells #[.bool b.null,.int .i64 b.n,.string b.s] 59 (0,0))):=Kp.block C (bG q _) (by omega);have cl:RJ (∀ e:kL,Jz k e→ag (bytesOf s) p (bL k e)→e=⟨RF,b,a⟩):=fun e g d=>by
      rcases g with rfl|⟨u,z,G,-⟩
      ·have:=gK W.out (show ag (bytesOf s) p [0] from d) rfl;simp at this
      ·unfold bL at d;rw[if_pos u] at d;obtain⟨a9,g⟩:=ap.1 (ap.1 d).2;have a7:=kY K z a2.out a9 a1.out;rw[a7,show p+[1].length+(aR k b).length=f from U.out.symm] at g;have bB:=kY K G bA.out g bv.out;obtain⟨dp,dk,dl⟩:=e;simp only at u a7 bB;subst u a7 bB;rfl
     have ck:RJ (ag (bytesOf s) p (bL k ⟨RF,b,a⟩)):=by
      show ag _ _ ([1] ++ (aR k b ++ aR k a));refine ap.2 ⟨W.out,ap.2 ⟨a1.out,?_⟩⟩;rw[show p+[1].length+(aR k b).length=f from U.out.symm];exact bv.out
     have dr:q.heap.size<l.heap.size:=RP a5.out;have ae:RJ (∀ c,Sc (aa.of Rz) 125 #[.agg #[.bool b.null,.int .i64 b.n,.string b.s],.agg #[.bool a.null,.int .i64 a.n,.string a.s]] c fun i o=>i= .returned (.int .i64 (iN b a))∧RQ c.heap.size c o):=fun c=>iP b a c;clear cf cd b2 C br bu D ad
     go_upto_region 5 with fail
     have bl:RJ (Kp r w (l.alloc (.cells #[.bool a.null,.int .i64 a.n,.string a.s] 59))):=T.out.alloc _;have V:RJ ((l.alloc (.cells #[.bool a.null,.int .i64 a.n,.string a.s] 59)).heap[r]? =Ry (bh s (f+(aR k a).length))):=alloc_old _ (by omega) bt.out;have R:RJ ((l.alloc (.cells #[.bool a.null,.int .i64 a.n,.string a.s] 59)).heap[w.heap.size]? =Ry (.cells (ax bZ) 141 (0,0))):=alloc_old _ (by omega) bi.out;have E:RJ ((l.alloc (.cells #[.bool a.null,.int .i64 a.n,.string a.s] 59)).heap[q.heap.size]? =Ry (.cells #[.bool b.null,.int .i64 b.n,.string b.s] 59 (0,0))):=alloc_old _ (by omega) a5.out;have F:RJ ((l.alloc (.cells #[.bool a.null,.int .i64 a.n,.string a.s] 59)).heap[l.heap.size]? =Ry (.cells #[.bool a.null,.int .i64 a.n,.string a.s] 59 (0,0))):=bG l _;clear T bt bi a5;generalize l.alloc (.cells #[.bool a.null,.int .i64 a.n,.string a.s] 59)=ds at*;generalize q.heap.size=Y at*;generalize l.heap.size=Z at*;obtain⟨L,M,N⟩:=bR E.out;obtain⟨O,P,Q⟩:=bR F.out;have ch:RJ (∀ c,c.heap[r]? =Ry (bh s (f+(aR k a).length))→Sc (aa.of Rz) 97 #[.pointer (Ry ⟨r,0,RA⟩)] c fun i o=>i= .panicked (dV (f+(aR k a).length))∧Kp r c o):=fun c J=>(bP r _ s c J).mono (fun i o ⟨z,G⟩=>⟨z,by subst G;exact Kp.refl r _⟩);obtain⟨X,ba⟩:∃ X,X=iN b a:=⟨_,rfl⟩;rw[← ba] at ae;have bj:RJ (X=iN b a):=ba;clear ba;by_cases ca:0<X
     ·go_upto_region 6 with(go_at_call 125;refine(ae.out _).mono ?_;rintro i m ⟨rfl,n⟩;have a4:RJ (m.heap[Y]? =Ry (.cells #[.bool b.null,.int .i64 b.n,.string b.s] 59 (0,0))):=(n.block Y (RP E.out)).trans E.out;have a6:RJ (m.heap[Z]? =Ry (.cells #[.bool a.null,.int .i64 a.n,.string a.s] 59 (0,0))):=(n.block Z (RP F.out)).trans F.out;have ab:RJ (m.heap[w.heap.size]? =Ry (.cells (ax bZ) 141 (0,0))):=(n.block _ (RP R.out)).trans R.out;have aw:RJ (m.heap[r]? =Ry (bh s (f+(aR k a).length))):=(n.block _ (RP V.out)).trans V.out;have am:RJ (Kp r w m):=bl.out.trans (Kp.bS n);clear L M N O P Q n;obtain⟨L,M,N⟩:=bR a4.out;obtain⟨O,P,Q⟩:=bR a6.out)
      go_wp2_with fail
      refine(ch.out _ aw.out).mono ?_;rintro i dd ⟨rfl,b0⟩;have y:RJ (∀ e:kL,Jz k e→¬ ag (bytesOf s) p (bL k e)):=fun e g d=>by
       have c9:=cl.out e g d;subst c9;rcases g with c7|⟨-,-,-,c8⟩
       ·simp[bZ] at c7
       ·exact c8 (by rw[bj.out] at ca;exact ca)
      have ci:RJ (Kp r w dd):=am.out.trans b0;clear b0 L M N O P Q;go_wp2;exact⟨rfl,ci.out,.inr ⟨_,rfl,y.out⟩⟩
     ·go_upto_region 7 with(go_at_call 125;refine(ae.out _).mono ?_;rintro i m ⟨rfl,n⟩;have a4:RJ (m.heap[Y]? =Ry (.cells #[.bool b.null,.int .i64 b.n,.string b.s] 59 (0,0))):=(n.block Y (RP E.out)).trans E.out;have a6:RJ (m.heap[Z]? =Ry (.cells #[.bool a.null,.int .i64 a.n,.string a.s] 59 (0,0))):=(n.block Z (RP F.out)).trans F.out;have ab:RJ (m.heap[w.heap.size]? =Ry (.cells (ax bZ) 141 (0,0))):=(n.block _ (RP R.out)).trans R.out;have aw:RJ (m.heap[r]? =Ry (bh s (f+(aR k a).length))):=(n.block _ (RP V.out)).trans V.out;have am:RJ (Kp r w m):=bl.out.trans (Kp.bS n);clear L M N O P Q n;obtain⟨L,M,N⟩:=bR a4.out;obtain⟨O,P,Q⟩:=bR a6.out)
      obtain⟨⟨co,cp,cs,cu,cv,cx,cR⟩,j⟩:=Dl ab.out;have c0:=j 0;have c1:=j 1;have c2:=j 2;have c3:=j 3;have c4:=j 4;have c5:=j 5;have c6:=j 6;have bx:RJ (m.there w.heap.size 0 (ax ⟨RF,b,a⟩).size):=(show m.there w.heap.size 0 7 from z4 ab.out);have a3:RJ ((m.setCells w.heap.size 0 (ax ⟨RF,b,a⟩).toList).rangeAt w.heap.size 0 (ax ⟨RF,b,a⟩).toList):=World.rangeAt_setCells_same _ _ _ _ bx.out;have bm:RJ (p+(bL k ⟨RF,b,a⟩).length=f+(aR k a).length):=by
       show p+([1] ++ (aR k b ++ aR k a)).length=_;have:=U.out;simp only[RI,List.length_singleton];omega
      have al:RJ (FV w r p s k (.returned (.agg (ax ⟨RF,b,a⟩).toList.toArray)) (m.setCells w.heap.size 0 (ax ⟨RF,b,a⟩).toList)):=⟨Kp.Pd (RG _) _ _ _ am.out,.inl ⟨⟨RF,b,a⟩,rfl,.inr ⟨rfl,a2.out,bA.out,by rw[← bj.out];omega⟩,ck.out,by rw[bm.out];exact da,(lA (by omega) _ _ _).trans (by rw[bm.out];exact aw.out)⟩⟩;clear bx;go_wp2;exact zN Tryz.results131 rfl rfl a3.out aa.underlying141 rfl (by kernel_rfl) al.out
theorem Dh(s:ByteArray)(w:RD)(E:s.size≤65536):Sc (aa.of Rz) 98 #[.string s] w fun e w'=>e= .returned (.string s)∧RQ w.heap.size w w':=by
 by_cases j:s.size=0
 ·obtain rfl:s=⟨#[]⟩:=ByteArray.ext (Array.eq_empty_of_size_eq_zero j);go_enter aa.func98,Tryz.ntmps98;go_wp2;go_ret;exact⟨rfl,R5 _ _⟩
 ·obtain⟨m,g,x,h,y⟩:=S3 aa.qu;have u:((aa.of Rz).info? 5).map (·.size)=Ry 1:=by rw[g];simp[h]
  have q:(aa.of Rz).cellsOf 5=1:=by simp[Program.cellsOf,g,h]
  obtain⟨a,d⟩:∃ a,a=madeCells (TW .u8 0).cells (((s.size:Nat):Int).toNat*m.size):=⟨_,rfl⟩;have A:a.size=s.size:=by rw[d,size_madeCells,h];simp
  have D:∀ c:RD,(Vd 133 (.int .i64 (s.size:Int)) (.int .i64 (s.size:Int))).run (aa.of Rz) c= .ok (.slice (Ry ⟨c.heap.size,0,RA⟩) s.size s.size) (c.alloc (.cells a 5)):=fun c=>by
   have i:=run_make (P:=(aa.of Rz)) c 133 5 m (.int .u8 0) aa.underlying133 g x .i64 .i64 (s.size:Int) (s.size:Int) (by omega) (by omega) (by rw[y];omega) (by omega);rw[← d] at i;simpa using i
  clear d;have r:=Lib.run_copy_row_string (P:=(aa.of Rz)) (w.alloc (.cells a 5)) 133 9 3 5 w.heap.size 0 s.size s.size s a 5 aa.underlying133 u (TN w _) (RG _) (by omega);obtain⟨b,f⟩:∃ b,b=(a.toList.take 0 ++ Lib.byteCells s.data.toList ++ a.toList.drop (0+s.size)).toArray:=⟨_,rfl⟩;rw[← f] at r;have k:b.toList=Lib.byteCells s.data.toList:=by
   rw[f,List.toList_toArray,List.take_zero,List.nil_append,List.drop_of_length_le (by rw[TL];omega),Ud]
  have B:b.size=s.size:=by rw[← TL,k,Lib.byteCells_length,← Vh]
  have l:((w.alloc (.cells a 5)).setRow w.heap.size b).heap[w.heap.size]? =Ry (.cells b 5 (0,0)):=setRow_heap _ _ a _ 5 (0,0) (TN w _);have t:s.data.toList≠[]:=fun e=>j (by rw[Vh,e];rfl);have n:=Lib.run_unsafeString_row (P:=(aa.of Rz)) ((w.alloc (.cells a 5)).setRow w.heap.size b) 206 3 9 5 aa.underlying206 q w.heap.size b.size (by unfold World.shape?;rw[l]) s.data.toList t (by rw[← Vh];omega) (by rw[← Vh];omega)
   (fun z G v=>Lib.cells_of_row l b.size z _ (by rw[SF (by rw[TL];exact RG _),k];simp[Lib.byteCells,v]))
  rw[← Vh] at n;clear f;go_enter aa.func98,Tryz.ntmps98;go_wp2;go_ret;have o:RQ w.heap.size w (w.alloc (.cells a 5)):=(R5 _ w).alloc (RG _) _;have p:RQ w.heap.size (w.alloc (.cells a 5)) ((w.alloc (.cells a 5)).setRow w.heap.size b):=⟨rfl,rfl,rfl,by simp,fun F C=>setRow_other _ _ _ _ (by omega)⟩;exact⟨rfl,Lib.below_freeze (o.trans p) (p:=⟨w.heap.size,0,RA⟩) (RG _) _⟩
theorem vW(s:ByteArray)(w:RD)(b:s.size≤65536):Sc (aa.of Rz) 66 #[.string s] w fun e w'=>e= .returned (.string s)∧RQ w.heap.size w w':=by
 go_enter aa.func66,Tryz.ntmps66
 go_wp2_with fail
 refine(Dh s _ b).mono ?_;rintro e w' ⟨rfl,a⟩;go_wp2;go_ret;exact⟨rfl,a⟩
theorem zn(r p:Nat)(s:ByteArray)(w:RD)(d:s.size≤R3)(f:p≤s.size)(h:w.heap[r]? =Ry (bh s p)):
 Sc (aa.of Rz) 129 #[.pointer (Ry ⟨r,0,RA⟩)] w fun e w'=>Kp r w w'∧((∃ b:Nat,e= .returned (.int .u8 (b:Int))∧b<256∧ag (bytesOf s) p [b]∧p+1≤s.size∧w'.heap[r]? =Ry (bh s (p+1)))∨
  (∃ q,e= .panicked (dV q)∧∀ b:Nat,¬ ag (bytesOf s) p [b])):=by
 by_cases a:p<s.size
 ·refine(vj r p s w d a h).mono ?_;rintro e w' ⟨rfl,c,rfl⟩;exact⟨(Kp.refl r w).set 1 _ c,.inl ⟨_,rfl,s[p].toNat_lt,cX.2 (rq s p a),a,kU h c⟩⟩
 ·refine(ru r p s w d a f h).mono ?_;rintro e w' ⟨rfl,c,rfl⟩;refine⟨(Kp.refl r w).drewN c,.inr ⟨_,rfl,fun b g=>?_⟩⟩;have:=fP g (by rw[ai];exact f);rw[ai] at this;simp at this;omega
theorem Ah(r p c:Nat)(s:ByteArray)(w:RD)(f:s.size≤R3)(g:p≤s.size)(hc:c≤2147483648)(h:w.heap[r]? =Ry (bh s p)):
 Sc (aa.of Rz) 128 #[.pointer (Ry ⟨r,0,RA⟩),.int .i64 (c:Int)] w fun e w'=>Kp r w w'∧((∃ x:ByteArray,e= .returned (.string x)∧x.size=c∧ag (bytesOf s) p (bytesOf x)∧p+c≤s.size∧w'.heap[r]? =Ry (bh s (p+c)))∨
  (∃ q,e= .panicked (dV q)∧∀ d:List Nat,d.length=c→¬ ag (bytesOf s) p d)):=by
 by_cases b:p+c≤s.size
 ·refine(DH r p c s w f b h).mono ?_;rintro e w' ⟨rfl,a,rfl⟩;refine⟨(Kp.refl r w).set 1 _ a,.inl ⟨_,rfl,by rw[ByteArray.size_extract];omega,?_,b,kU h a⟩⟩;rw[cQ];exact List.take_prefix _ _
 ·refine(Ag r p c s w f hc b g h).mono ?_;rintro e w' ⟨rfl,a,rfl⟩;refine⟨(Kp.refl r w).drewN a,.inr ⟨_,rfl,fun d j i=>?_⟩⟩;have:=fP i (by rw[ai];exact g);rw[ai] at this;omega
theorem wv{α d:Type}{f g:α→List d}{l:List α}(h:∀ x∈l,f x=g x):l.flatMap f=l.flatMap g:=by
 induction l with
 |nil=>rfl
 |cons x e b=>rw[Ui,Ui,h x (by simp),b (fun c a=>h c (by simp[a]))]
def rf {α:Type}(ok:Nat→α→Prop)(l:List α):Prop:=∀ a (b:a<l.length),ok a l[a]
theorem rf.snoc{α:Type}{ok:Nat→α→Prop}{l:List α}{x:α}(h:rf ok l)(d:ok l.length x):rf ok (l ++ [x]):=by
 intro b c;rcases Ts b l.length with a|a
 ·rw[List.getElem_append_left a];exact h b a
 ·have:b=l.length:=by simp at c;omega
  subst this;simpa using d
theorem rf.at{α:Type}{ok:Nat→α→Prop}{l r:List α}{x:α}(h:rf ok (l ++ x :: r)):ok l.length x:=by
 have:=h l.length (by simp);simpa using this
structure Q2{α:Type}(E G:List α→List Nat)(ok:Nat→α→Prop)(B:List Nat)(p:Nat)(C:List Nat)(q cn:Nat)(l:List α):Prop where
 le:l.length≤cn
 O3:rf ok l
 st:ag B p (E l)
 sc:ag C q (G l)
 GF:∀ L:List α,L.length=cn→rf ok L→ag B p (E L)→ag C q (G L)→∃ m,L=l ++ m
theorem Q2.zero{α:Type}{E G:List α→List Nat}{ok:Nat→α→Prop}{B C:List Nat}{p q cn:Nat}(b:E []=[])(h1:G []=[]):Q2 E G ok B p C q cn []:=
 ⟨Sk _,fun d c=>by simp at c,by rw[b];exact lU _ _,by rw[h1];exact lU _ _,fun a _ _ _ _=>⟨a,rfl⟩⟩
theorem Q2.next{α:Type}{E G:List α→List Nat}{ok:Nat→α→Prop}{e g:List α→α→List Nat}{B C:List Nat}{p q cn:Nat}{l:List α}(h:Q2 E G ok B p C q cn l)(c:∀ l x,E (l ++ [x])=E l ++ e l x)(d:∀ l x,G (l ++ [x])=G l ++ g l x)(k:l.length<cn)
 (L:List α) (hL:L.length=cn) (f:rf ok L) (b:ag B p (E L)) (hc:ag C q (G L)):∃ x m,L=(l ++ [x]) ++ m∧ok l.length x∧ag B (p+(E l).length) (e l x)∧ag C (q+(G l).length) (g l x):=by
 obtain⟨m,rfl⟩:=h.GF L hL f b hc;cases m with
 |nil=>simp at hL;omega
 |cons x a=>
  obtain⟨n,i⟩:=xP c (l ++ [x]) a;obtain⟨o,j⟩:=xP d (l ++ [x]) a;refine⟨x,a,by simp,f.at,?_,?_⟩
  ·rw[show l ++ x :: a=l ++ [x] ++ a by simp,i,c,R9,ap,ap] at b;exact b.2.1
  ·rw[show l ++ x :: a=l ++ [x] ++ a by simp,j,d,R9,ap,ap] at hc;exact hc.2.1
theorem Q2.more{α:Type}{E G:List α→List Nat}{ok:Nat→α→Prop}{e g:List α→α→List Nat}{B C:List Nat}{p q cn:Nat}{l:List α}(h:Q2 E G ok B p C q cn l)(b:∀ l x,E (l ++ [x])=E l ++ e l x)(c:∀ l x,G (l ++ [x])=G l ++ g l x)(o:l.length<cn)
 {x:α} (v:ok l.length x) (s:ag B (p+(E l).length) (e l x)) (hc:ag C (q+(G l).length) (g l x)) (u:∀ y,ok l.length y→ag B (p+(E l).length) (e l y)→ag C (q+(G l).length) (g l y)→y=x):Q2 E G ok B p C q cn (l ++ [x]):=by
 refine⟨by simp;omega,h.O3.snoc v,by rw[b,ap];exact⟨h.st,s⟩,by rw[c,ap];exact⟨h.sc,hc⟩,?_⟩;intro d k r t n;obtain⟨y,m,a,f,i,j⟩:=h.next b c o d k r t n;rw[u y f i j] at a;exact⟨m,a⟩
theorem Q2.fail{α:Type}{E G:List α→List Nat}{ok:Nat→α→Prop}{e g:List α→α→List Nat}{B C:List Nat}{p q cn:Nat}{l:List α}(h:Q2 E G ok B p C q cn l)(d:∀ l x,E (l ++ [x])=E l ++ e l x)(f:∀ l x,G (l ++ [x])=G l ++ g l x)(j:l.length<cn)
 (o:∀ y,ok l.length y→ag B (p+(E l).length) (e l y)→¬ ag C (q+(G l).length) (g l y)) (L:List α) (hL:L.length=cn) (k:rf ok L) (n:ag B p (E L)):¬ ag C q (G L):=by
 intro i;obtain⟨y,m,r,a,b,c⟩:=h.next d f j L hL k n i;exact o y a b c
theorem Q2.done{α:Type}{E G:List α→List Nat}{ok:Nat→α→Prop}{B C:List Nat}{p q cn:Nat}{l:List α}(h:Q2 E G ok B p C q cn l)(f:¬ l.length<cn):
 l.length=cn∧(∀ L:List α,L.length=cn→rf ok L→ag B p (E L)→ag C q (G L)→L=l):=by
 have d:l.length=cn:=by have:=h.le;omega
 refine⟨d,?_⟩;intro L a b e c;obtain⟨m,rfl⟩:=h.GF L a b e c;rw[RI] at a;have:m=[]:=TQ.1 (by omega);rw[this];simp
structure iU(r q:Nat)(w w':RD):Prop where
 os:w'.os=w.os
 tape:w'.tape=w.tape
 output:w'.output=w.output
 size:w.heap.size≤w'.heap.size
 block:∀ i,i<w.heap.size→i≠r→i≠q→w'.heap[i]? =w.heap[i]?
theorem iU.refl(r q:Nat)(w:RD):iU r q w w:=⟨rfl,rfl,rfl,RG _,fun _ _ _ _=>rfl⟩
theorem iU.trans{r q:Nat}{w e f:RD}(h:iU r q w e)(k:iU r q e f):iU r q w f:=
 ⟨k.os.trans h.os,k.tape.trans h.tape,k.output.trans h.output,R4 h.size k.size,fun d c a b=>(k.block d (RK c h.size) a b).trans (h.block d c a b)⟩
theorem iU.iD{r q:Nat}{w a:RD}(h:Kp r w a):iU r q w a:=⟨h.os,h.tape,h.output,h.size,fun e d c _=>T2 h e d (fun b=>c (by cases b;rfl))⟩
theorem iU.CN{r q:Nat}{w a:RD}(h:Kp q w a):iU r q w a:=⟨h.os,h.tape,h.output,h.size,fun e d _ c=>T2 h e d (fun b=>c (by cases b;rfl))⟩
theorem iU.bS{r q:Nat}{w a:RD}(h:RQ w.heap.size w a):iU r q w a:=⟨h.os,h.tape,h.output,h.size,fun c b _ _=>h.block c b⟩
theorem iU.alloc{r q:Nat}{w a:RD}(h:iU r q w a)(o:UQ):iU r q w (a.alloc o):=h.trans (iU.iD (Kp.alloc (Kp.refl r a) o))
theorem iU.grown{r q:Nat}{w d e:RD}{c:Option Nat}(h:iU r q w d)(k:d.grownBy e c)(l:∀ g,c=Ry g→w.heap.size≤g):iU r q w e:=
 ⟨k.os.trans h.os,k.tape.trans h.tape,k.output.trans h.output,R4 h.size k.size,fun a b i j=>(k.block a (RK b h.size) (fun f=>by have:=l a f.symm;omega)).trans (h.block a b i j)⟩
theorem iU.keep{r q:Nat}{w a:RD}(k:iU r q w a){i:Nat}{o:UQ}(h:w.heap[i]? =Ry o)(h1:i≠r)(b:i≠q):a.heap[i]? =Ry o:=by
 rw[k.block i (RP h) h1 b];exact h
theorem iU.own{r q:Nat}{w d:RD}{base e c n:Nat}{v:RB}{f:List RB}(k:iU r q w d)(h:w.ownsRow base e c v n f)(p:r<base)(o:q<base):d.ownsRow base e c v n f:=by
 refine⟨h.1,?_⟩;rcases h.2 with l|⟨a,g,i,rfl,j,b,m⟩
 ·exact .inl l
 ·refine .inr ⟨a,g,i,rfl,j,?_,m⟩;rw[k.block a (RP b) (by omega) (by omega)];exact b
def JD (cs:List bO)(l:List ju)(c:ju):List Nat:=aA c.text.size ++ bL (cs.getD l.length ⟨⟨#[]⟩,0⟩).kind c.dU
def ry (cs:List bO)(l:List ju):List Nat:=ek cs l l.length
theorem sN(cs:List bO)(l:List ju)(c:ju):ry cs (l ++ [c])=ry cs l ++ JD cs l c:=by
 unfold ry;rw[RI,List.length_singleton,uj];have b:ek cs (l ++ [c]) l.length=ek cs l l.length:=by
  unfold ek;refine wv (fun e a=>?_);have a:=Tg.1 a;unfold qA;rw[RX,S7 a,← RX]
 have d:qA cs (l ++ [c]) l.length=JD cs l c:=by
  unfold qA JD;rw[RX (l:=l ++ [c]),SX (RG _)];simp
 rw[b,d]
structure BR(cs:List bO)(i:Nat)(c:ju):Prop where
 n:c.text.size<2147483648
 b:Jz (cs.getD i ⟨⟨#[]⟩,0⟩).kind c.dU
structure eg(cs:List bO)(b:Bd):Prop where
 lo:1≤b.rows
 hi:b.rows≤100
 len:b.chunks.length=cs.length
 each:rf (BR cs) b.chunks
theorem G1{k:Int}(l:k=1∨k=2∨k=3){B:List Nat}{p:Nat}{b b':kL}(h:Jz k b)(d:Jz k b')(c:ag B p (bL k b))(a:ag B p (bL k b')):b=b':=by
 have m:∀ {b b':kL},b=bZ→b'.there=RF→ag B p (bL k b)→ag B p (bL k b')→False:=by
  rintro b b' rfl w c a;unfold bL at a;rw[if_pos w] at a;have:=gK (show ag B p [0] from c) (ap.1 a).1 rfl;simp at this
 rcases h with h|⟨e,r,t,x⟩<;>rcases d with d|⟨f,s,u,y⟩
 ·rw[h,d]
 ·exact(m h f c a).elim
 ·exact(m d e a c).elim
 ·unfold bL at c a;rw[if_pos e] at c;rw[if_pos f] at a;obtain⟨n,i⟩:=ap.1 (ap.1 c).2;obtain⟨o,q⟩:=ap.1 (ap.1 a).2;have g:=kY l r s n o;rw[g] at i;have j:=kY l t u i q;obtain⟨z,C,v⟩:=b;obtain⟨A,D,E⟩:=b';simp only at e f g j;rw[e,f,g,j]
theorem OM{cs:List bO}{l:List ju}(n:(cs.getD l.length ⟨⟨#[]⟩,0⟩).kind=1∨(cs.getD l.length ⟨⟨#[]⟩,0⟩).kind=2∨(cs.getD l.length ⟨⟨#[]⟩,0⟩).kind=3){B C:List Nat}{p q:Nat}{x y:ju}(g:BR cs l.length x)(h:BR cs l.length y)(e:ag B p (JD cs l x))(f:ag B p (JD cs l y))(hc:ag C q (bytesOf x.text))(m:ag C q (bytesOf y.text)):y=x:=by
 unfold JD at e f;obtain⟨i,j⟩:=ap.1 e;obtain⟨k,a⟩:=ap.1 f;have b:=bW (by have:=h.n;omega) (by have:=g.n;omega) k i;rw[b] at a;have c:=G1 n h.b g.b a j;have d:=mi (gK m hc (by rw[ai,ai,b]));obtain⟨o,s⟩:=x;obtain⟨r,t⟩:=y;simp only at c d;rw[c,d]
theorem yy.cm{w:RD}{base:Nat}{v:RB}{l:List bO}(h:w.ownsRow base 63 2 v l.length (dN l)):yy w v l:=by
 rcases h.2 with⟨rfl,g⟩|⟨c,f,j,rfl,k,o,i,m,n,p⟩
 ·have:l=[]:=Ta g;subst this;exact⟨RA,0,0,0,rfl,RG _,⟨fun h=>by simp at h,fun h=>by simp at h,fun b h=>by simp at h,fun b h=>by simp at h⟩⟩
 ·have e:=h.cells (g:=c) rfl;refine⟨Ry ⟨c,0,RA⟩,c,0,f,rfl,i,⟨fun _=>rfl,fun _=>(h.lt c rfl).2,fun b d=>?_,fun b d=>?_⟩⟩
  ·have:=e _ _ (kQ (fun a:bO=>[Value.string a.name,TW .i64 a.kind]) 2 (fun _=>rfl) l b d 0 _ rfl);simpa [TC] using this
  ·have:=e _ _ (kQ (fun a:bO=>[Value.string a.name,TW .i64 a.kind]) 2 (fun _=>rfl) l b d 1 _ rfl);simpa [TC] using this
def fC (bs:List Bd):Nat:=(bs.map fun a=>a.rows).sum
theorem E4(bs:List Bd)(b:Bd):fC (bs ++ [b])=fC bs+b.rows:=by simp[fC]
theorem E5(bs:List Bd)(k:Nat)(h:k<bs.length):fC (bs.take (k+1))=fC (bs.take k)+bs[k].rows:=by
 rw[RR h,E4]
theorem Da(bs:List Bd)(h:∀ b∈bs,b.rows≤100):fC bs≤bs.length*100:=by
 induction bs with
 |nil=>simp[fC]
 |cons b g d=>
  have f:=h b (by simp);have a:=d (fun e c=>h e (by simp[c]));simp[fC] at a ⊢;omega
theorem xG(bs:List Bd)(h:∀ b∈bs,1≤b.rows):bs.length≤fC bs:=by
 induction bs with
 |nil=>simp[fC]
 |cons b g d=>
  have f:=h b (by simp);have a:=d (fun e c=>h e (by simp[c]));simp[fC] at a ⊢;omega
theorem yH(a b:List bO):dN (a ++ b)=dN a ++ dN b:=by simp[dN]
theorem zx(l:List bO)(j:Nat)(h:j<l.length):(dN l)[j*2]? =Ry (.string l[j].name)∧(dN l)[j*2+1]? =Ry (.int .i64 l[j].kind):=
 ⟨kQ _ 2 (fun _=>rfl) l j h 0 _ rfl,kQ _ 2 (fun _=>rfl) l j h 1 _ rfl⟩
theorem aa.OV:((aa.of Rz).info? 63).map (fun i=>(i.zero,i.size,i.bytes))=Ry (Ry (.agg #[.string ⟨#[]⟩,.int .i64 0]),2,24):=by kernel_rfl
def BP (y:bO×Int):List Nat:=aA y.1.name.size ++ (bytesOf y.1.name ++ [byteOf y.1.kind,byteOf y.2])
def nA (l:List (bO×Int)):List Nat:=l.flatMap BP
theorem pL(l:List (bO×Int))(y:bO×Int):nA (l ++ [y])=nA l ++ BP y:=by
 unfold nA;rw[SU,SO]
theorem Np(y:bO×Int):1≤(BP y).length:=by unfold BP;simp;omega
theorem Ld(l:List (bO×Int)):l.length≤(nA l).length:=by
 induction l with
 |nil=>simp
 |cons b c a=>
  have:=Np b;unfold nA at a ⊢;rw[Ui,RI,TA];omega
structure BX(y:bO×Int):Prop where
 n:y.1.name.size<2147483648
 k0:0≤y.1.kind
 k1:y.1.kind<256
 e0:0≤y.2
 e1:y.2<256
theorem zm{x:Int}(a:0≤x)(h1:x<256):(byteOf x:Int)=x:=by unfold byteOf;omega
theorem A2{B:List Nat}{p v:Nat}{y:bO×Int}(b:BX y)(c:v<2147483648)(a:ag B p (aA v))(h:ag B p (BP y)):y.1.name.size=v:=by
 unfold BP at h;exact bW (by have:=b.n;omega) (by omega) (ap.1 h).1 a
theorem A3{B:List Nat}{p v:Nat}{x:ByteArray}{y:bO×Int}(i:BX y)(f:v<2147483648)(d:ag B p (aA v))(g:x.size=v)(e:ag B (p+(aA v).length) (bytesOf x))(h:ag B p (BP y)):y.1.name=x∧ag B (p+(aA v).length+v) [byteOf y.1.kind,byteOf y.2]:=by
 have a:=A2 i f d h;unfold BP at h;obtain⟨c,b⟩:=ap.1 (ap.1 h).2;rw[a] at c b;have:=mi (gK c e (by rw[ai,ai,a,g]));rw[ai,a] at b;exact⟨this,b⟩
theorem O9{B:List Nat}{p v e b:Nat}{x:ByteArray}{y:bO×Int}(a:BX y)(r:v<2147483648)(m:ag B p (aA v))(s:x.size=v)(n:ag B (p+(aA v).length) (bytesOf x))(o:ag B (p+(aA v).length+v) [e])(q:ag B (p+(aA v).length+v+1) [b])(h:ag B p (BP y)):y=(⟨x,(e:Int)⟩,(b:Int)):=by
 obtain⟨i,j⟩:=A3 a r m s n h;obtain⟨k,l⟩:=eA.1 j;have f:byteOf y.1.kind=e:=by have:=k.symm.trans (cX.1 o);simpa using this
 have g:byteOf y.2=b:=by have:=(cX.1 l).symm.trans (cX.1 q);simpa using this
 have c:=zm a.k0 a.k1;have d:=zm a.e0 a.e1;obtain⟨⟨w,u⟩,t⟩:=y;simp only at i f g c d;rw[f] at c;rw[g] at d;rw[i,c,d]
theorem Ix{B:List Nat}{p v b a:Nat}{x:ByteArray}(f:ag B p (aA v))(c:x.size=v)(g:ag B (p+(aA v).length) (bytesOf x))(h:ag B (p+(aA v).length+v) [b])(i:ag B (p+(aA v).length+v+1) [a])(h1:b<256)(j:a<256):ag B p (BP (⟨x,(b:Int)⟩,(a:Int)))∧(BP (⟨x,(b:Int)⟩,(a:Int))).length=(aA v).length+v+1+1:=by
 have d:byteOf (b:Int)=b:=by unfold byteOf;omega
 have e:byteOf (a:Int)=a:=by unfold byteOf;omega
 unfold BP;simp only[d,e,c];refine⟨ap.2 ⟨f,ap.2 ⟨g,?_⟩⟩,by simp[ai,c];omega⟩;rw[ai,c];exact eA.2 ⟨cX.1 h,i⟩
def l7 (l:List (bO×Int)):Prop:=fD (l.map Sb)∧kB (l.map Sb) (l.map TK)
theorem l7.each{l:List (bO×Int)}(h:l7 l):(∀ y∈l,BX y)∧l.length<2147483648:=by
 obtain⟨⟨j,e,f⟩,k,g⟩:=h;refine⟨fun y i=>?_,by simp at e;omega⟩;obtain⟨a,b,rfl⟩:=To i;have d:=(f a (by simpa using b)).1;have c:=g a (by simpa using b);simp only[List.getElem_map,n6,fJ,R7,decide_eq_true_eq] at d;rw[show(l.map TK).getD a 0=l[a].2 by simp[b]] at c;simp only[List.getElem_map,bf,fJ,UA,R7,decide_eq_true_eq,beq_iff_eq] at c;exact⟨by omega,by omega,by omega,by omega,by omega⟩
def vw (l:List (bO×Int)):List Nat:=aA l.length ++ nA l
def Cut (s:ByteArray)(C a:List Nat):Prop:=s.size≤65536∧bytesOf s=de ++ (C ++ (a ++ (gu a.length ++ de)))
theorem Cut.len{s:ByteArray}{C a:List Nat}(h:Cut s C a):s.size=C.length+a.length+12:=by
 have:=congrArg U4 h.2;rw[ai] at this;simp[de,gu] at this;omega
theorem KR{a b:Nat}(c:a≤65536)(d:b≤65536)(h:gu a=gu b):a=b:=by
 unfold gu at h;simp at h;omega
theorem Cut.GF{s:ByteArray}{C a b F':List Nat}(h:Cut s C a)(c:Cut s b F'):C=b∧a=F':=by
 have l:=h.len;have m:=c.len;have k:=h.1;have d:=h.2.symm.trans c.2;have e:=List.append_cancel_left d;have f:(C ++ a) ++ (gu a.length ++ de)=(b ++ F') ++ (gu F'.length ++ de):=by rw[R9,R9];exact e
 obtain⟨g,i⟩:=List.append_inj' f (by simp[gu]);have j:=KR (by omega) (by omega) (List.append_cancel_right i);exact List.append_inj' g j
def m8 (l:List (bO×Int))(bs:List Bd):List Nat:=vw l ++ (aA bs.length ++ cA (l.map Sb) bs)
structure si(l:List (bO×Int))(bs:List Bd):Prop where
 pl:l7 l
 bU:∀ b∈bs,eg (l.map Sb) b
 rows:fC bs≤2000
def gw (s:ByteArray)(l:List (bO×Int))(bs:List Bd):Prop:=si l bs∧Cut s (bC bs) (m8 l bs)
theorem G8(l:List (bO×Int)):∀ n,n≤l.length→gY (l.map Sb) (l.map TK) n=nA (l.take n):=by
 intro n
 induction n with
 |zero=>intro _;simp[gY,nA]
 |succ n c=>
  intro d;rw[vZ,c (by omega),RR (by omega),pL];congr 1;unfold AI BP;have a:(l.map Sb).getD n ⟨⟨#[]⟩,0⟩=l[n].1:=by rw[RX,RS (by rw[Sy];omega)];simp
  have b:(l.map TK).getD n 0=l[n].2:=by rw[RX,RS (by rw[Sy];omega)];simp
  rw[a,b]
theorem Kx(l:List (bO×Int))(bs:List Bd):iX (l.map Sb) (l.map TK) bs=m8 l bs:=by
 unfold iX m8 vw;rw[G8 l _ (by simp),Sy,SR,R9]
structure kz(w W:RD)(g r q n:Nat)(kv:RB)(l:List ju):Prop where
 res:W.heap[w.heap.size]? =Ry (.cells #[.int .i64 0,.slice RA 0 0] 139 (0,0))
 box:W.heap[g]? =Ry (.cells #[.int .i64 (n:Int),kv] 139 (0,0))
 own:W.ownsRow w.heap.size 143 8 kv l.length (dx l)
 kp:iU r q w W
theorem kz.step{w a b:RD}{g r q n:Nat}{c:RB}{l:List ju}(h:kz w a g r q n c l)(e:r<w.heap.size)(d:q<w.heap.size)(f:w.heap.size<g)(k:iU r q a b):kz w b g r q n c l:=
 ⟨k.keep h.res (by omega) (by omega),k.keep h.box (by omega) (by omega),k.own h.own e d,h.kp.trans k⟩
theorem kz.below{w b c:RD}{g r q n:Nat}{d:RB}{l:List ju}(h:kz w b g r q n d l)(a:RQ b.heap.size b c):kz w c g r q n d l:=
 ⟨(a.block _ (RP h.res)).trans h.res,(a.block _ (RP h.box)).trans h.box,aQ h.own a,h.kp.trans (iU.bS a)⟩
theorem kz.cells{w a:RD}{g r q n:Nat}{c:RB}{l:List ju}(h:kz w a g r q n c l):
 a.cell? ⟨g,0,RA⟩=Ry (.int .i64 (n:Int))∧a.cell? ⟨g,1,RA⟩=Ry c∧a.frozen? ⟨g,1,RA⟩=RE:=by
 have b:=h.box;exact⟨by simp[R2,b],by simp[R2,b],by simp[SH,b]⟩
theorem kz.kept{w c a:RD}{g r q n:Nat}{b f:RB}{l:List ju}(h:kz w c g r q n b l)(e:aK c a b f):
 a.cell? ⟨g,1,RA⟩=Ry b∧a.frozen? ⟨g,1,RA⟩=RE:=by
 have d:=(e.fS.block _ (RP h.box) (bw h.own h.box (by decide))).trans h.box;exact⟨by simp[R2,d],by simp[SH,d]⟩
theorem kz.jv{w e b:RD}{g r q n:Nat}{k a:RB}{l d:List ju}(h:kz w e g r q n k l)(t:w.heap.size<g)(c:aK e b k a)(j:b.ownsRow w.heap.size 143 8 a d.length (dx d)):
 kz w (b.setCell ⟨g,1,RA⟩ a) g r q n a d:=by
 have o:=(c.fS.block _ (RP h.res) (bw h.own h.res (by decide))).trans h.res;have i:=(c.fS.block _ (RP h.box) (bw h.own h.box (by decide))).trans h.box;have p:=RZ b g 1 _ _ a i;refine⟨?_,p,?_,?_⟩
 ·rw[R6 _ _ _ _ (by simp;omega)];exact o
 ·exact j.kept (aJ b _ 1 a) (.inr (bw j i (by decide)).symm)
 ·exact(h.kp.grown c.fS (fun f s=>(h.own.lt f s).1)).grown (aJ b g 1 a) (fun f m=>by cases m;omega)
theorem kz.reader{w a b:RD}{g r q n:Nat}{d e:RB}{l:List ju}(h:kz w a g r q n d l)(k:w.heap.size<g)(j:aK a b d e){i:Nat}{o:UQ}(m:i<w.heap.size)(c:a.heap[i]? =Ry o):(b.setCell ⟨g,1,RA⟩ e).heap[i]? =Ry o:=by
 rw[R6 _ _ _ _ (by simp;omega),j.fS.block i (RP c) (fun f=>by have:=(h.own.lt i f.symm).1;omega)];exact c
def PY (cs:List bO)(w:RD)(r p:Nat)(s:ByteArray)(q t:Nat)(z:ByteArray)(e:Uw)(w':RD):Prop:=
 iU r q w w'∧((∃ (a:Bd) (c:RB),e= .returned (.agg #[.int .i64 (a.rows:Int),c])∧eg cs a∧ag (bytesOf s) p (dW cs a)∧p+(dW cs a).length≤s.size∧w'.heap[r]? =Ry (bh s (p+(dW cs a).length))∧ag (bytesOf z) t (bN a.chunks)∧t+(bN a.chunks).length≤z.size∧w'.heap[q]? =Ry (bh z (t+(bN a.chunks).length))∧
  w'.ownsRow w.heap.size 143 8 c a.chunks.length (dx a.chunks)∧(∀ b,eg cs b→ag (bytesOf s) p (dW cs b)→ag (bytesOf z) t (bN b.chunks)→b=a))∨
  (∃ m,e= .panicked (dV m)∧∀ a,eg cs a→ag (bytesOf s) p (dW cs a)→¬ ag (bytesOf z) t (bN a.chunks)))
theorem Ht(co E:Option Sl)(cn B D C base:Nat)(t:RB)(L:List (Bd×RB))(w:RD)(m:ij w base t L)(W:L.length≤65536)(y:∀ b∈L.map Sb,b.rows≤100):
 Sc (aa.of Rz) 45 #[.agg #[.slice co cn B,.slice E D C,t]] w fun e w'=>e= .returned (.int .i64 (fC (L.map Sb):Int))∧RQ w.heap.size w w':=by
 have u:∀ k∈L,∃ g f c,k.2= .slice g f c:=fun k K=>by
  obtain⟨g,c,F⟩:=dA (m.each k K);exact⟨g,_,c,F⟩
 obtain⟨A,P,H⟩:=dA m.own;have n:=Ox.cm pu m.own;subst H;obtain⟨O,h,j,S,I,n⟩:=n;cases I;have l:RJ (Ar w kN 2 A h j L):=n;have z:RJ (∀ k∈L,∃ g f c,k.2= .slice g f c):=u;have s:RJ (∀ b∈L.map Sb,b.rows≤100):=y;clear m n u y;go_enter aa.func45,Tryz.ntmps45
 go_wp2_with fail
 go_loopw [3,9] (fun f q wr=>∃ a:Nat,a≤L.length∧q= .int .i64 (a:Int)∧f= .int .i64 (fC ((L.map Sb).take a):Int)∧RQ w.heap.size w wr) (fun _ q _=>L.length - (SC q).toNat)
 case atStart=>exact⟨0,Sk _,rfl,rfl,(R5 _ _).alloc (RG _) _⟩
 case round=>
  obtain⟨a,V,rfl,rfl,d⟩:=hrel;have r:RJ (RQ w.heap.size w wr):=d;have M:=d.size;by_cases i:a<L.length
  ·have v:a<(L.map Sb).length:=by rw[Sy];exact i
   have o:RJ (fC ((L.map Sb).take (a+1))=fC ((L.map Sb).take a)+L[a].1.rows):=by
    show _=_;rw[E5 _ _ v];simp
   have Y:fC ((L.map Sb).take a)≤65536*100:=by
    have T:=Da ((L.map Sb).take a) (fun b d=>s.out b (Uc d));have G:((L.map Sb).take a).length≤65536:=by simp;omega
    have U:=Nat.mul_le_mul_right 100 G;omega
   have X:L[a].1.rows≤100:=s.out _ (S5.2 ⟨L[a],RV i,rfl⟩);obtain⟨g,f,c,x⟩:=z.out L[a] (RV i);have J:=l.out.addr (by omega);subst J;have p:=l.out.lt (by omega);have Q:wr.cell? ⟨h,j+a*2,RA⟩=Ry (.int .i64 (L[a].1.rows:Int)):=(d.cell (p:=⟨h,j+a*2,RA⟩) p).trans (l.out.c a i 0 _ rfl);have R:wr.cell? ⟨h,j+a*2+1,RA⟩=Ry (.slice g f c):=(d.cell (p:=⟨h,j+a*2+1,RA⟩) p).trans (by rw[← x];exact l.out.c a i 1 _ rfl);generalize L[a].1.rows=Z at*;generalize fC ((L.map Sb).take a)=N at*;clear d x v p
   go_wp2_with fail
   go_roundw
   case rel=>exact⟨a+1,by omega,by go_num,by rw[o.out];go_num,r.out.alloc M _⟩
   case measure=>simp[SC];omega
  ·obtain rfl:a=L.length:=by omega
   have o:RJ ((L.map Sb).take L.length=L.map Sb):=by show _=_;rw[← Sy (f:=Sb),SR]
   go_wp2;go_ret;exact⟨by first|rfl|(rw[o.out];rfl),r.out⟩
theorem Ov{n:Nat}(h:n<256):SW (n:Int)=(n:Int)∧VQ.wrap (n:Int)=(n:Int):=by
 constructor
 ·unfold SW;omega
 ·rw[IntKind.wrap_i64];omega
def PZ (w:RD)(r p:Nat)(s:ByteArray)(e:Uw)(w':RD):Prop:=
 Kp r w w'∧((∃ (a:List (bO×Int)) (c d:RB),e= .returned (.tuple #[c,d])∧l7 a∧ag (bytesOf s) p (vw a)∧p+(vw a).length≤s.size∧w'.heap[r]? =Ry (bh s (p+(vw a).length))∧w'.ownsRow w.heap.size 63 2 c a.length (dN (a.map Sb))∧w'.ownsRow w.heap.size 3 1 d a.length (aY (a.map TK))∧(∀ b,l7 b→ag (bytesOf s) p (vw b)→b=a))∨
  (∃ f,e= .panicked (dV f)∧∀ a,l7 a→¬ ag (bytesOf s) p (vw a)))
theorem uU(r p:Nat)(s:ByteArray)(w:RD)(e2:s.size≤65536)(gf:p≤s.size)(h:w.heap[r]? =Ry (bh s p)):
 Sc (aa.of Rz) 94 #[.pointer (Ry ⟨r,0,RA⟩)] w (PZ w r p s):=by
 obtain⟨gv,f7,gr,gs,gt⟩:=S3 aa.OV;obtain⟨gx,gg,gl,gn,gq⟩:=S3 aa.zH;have A:r<w.heap.size:=RP h;have Y:s.size≤R3:=by unfold R3;omega
 have ds:RJ (w.heap[r]? =Ry (bh s p)):=h;clear h;go_enter aa.func94,Tryz.ntmps94
 go_wp2_with fail
 refine(iR r p s _ Y gf ds.out).mono ?_;rintro d c1 ⟨a6,⟨x,rfl,e3,e8,er,cc⟩|⟨y,rfl,g⟩⟩;rotate_left
 ·have aw:RJ (∀ a,l7 a→¬ ag (bytesOf s) p (vw a)):=fun a f8 c=>g _ f8.each.2 (ap.1 c).1;have ar:RJ (Kp r w c1):=a6;clear g a6;go_wp2;exact⟨rfl,ar.out,.inr ⟨y,rfl,aw.out⟩⟩
 ·have b0:RJ (ag (bytesOf s) p (aA x)):=e8;have n:RJ (x<2147483648):=e3;obtain⟨m,cu⟩:∃ m,m=p+(aA x).length:=⟨_,rfl⟩;have bx:RJ (m=p+(aA x).length):=cu;rw[← cu] at er cc;have dt:RJ (c1.heap[r]? =Ry (bh s m)):=cc;have ar:RJ (Kp r w c1):=a6;have e4:(x:Int)<2147483648:=by omega
  clear e8 cu cc a6 ds e3
  go_wp2_with fail
  go_loopw [2,3,7] (fun f5 f6 c0 wr=>∃ a:List (bO×Int),c0= .int .i64 (a.length:Int)∧vJ nA BX (bytesOf s) m x a∧m+(nA a).length≤s.size∧wr.heap[r]? =Ry (bh s (m+(nA a).length))∧wr.ownsRow w.heap.size 63 2 f5 a.length (dN (a.map Sb))∧wr.ownsRow w.heap.size 3 1 f6 a.length (aY (a.map TK))∧Kp r w wr) (fun _ _ c0 _=>x - (SC c0).toNat)
  case atStart=>exact⟨[],rfl,vJ.zero rfl,by simpa [nA] using er,by simpa [nA] using dt.out,T6 _ _ _ _,T6 _ _ _ _,ar.out⟩
  case round=>
   clear ar dt;obtain⟨a,rfl,ce,Z,ec,e5,e6,eb⟩:=hrel;have a3:RJ (vJ nA BX (bytesOf s) m x a):=ce;have O:RJ (wr.heap[r]? =Ry (bh s (m+(nA a).length))):=ec;have ao:RJ (Kp r w wr):=eb;have F:RJ (wr.ownsRow w.heap.size 63 2 u2 a.length (dN (a.map Sb))):=e5;have G:RJ (wr.ownsRow w.heap.size 3 1 u3 a.length (aY (a.map TK))):=e6;have ba:a.length≤65536:=by have:=Ld a;omega
   have e0:=ce.le;obtain⟨i,cv⟩:∃ i,i=m+(nA a).length:=⟨_,rfl⟩;have N:RJ (i=m+(nA a).length):=cv;rw[← cv] at Z O;clear ce ec eb e5 e6 cv;by_cases cn:a.length<x
   ·have am:RJ ((∀ j,BX j→¬ ag (bytesOf s) i (BP j))→∀ b,l7 b→¬ ag (bytesOf s) p (vw b)):=fun B b k c=>by
     obtain⟨R,z⟩:=ap.1 c;have X:=bW (by have:=k.each.2;omega) (by omega) R b0.out;rw[X] at z;refine a3.out.fail (e:=fun _ j=>BP j) pL cn (fun j t=>?_) b X k.each.1 (by rw[bx.out];exact z);rw[← N.out];exact B j t
    go_wp2_with fail
    refine(iR r i s _ Y Z O.out).mono ?_;rintro d ab ⟨J,⟨v,rfl,fe,e9,ck,cd⟩|⟨y,rfl,g⟩⟩;rotate_left
    ·have aw:=am.out (fun j t c=>g _ t.n (ap.1 c).1);have n:RJ (∀ b,l7 b→¬ ag (bytesOf s) p (vw b)):=aw;have K:RJ (Kp r w ab):=ao.out.trans J;clear g J aw;go_wp2;exact⟨rfl,K.out,.inr ⟨y,rfl,n.out⟩⟩
    ·have I:RJ (v<2147483648):=fe;have H:RJ (ag (bytesOf s) i (aA v)):=e9;have fg:v≤2147483648:=by omega
     have K:RJ (Kp r w ab):=ao.out.trans J;have db:RJ (ab.ownsRow w.heap.size 63 2 u2 a.length (dN (a.map Sb))):=J.own F.out A;have dk:RJ (ab.ownsRow w.heap.size 3 1 u3 a.length (aY (a.map TK))):=J.own G.out A;obtain⟨e,cx⟩:∃ e,e=i+(aA v).length:=⟨_,rfl⟩;have o:RJ (e=i+(aA v).length):=cx;rw[← cx] at ck cd;have du:RJ (ab.heap[r]? =Ry (bh s e)):=cd;clear e9 J cd cx ao F G O fe
     go_wp2_with fail
     refine(Ah r e v s _ Y ck fg du.out).mono ?_;rintro d ad ⟨S,⟨f,rfl,fk,fa,es,ee⟩|⟨y,rfl,g⟩⟩;rotate_left
     ·have n:RJ (∀ b,l7 b→¬ ag (bytesOf s) p (vw b)):=am.out (fun j t c=>g (bytesOf j.1.name) (by rw[ai];exact A2 t I.out H.out c) (by unfold BP at c;rw[A2 t I.out H.out (by unfold BP;exact c)] at c;rw[o.out];exact(ap.1 (ap.1 c).2).1));have L:RJ (Kp r w ad):=K.out.trans S;clear g;go_wp2;exact⟨rfl,L.out,.inr ⟨y,rfl,n.out⟩⟩
     ·have a4:RJ (ag (bytesOf s) e (bytesOf f)):=fa;have P:RJ (f.size=v):=fk;have c8:RJ (Kp r w ad):=K.out.trans S;have dc:RJ (ad.ownsRow w.heap.size 63 2 u2 a.length (dN (a.map Sb))):=S.own db.out A;have dl:RJ (ad.ownsRow w.heap.size 3 1 u3 a.length (aY (a.map TK))):=S.own dk.out A;have bB:RJ (ad.heap[r]? =Ry (bh s (e+v))):=ee;have fi:f.size≤65536:=by omega
      have c5:RJ (∀ q,Sc (aa.of Rz) 66 #[.string f] q fun d C=>d= .returned (.string f)∧RQ q.heap.size q C):=fun q=>vW f q fi;clear fa fk S ee K db dk du fi
      go_upto_region 4 with(go_at_call 66;refine(c5.out _).mono ?_;rintro d bb ⟨rfl,V⟩)
      have bm:RJ (Kp r w bb):=c8.out.trans (Kp.bS V);have dd:RJ (bb.ownsRow w.heap.size 63 2 u2 a.length (dN (a.map Sb))):=aQ dc.out V;have dp:RJ (bb.ownsRow w.heap.size 3 1 u3 a.length (aY (a.map TK))):=aQ dl.out V;have dv:RJ (bb.heap[r]? =Ry (bh s (e+v))):=(V.block _ (RP bB.out)).trans bB.out;clear V c8 dc dl bB c5
      go_wp2_with fail
      refine(zn r (e+v) s _ Y es dv.out).mono ?_;rintro d D ⟨T,⟨l,rfl,ci,fb,et,ef⟩|⟨y,rfl,g⟩⟩;rotate_left
      ·have n:RJ (∀ b,l7 b→¬ ag (bytesOf s) p (vw b)):=am.out (fun j t c=>g _ (cX.2 (eA.1 (by have:=(A3 t I.out H.out P.out (by rw[← o.out];exact a4.out) c).2;rw[← o.out] at this;exact this)).1));have L:RJ (Kp r w D):=bm.out.trans T;clear g;go_wp2;exact⟨rfl,L.out,.inr ⟨y,rfl,n.out⟩⟩
      ·have d0:RJ (ag (bytesOf s) (e+v) [l]):=fb;have bo:RJ (Kp r w D):=bm.out.trans T;have co:=T.own dd.out A;have a0:RJ (D.ownsRow w.heap.size 63 2 u2 a.length (dN (a.map Sb))):=co;have bv:RJ (D.ownsRow w.heap.size 3 1 u3 a.length (aY (a.map TK))):=T.own dp.out A;have dC:RJ (D.heap[r]? =Ry (bh s (e+v+1))):=ef;have gi:=bo.out.size;clear fb T ef bm dd dp dv;have g2:=(Ov ci).2;have da:RJ (l<256):=ci;have M:RJ (a.length≤65536):=ba;have ft:RJ (e+v+1≤s.size):=et;clear fg ci ba e2 e4 et es ck Z e0
       go_upto_region 5 with(at_builtin;refine wpList_append_lies _ rfl _ _ 44 rfl w.heap.size 63 gv _ 2 24 aa.underlying44 f7 gr gs gt rfl (by decide) _ a.length _ rfl (co.alloc _) ⟨D.heap.size,0,RA⟩ 1 1 [.string f,.int .i64 (l:Int)] rfl rfl (GC D _ _ _) (by intro gy B;simp at B;rcases B with rfl|rfl<;>rfl) (by decide) (by have:=M.out;unfold R3;omega) (by have:=M.out;omega) (by simp;omega) _ rfl ?_;intro d5 b2 bc e7 eo em f9)
       have a8:=aK.nt (n:=a.length+1) (cap:=b2) eo em;have br:RJ (Kp r w bc):=bo.out.grown a8.fS (fun cb ch=>(a0.out.lt cb ch).1);have dE:RJ (bc.heap[r]? =Ry (bh s (e+v+1))):=(a8.fS.block r (by omega) (fun d=>by have:=(a0.out.lt r d.symm).1;omega)).trans dC.out;have df:RJ (bc.ownsRow w.heap.size 63 2 (.slice (Ry ⟨d5,0,RA⟩) (a.length+1) b2) (a.length+1) (dN (a.map Sb) ++ [.string f,.int .i64 (l:Int)])):=e7;have dq:RJ (bc.ownsRow w.heap.size 3 1 u3 a.length (aY (a.map TK))):=cZ bv.out a8 (ox bv.out a0.out (by decide));clear e7 eo em f9 a8 co a0 bv bo dC gi;generalize SS (Ry ⟨d5,0,RA⟩) (a.length+1) b2=d4 at*
       go_wp2_with fail
       refine(zn r (e+v+1) s _ Y ft.out dE.out).mono ?_;rintro d E ⟨U,⟨u,rfl,cf,fd,eQ,eh⟩|⟨y,rfl,g⟩⟩;rotate_left
       ·have n:RJ (∀ b,l7 b→¬ ag (bytesOf s) p (vw b)):=am.out (fun j t c=>g _ (by have:=(A3 t I.out H.out P.out (by rw[← o.out];exact a4.out) c).2;rw[← o.out] at this;exact(eA.1 this).2));have L:RJ (Kp r w E):=br.out.trans U;clear g;go_wp2;exact⟨rfl,L.out,.inr ⟨y,rfl,n.out⟩⟩
       ·have d1:RJ (ag (bytesOf s) (e+v+1) [u]):=fd;have bs:RJ (Kp r w E):=br.out.trans U;have bu:RJ (E.ownsRow w.heap.size 63 2 d4 (a.length+1) (dN (a.map Sb) ++ [.string f,.int .i64 (l:Int)])):=U.own df.out A;have cp:=U.own dq.out A;have a1:RJ (E.ownsRow w.heap.size 3 1 u3 a.length (aY (a.map TK))):=cp;have dO:RJ (E.heap[r]? =Ry (bh s (e+v+1+1))):=eh;have gj:=bs.out.size;have g1:=(Ov cf).2;have c7:RJ (u<256):=cf;have fu:RJ (e+v+1+1≤s.size):=eQ;clear cf eQ;clear fd U eh br df dq dE
        go_upto_region 6 with(at_builtin;refine wpList_append_lies _ rfl _ _ 22 rfl w.heap.size 3 gx _ 1 8 aa.underlying22 gg gl gn gq rfl (by decide) _ a.length _ rfl (cp.alloc _) ⟨E.heap.size,0,RA⟩ 1 1 [.int .i64 (u:Int)] rfl rfl (ga E _ _) (by intro gy B;simp at B;subst B;rfl) (by decide) (by have:=M.out;unfold R3;omega) (by have:=M.out;omega) (by simp;omega) _ rfl ?_;intro d6 b3 bd cs eq en gc)
        have a9:=aK.nt (n:=a.length+1) (cap:=b3) eq en;have fm:RJ (Kp r w bd):=bs.out.grown a9.fS (fun cb ch=>(a1.out.lt cb ch).1);have f4:RJ (bd.heap[r]? =Ry (bh s (e+v+1+1))):=(a9.fS.block r (by omega) (fun d=>by have:=(a1.out.lt r d.symm).1;omega)).trans dO.out;have f0:RJ (bd.ownsRow w.heap.size 3 1 (.slice (Ry ⟨d6,0,RA⟩) (a.length+1) b3) (a ++ [((⟨f,(l:Int)⟩:bO),(u:Int))]).length (aY ((a ++ [((⟨f,(l:Int)⟩:bO),(u:Int))]).map TK))):=by
         show World.ownsRow _ _ _ _ _ _ _;rw[RI,SQ];unfold aY at cs ⊢;rw[SQ];exact cs
        have fx:RJ (bd.ownsRow w.heap.size 63 2 d4 (a ++ [((⟨f,(l:Int)⟩:bO),(u:Int))]).length (dN ((a ++ [((⟨f,(l:Int)⟩:bO),(u:Int))]).map Sb))):=by
         have:=cZ bu.out a9 (ox bu.out a1.out (by decide));show World.ownsRow _ _ _ _ _ _ _;rw[RI,SQ,yH];exact this
        have cR:=Ix H.out P.out (by rw[← o.out];exact a4.out) (by rw[← o.out];exact d0.out) (by rw[← o.out];exact d1.out) da.out c7.out;have fv:RJ (vJ nA BX (bytesOf s) m x (a ++ [((⟨f,(l:Int)⟩:bO),(u:Int))])):=a3.out.more (e:=fun _ j=>BP j) pL cn ⟨by have:=P.out;have:=I.out;show f.size<_;omega,by show(0:Int)≤(l:Int);omega,by have:=da.out;show(l:Int)<256;omega,by show(0:Int)≤(u:Int);omega,by have:=c7.out;show(u:Int)<256;omega⟩ (by rw[← N.out];exact cR.1) (fun j t c=>by
         rw[← N.out] at c;exact O9 t I.out H.out P.out (by rw[← o.out];exact a4.out) (by rw[← o.out];exact d0.out) (by rw[← o.out];exact d1.out) c)
        have dr:RJ (m+(nA (a ++ [((⟨f,(l:Int)⟩:bO),(u:Int))])).length=e+v+1+1):=by
         show _=_;have R:=N.out;have z:=o.out;rw[pL,RI,cR.2];omega
        clear cs eq en gc a9 cp a1 bu bs dO cR gj;generalize SS (Ry ⟨d6,0,RA⟩) (a.length+1) b3=g0 at*;have ba:=M.out
        go_wp2_with fail
        go_roundw
        case rel=>exact⟨_,by rw[RI];go_num,fv.out,by rw[dr.out];exact fu.out,by rw[dr.out];exact f4.out,fx.out,f0.out,fm.out⟩
        case measure=>simp[SC];omega
   ·have al:=a3.out.done cn;have b1:RJ (∀ b,l7 b→ag (bytesOf s) p (vw b)→b=a):=fun b k c=>by
     obtain⟨R,z⟩:=ap.1 c;have X:=bW (by have:=k.each.2;omega) (by omega) R b0.out;rw[X,← bx.out] at z;exact al.2 b X k.each.1 z
    have bA:RJ (p+(vw a).length=i∧ag (bytesOf s) p (vw a)):=by
     have R:=N.out;have z:=bx.out;have d7:=al.1;refine⟨by unfold vw;rw[RI,d7];omega,?_⟩;unfold vw;rw[d7];exact ap.2 ⟨b0.out,by rw[← z];exact a3.out.st⟩
    have f2:RJ (i≤s.size):=Z;obtain⟨a5,aF,rfl⟩:=dA F.out;obtain⟨ca,b4,rfl⟩:=dA G.out;have bl:RJ (yy wr (.slice a5 a.length aF) (a.map Sb)):=yy.cm (by rw[Sy];exact F.out);have c6:RJ (qi wr (.slice ca a.length b4) (a.map TK)):=qi.cm (by rw[Sy];exact G.out);have cl:(a.map Sb).length≤R3:=by rw[Sy];unfold R3;omega
    have e1:(a.map TK).length≤R3:=by rw[Sy];unfold R3;omega
    have c2:RJ (Sc (aa.of Rz) 55 #[.slice a5 a.length aF] wr fun d C=>∃ Q,d= .returned (.bool Q)∧(Q=RF↔fD (a.map Sb))∧RQ wr.heap.size wr C):=lu (a.map Sb) _ wr cl bl.out;have c3:RJ (∀ q,RQ wr.heap.size wr q→Sc (aa.of Rz) 57 #[.slice ca a.length b4,.slice a5 a.length aF] q fun d C=>∃ Q,d= .returned (.bool Q)∧(Q=RF↔kB (a.map Sb) (a.map TK))∧RQ q.heap.size q C):=fun q el=>mQ (a.map Sb) (a.map TK) _ _ q cl e1 (bl.out.below el) (c6.out.lower el);have ge:x=a.length:=al.1.symm;subst ge;clear e4 ba e2 e0 Z al cl e1 bl c6
    go_wp2_with fail
    refine c2.out.mono ?_;rintro d be ⟨d2,rfl,d8,a7⟩;have bt:RJ (Kp r w be):=ao.out.trans (Kp.bS a7);have a2:RJ (be.heap[r]? =Ry (bh s i)):=(a7.block r (RP O.out)).trans O.out;have ae:RJ (RQ wr.heap.size wr be):=a7;have bj:RJ (d2=RF↔fD (a.map Sb)):=d8;clear d8 a7 c2;cases d2
    ·have n:RJ (∀ b,l7 b→¬ ag (bytesOf s) p (vw b)):=fun b k c=>by
      have:=b1.out b k c;rw[this] at k;exact absurd (bj.out.2 k.1) (by simp)
     go_wp2_with (go_at_call 97;refine(bP r i s _ a2.out).mono ?_;rintro d C ⟨rfl,rfl⟩)
     exact⟨rfl,bt.out,.inr ⟨_,rfl,n.out⟩⟩
    ·have fl:RJ (fD (a.map Sb)):=bj.out.1 rfl;clear bj
     go_wp2_with fail
     refine(c3.out be ae.out).mono ?_;rintro d bi ⟨d3,rfl,d9,W⟩;have c9:RJ (Kp r w bi):=bt.out.trans (Kp.bS W);have dT:RJ (bi.heap[r]? =Ry (bh s i)):=(W.block r (RP a2.out)).trans a2.out;have fz:RJ (bi.ownsRow w.heap.size 63 2 (.slice a5 a.length aF) a.length (dN (a.map Sb))):=aQ (aQ F.out ae.out) W;have f1:RJ (bi.ownsRow w.heap.size 3 1 (.slice ca a.length b4) a.length (aY (a.map TK))):=aQ (aQ G.out ae.out) W;have c4:RJ (d3=RF↔kB (a.map Sb) (a.map TK)):=d9;clear d9 W c3 bt a2 ae F G;cases d3
     ·have n:RJ (∀ b,l7 b→¬ ag (bytesOf s) p (vw b)):=fun b k c=>by
       have:=b1.out b k c;rw[this] at k;exact absurd (c4.out.2 k.2) (by simp)
      go_wp2_with (go_at_call 97;refine(bP r i s _ dT.out).mono ?_;rintro d C ⟨rfl,rfl⟩)
      exact⟨rfl,c9.out,.inr ⟨_,rfl,n.out⟩⟩
     ·have f3:RJ (l7 a):=⟨fl.out,c4.out.1 rfl⟩;go_wp2
      go_ret2
      exact⟨c9.out,.inl ⟨a,_,_,rfl,f3.out,bA.out.2,by rw[bA.out.1];exact f2.out,by rw[bA.out.1];exact dT.out,fz.out,f1.out,b1.out⟩⟩
theorem Ka{b:RD}{base n cap:Nat}{co:Option Sl}{cs:List bO}(h:b.ownsRow base 63 2 (.slice co n cap) cs.length (dN cs))(m:0<cs.length):∃ g,co=Ry ⟨g,0,RA⟩∧base≤g∧g<b.heap.size∧qI b co g 0 cs:=by
 rcases h.2 with⟨f,o⟩|⟨g,k,l,f,j,i,r,p,q,s⟩
 ·omega
 ·cases f;have e:=h.cells (g:=g) rfl;refine⟨g,rfl,j,RP i,⟨fun _=>rfl,fun _=>RP i,fun d c=>?_,fun d c=>?_⟩⟩
  ·have:=e _ _ (kQ (fun a:bO=>[Value.string a.name,TW .i64 a.kind]) 2 (fun _=>rfl) cs d c 0 _ rfl);simpa [TC] using this
  ·have:=e _ _ (kQ (fun a:bO=>[Value.string a.name,TW .i64 a.kind]) 2 (fun _=>rfl) cs d c 1 _ rfl);simpa [TC] using this
theorem Bb(cs:List bO)(d0:RB)(r p q t base:Nat)(s z:ByteArray)(w:RD)(hc:r≠q)(ha:s.size≤65536)(he:z.size≤65536)(gg:p≤s.size)(gi:t≤z.size)(h:w.heap[r]? =Ry (bh s p))(x:w.heap[q]? =Ry (bh z t))(f4:r<base)(f5:q<base)
 (ch:w.ownsRow base 63 2 d0 cs.length (dN cs)) (g8:cs.length≤8) (ec:∀ i (h:i<cs.length),cs[i].kind=1∨cs[i].kind=2∨cs[i].kind=3):
 Sc (aa.of Rz) 96 #[.pointer (Ry ⟨r,0,RA⟩),.pointer (Ry ⟨q,0,RA⟩),d0] w (PY cs w r p s q t z):=by
 obtain⟨gr,f9,gj,gl,gn⟩:=S3 aa.Ga;have a3:r<w.heap.size:=RP h;have a2:q<w.heap.size:=RP x;have ck:s.size≤R3:=by unfold R3;omega
 have gq:z.size≤R3:=by unfold R3;omega
 have fl:RJ (∀ i (h:i<cs.length),cs[i].kind=1∨cs[i].kind=2∨cs[i].kind=3):=ec;obtain⟨dT,aF,rfl⟩:=dA ch;have fb:RJ (w.ownsRow base 63 2 (.slice dT cs.length aF) cs.length (dN cs)):=ch;have dk:RJ ((w.alloc (.cells #[.int .i64 0,.slice RA 0 0] 139)).heap[r]? =Ry (bh s p)):=by
  show _=_;rw[Sr _ _ r a3];exact h
 have c9:RJ ((w.alloc (.cells #[.int .i64 0,.slice RA 0 0] 139)).heap[q]? =Ry (bh z t)):=by
  show _=_;rw[Sr _ _ q a2];exact x
 have bl:RJ (iU r q w (w.alloc (.cells #[.int .i64 0,.slice RA 0 0] 139))):=(iU.refl r q w).alloc _;clear h x ch ec;go_enter aa.func96,Tryz.ntmps96
 go_wp2_with fail
 refine(iR r p s _ ck gg dk.out).mono ?_;rintro N H ⟨V,⟨c,rfl,eo,et,eh,d3⟩|⟨m,rfl,G⟩⟩;rotate_left
 ·have I:RJ (∀ b,eg cs b→ag (bytesOf s) p (dW cs b)→¬ ag (bytesOf z) t (bN b.chunks)):=fun b B W=>(G _ (by have:=B.hi;omega) (ap.1 W).1).elim;have fe:RJ (iU r q w H):=bl.out.trans (iU.iD V);clear G V;go_wp2;exact⟨rfl,fe.out,.inr ⟨m,rfl,I.out⟩⟩
 ·have d1:H.heap[q]? =Ry (bh z t):=Kp.block V c9.out (by omega);have f:kz w (H.alloc (.cells #[.int .i64 (c:Int),.slice RA 0 0] 139)) H.heap.size r q c (.slice RA 0 0) []:=by
   refine⟨?_,bG H _,T6 _ _ _ _,(bl.out.trans (iU.iD V)).alloc _⟩;have:=Kp.block V (TN w (.cells #[.int .i64 0,.slice RA 0 0] 139)) (by omega);exact alloc_old _ (by simpa using RP this) this
  have am:w.heap.size<H.heap.size:=by have:=V.size;simp at this;omega
  have cc:(H.alloc (.cells #[.int .i64 (c:Int),.slice RA 0 0] 139)).heap[r]? =Ry (bh s (p+(aA c).length)):=by rw[Sr _ _ r (by omega)];exact d3
  have d2:(H.alloc (.cells #[.int .i64 (c:Int),.slice RA 0 0] 139)).heap[q]? =Ry (bh z t):=by rw[Sr _ _ q (by omega)];exact d1
  go_upto_region 2 with fail
  generalize H.alloc (.cells #[.int .i64 (c:Int),.slice RA 0 0] 139)=b1 at*;generalize H.heap.size=j at*;clear V d3 d1 dk c9 bl;clear H;obtain⟨n,cn⟩:∃ n,n=p+(aA c).length:=⟨_,rfl⟩;have bm:RJ (n=p+(aA c).length):=cn;rw[← cn] at cc eh;have a9:RJ (ag (bytesOf s) p (aA c)):=et;have a8:RJ (b1.heap[r]? =Ry (bh s n)):=cc;have da:RJ (b1.heap[q]? =Ry (bh z t)):=d2;have P:RJ (kz w b1 j r q c (.slice RA 0 0) []):=f;obtain⟨bd,a5,cv⟩:=f.cells;clear et cn cc d2 f;by_cases eb:1≤c∧c≤100;rotate_left
  ·have I:RJ (∀ b,eg cs b→ag (bytesOf s) p (dW cs b)→¬ ag (bytesOf z) t (bN b.chunks)):=fun b B W=>by
    have:=bW (by have:=B.hi;omega) (by omega) (ap.1 W).1 a9.out;have R:=B.lo;have x:=B.hi;omega
   by_cases g7:c<1
   ·have ci:decide ((c:Int)<1)=RF:=by simp;omega
    go_wp2_with (go_at_call 97;refine(bP r n s _ a8.out).mono ?_;rintro N gy ⟨rfl,rfl⟩)
    exact⟨rfl,P.out.kp,.inr ⟨_,rfl,I.out⟩⟩
   ·have ci:decide ((c:Int)<1)=RE:=by simp;omega
    have d8:decide (100<(c:Int))=RF:=by simp;omega
    go_wp2_with (go_at_call 97;refine(bP r n s _ a8.out).mono ?_;rintro N gy ⟨rfl,rfl⟩)
    exact⟨rfl,P.out.kp,.inr ⟨_,rfl,I.out⟩⟩
  ·have ci:decide ((c:Int)<1)=RE:=by simp;omega
   have d8:decide (100<(c:Int))=RE:=by simp;omega
   have c4:RJ (1≤c∧c≤100):=eb;have c8:RJ (c<2147483648):=eo
   go_upto_region 4 with fail
   clear ci d8 eb eo bd a5 cv
   go_wp2_with fail
   go_loopw [26] (fun i wr=>∃ (a:List ju) (e:RB),i= .int .i64 (a.length:Int)∧Q2 (ry cs) bN (BR cs) (bytesOf s) n (bytesOf z) t cs.length a∧kz w wr j r q c e a∧n+(ry cs a).length≤s.size∧wr.heap[r]? =Ry (bh s (n+(ry cs a).length))∧t+(bN a).length≤z.size∧wr.heap[q]? =Ry (bh z (t+(bN a).length))) (fun i _=>cs.length - (SC i).toNat)
   case atStart=>exact⟨[],_,rfl,Q2.zero rfl rfl,P.out,by simpa [ry,ek] using eh,by simpa [ry,ek] using a8.out,by simpa [bN] using gi,by simpa [bN] using da.out⟩
   case round=>
    clear P a8 da;obtain⟨a,e,rfl,b3,f,es,ca,cu,b4⟩:=hrel;have Z:RJ (Q2 (ry cs) bN (BR cs) (bytesOf s) n (bytesOf z) t cs.length a):=b3;have P:RJ (kz w wr j r q c e a):=f;obtain⟨k,co⟩:∃ k,k=n+(ry cs a).length:=⟨_,rfl⟩;obtain⟨l,a4⟩:∃ l,l=t+(bN a).length:=⟨_,rfl⟩;have ar:RJ (k=n+(ry cs a).length):=co;have ab:RJ (l=t+(bN a).length):=a4;rw[← co] at es ca;rw[← a4] at cu b4;have bt:RJ (wr.heap[r]? =Ry (bh s k)):=ca;have br:RJ (wr.heap[q]? =Ry (bh z l)):=b4;have ge:a.length≤cs.length:=b3.le;have hd:w.heap.size≤wr.heap.size:=f.kp.size;have c2:RJ (wr.ownsRow base 63 2 (.slice dT cs.length aF) cs.length (dN cs)):=f.kp.own fb.out f4 f5;clear b3 co a4 ca b4;by_cases S:a.length<cs.length
    ·have bj:RJ ((∀ M,BR cs a.length M→ag (bytesOf s) k (JD cs a M)→¬ ag (bytesOf z) l (bytesOf M.text))→∀ b,eg cs b→ag (bytesOf s) p (dW cs b)→¬ ag (bytesOf z) t (bN b.chunks)):=fun a4 b B W a0=>by
      obtain⟨R,x⟩:=ap.1 W;have a1:=bW (by have:=B.hi;omega) (by have:=c8.out;omega) R a9.out;rw[a1,← bm.out] at x;refine Z.out.fail (e:=JD cs) (g:=fun _ d=>bytesOf d.text) (sN cs) qZ S (fun M L y O=>?_) b.chunks B.len B.each x a0;rw[← ar.out] at y;rw[← ab.out] at O;exact a4 M L y O
     obtain⟨g4,f8,f6,f7,cf⟩:=Ka c2.out (by omega);subst f8;have e5:=cf.c0 a.length S;have e6:=cf.c1 a.length S;simp only[SA] at e5 e6;have c5:RJ (cs[a.length].kind=1∨cs[a.length].kind=2∨cs[a.length].kind=3):=fl.out a.length S;have Y:RJ (cs.getD a.length ⟨⟨#[]⟩,0⟩=cs[a.length]):=by show _=_;rw[RX,RS S];rfl
     clear cf f c2 f6 f7;generalize a0:cs[a.length]=d at*;clear a0
     go_upto_region 7 with fail
     have bx:RJ (kz w (wr.alloc (.cells #[.string d.name,.int .i64 d.kind] 63)) j r q c e a):=P.out.below ((R5 _ _).alloc (RG _) _);have dq:RJ ((wr.alloc (.cells #[.string d.name,.int .i64 d.kind] 63)).heap[r]? =Ry (bh s k)):=by show _=_;rw[Sr _ _ r (by omega)];exact bt.out
     have db:RJ ((wr.alloc (.cells #[.string d.name,.int .i64 d.kind] 63)).heap[q]? =Ry (bh z l)):=by show _=_;rw[Sr _ _ q (by omega)];exact br.out
     have dC:RJ ((wr.alloc (.cells #[.string d.name,.int .i64 d.kind] 63)).heap[wr.heap.size]? =Ry (.cells #[.string d.name,.int .i64 d.kind] 63 (0,0))):=bG wr _;have g9:j<wr.heap.size:=RP P.out.box;generalize wr.alloc (.cells #[.string d.name,.int .i64 d.kind] 63)=g2 at*;generalize wr.heap.size=A at*;clear e5 e6 P bt br;clear wr
     go_wp2_with fail
     refine(iR r k s _ ck es dq.out).mono ?_;rintro N a6 ⟨ae,⟨v,rfl,e2,eQ,el,cb⟩|⟨m,rfl,G⟩⟩;rotate_left
     ·have I:RJ (∀ b,eg cs b→ag (bytesOf s) p (dW cs b)→¬ ag (bytesOf z) t (bN b.chunks)):=bj.out (fun M L y O=>G _ L.n (ap.1 y).1);have fg:RJ (iU r q w a6):=bx.out.kp.trans (iU.iD ae);clear G ae;go_wp2;exact⟨rfl,fg.out,.inr ⟨m,rfl,I.out⟩⟩
     ·have bB:RJ (v<2147483648):=e2;have bv:RJ (ag (bytesOf s) k (aA v)):=eQ;have e3:v≤2147483648:=by omega
      have bA:RJ (kz w a6 j r q c e a):=bx.out.step a3 a2 am (iU.iD ae);have dc:RJ (a6.heap[q]? =Ry (bh z l)):=Kp.block ae db.out (by omega);have dE:RJ (a6.heap[A]? =Ry (.cells #[.string d.name,.int .i64 d.kind] 63 (0,0))):=Kp.block ae dC.out (by omega);obtain⟨C,cp⟩:∃ C,C=k+(aA v).length:=⟨_,rfl⟩;have bo:RJ (C=k+(aA v).length):=cp;rw[← cp] at el cb;have dl:RJ (a6.heap[r]? =Ry (bh s C)):=cb;clear eQ cp ae cb bx dq db dC e2
      go_wp2_with fail
      refine(Ah q l v z _ gq cu e3 dc.out).mono ?_;rintro N o ⟨al,⟨g,rfl,e4,e0,em,d4⟩|⟨m,rfl,G⟩⟩;rotate_left
      ·have I:RJ (∀ b,eg cs b→ag (bytesOf s) p (dW cs b)→¬ ag (bytesOf z) t (bN b.chunks)):=bj.out (fun M L y O=>G (bytesOf M.text) (by rw[ai];exact bW (by have:=L.n;omega) (by have:=bB.out;omega) (ap.1 y).1 bv.out) O);have fi:RJ (iU r q w o):=bA.out.kp.trans (iU.CN al);clear G al;go_wp2;exact⟨rfl,fi.out,.inr ⟨m,rfl,I.out⟩⟩
      ·have dt:RJ (ag (bytesOf z) l (bytesOf g)):=e0;have bb:RJ (g.size=v):=e4;have ba:RJ (kz w o j r q c e a):=bA.out.step a3 a2 am (iU.CN al);have b0:RJ (o.heap[A]? =Ry (.cells #[.string d.name,.int .i64 d.kind] 63 (0,0))):=Kp.block al dE.out (by omega);have dr:RJ (o.heap[r]? =Ry (bh s C)):=Kp.block al dl.out (by omega);have dd:RJ (o.heap[q]? =Ry (bh z (l+v))):=d4;have ft:RJ (l+v≤z.size):=em;have dp:RJ (Sc (aa.of Rz) 131 #[.pointer (Ry ⟨r,0,RA⟩),.int .i64 d.kind] o.drew (FV o.drew r C s d.kind)):=xx d.kind c5.out r C s o.drew ck el dr.out;clear e0 e4 al d4 bA dE dl dc em e3;obtain⟨bd,a5,cv⟩:=ba.out.cells;have e7:o.cell? ⟨A,1,RA⟩=Ry (.int .i64 d.kind):=by have:=b0.out;simp[R2,this]
       have fa:RJ (d.kind=1∨d.kind=2∨d.kind=3):=c5.out
       go_upto_region 8 with fail
       refine Un.Eb (fun D=>D.cell? ⟨j,1,RA⟩=Ry e∧D.cell? ⟨A,1,RA⟩=Ry (.int .i64 d.kind)) 11 (by kernel_rfl) ?_;have aw:(fun D=>D.cell? ⟨j,1,RA⟩=Ry e∧D.cell? ⟨A,1,RA⟩=Ry (.int .i64 d.kind)) o.drew:=⟨a5,e7⟩;refine Un.pick (i:=0) (v:=?_) rfl (by kernel_rfl) (by kernel_rfl) (by kernel_rfl) (by kernel_rfl) (fun _ _ _ h=>h) (UD ⟨by rfl,?_⟩) (by assumption) ?_;rotate_left
       ·intro w _;go_simp
        try with_reducible rfl
       try simp only[Tc,R1,Sj,Sg]
       refine Un.take (i:=1) (v:=?_) rfl (by kernel_rfl) (by kernel_rfl) (by kernel_rfl) (by kernel_rfl) (by kernel_rfl) (by kernel_rfl) (fun _ _ _ h=>h) (UD ⟨by rfl,?_⟩) (by assumption) ?_;rotate_left
       ·intro w cd;(try dsimp only at cd);go_simp
        try with_reducible rfl
       try simp only[Tc,R1,Sj,Sg]
       refine Un.pick (i:=2) (v:=?_) rfl (by kernel_rfl) (by kernel_rfl) (by kernel_rfl) (by kernel_rfl) (fun _ _ _ h=>h) (UD ⟨by rfl,?_⟩) (by assumption) ?_;rotate_left
       ·intro w _;go_simp
        try with_reducible rfl
       try simp only[Tc,R1,Sj,Sg]
       refine Un.pick (i:=3) (v:=?_) rfl (by kernel_rfl) (by kernel_rfl) (by kernel_rfl) (by kernel_rfl) (fun _ _ _ h=>h) (UD ⟨by rfl,?_⟩) (by assumption) ?_;rotate_left
       ·intro w _;go_simp
        try with_reducible rfl
       try simp only[Tc,R1,Sj,Sg]
       refine Un.pick (i:=4) (v:=?_) rfl (by kernel_rfl) (by kernel_rfl) (by kernel_rfl) (by kernel_rfl) (fun _ _ _ h=>h) (UD ⟨by rfl,?_⟩) (by assumption) ?_;rotate_left
       ·intro w _;go_simp
        try with_reducible rfl
       try simp only[Tc,R1,Sj,Sg]
       refine Un.take (i:=5) (v:=?_) rfl (by kernel_rfl) (by kernel_rfl) (by kernel_rfl) (by kernel_rfl) (by kernel_rfl) (by kernel_rfl) (fun _ _ _ h=>h) (UD ⟨by rfl,?_⟩) (by assumption) ?_;rotate_left
       ·intro w cd;(try dsimp only at cd);go_simp
        try with_reducible rfl
       try simp only[Tc,R1,Sj,Sg]
       refine Un.one (i:=6) (by kernel_rfl) rfl (fun T F=>?_);rw[if_pos (by rfl)];go_simp;go_at_call 131;refine dp.out.mono ?_;rintro N u ⟨K,⟨b,rfl,d7,e1,en,d5⟩|⟨m,rfl,G⟩⟩;rotate_left
       ·have K:=(Kp.bS (r:=r) ((R5 o.heap.size o).drew)).trans K;have I:RJ (∀ b,eg cs b→ag (bytesOf s) p (dW cs b)→¬ ag (bytesOf z) t (bN b.chunks)):=bj.out (fun M L y O=>by
         unfold JD at y;obtain⟨bc,dO⟩:=ap.1 y;have f2:=bW (by have:=L.n;omega) (by have:=bB.out;omega) bc bv.out;rw[f2,Y.out,← bo.out] at dO;have B:=L.b;rw[Y.out] at B;exact G _ B dO)
        have fk:RJ (iU r q w u):=ba.out.kp.trans (iU.iD K);clear G K;exact⟨rfl,fk.out,.inr ⟨m,rfl,I.out⟩⟩
       ·have K:=(Kp.bS (r:=r) ((R5 o.heap.size o).drew)).trans K;unfold Ei;have J:RJ (kz w u j r q c e a):=ba.out.step a3 a2 am (iU.iD K);have ds:RJ (u.heap[r]? =Ry (bh s (C+(bL d.kind b).length))):=d5;have df:RJ (u.heap[q]? =Ry (bh z (l+v))):=Kp.block K dd.out (by omega);have ad:RJ (u.heap[A]? =Ry (.cells #[.string d.name,.int .i64 d.kind] 63 (0,0))):=Kp.block K b0.out (by omega);have e9:RJ (Jz d.kind b):=d7;have fz:RJ (ag (bytesOf s) C (bL d.kind b)):=e1;have fu:RJ (C+(bL d.kind b).length≤s.size):=en;obtain⟨-,cx,-⟩:=J.out.cells;have be:u.cell? ⟨A,1,RA⟩=Ry (.int .i64 d.kind):=by have:=ad.out;simp[R2,this]
        refine F.out _ _ (fun _=>⟨cx,be⟩) ?_;clear F T aw K d5 d7 e1 en bd a5 cv e7 ba b0 dr dd dp
        try simp only[Tc,R1,Sj,Sg]
        have aw:(fun D=>D.cell? ⟨j,1,RA⟩=Ry e∧D.cell? ⟨A,1,RA⟩=Ry (.int .i64 d.kind)) u:=⟨cx,be⟩;refine Un.pick (i:=7) (v:=?_) rfl (by kernel_rfl) (by kernel_rfl) (by kernel_rfl) (by kernel_rfl) (fun _ _ _ h=>h) (UD ⟨by rfl,?_⟩) (by assumption) ?_;rotate_left
        ·intro w _;go_simp
         try with_reducible rfl
        try simp only[Tc,R1,Sj,Sg]
        refine Un.one (i:=8) (by kernel_rfl) rfl (fun T F=>?_);rw[if_pos (by rfl)];go_simp;have dv:RJ (kz w (u.alloc (.cells (cH ⟨g,b⟩).toArray 143)) j r q c e a):=J.out.below ((R5 _ _).alloc (RG _) _);have e8:(u.alloc (.cells (cH ⟨g,b⟩).toArray 143)).cell? ⟨A,1,RA⟩=Ry (.int .i64 d.kind):=(((R5 u.heap.size u).alloc (RG _) _).cell (p:=⟨A,1,RA⟩) (RP ad.out)).trans be;refine F.out _ _ (fun _=>⟨dv.out.cells.2.1,e8⟩) ?_;clear F T aw
        try simp only[Tc,R1,Sj,Sg]
        refine Un.one (i:=9) (by kernel_rfl) rfl (fun T F=>?_);have er:=J.out.own;have hf:w.heap.size≤u.heap.size:=J.out.kp.size;refine step_append_lies _ (by rfl) _ _ 137 (by rfl) w.heap.size 143 gr _ 8 88 aa.underlying137 f9 gj gl gn rfl (by decide) e a.length _ (by rfl) (er.alloc _) ⟨u.heap.size,0,RA⟩ 1 1 (cH ⟨g,b⟩) (by rfl) rfl (v9 u ⟨g,b⟩ _) (sQ _) (by decide) (by unfold R3;omega) (by omega) (by simp;omega) _ rfl ?_;intro E Q X cl d9 d6 gf;have ao:=aK.nt (n:=a.length+1) (cap:=Q) d9 d6;have eq:X.ownsRow w.heap.size 143 8 (.slice (Ry ⟨E,0,RA⟩) (a.length+1) Q) (a ++ [(⟨g,b⟩:ju)]).length (dx (a ++ [(⟨g,b⟩:ju)])):=by
         unfold dx at cl ⊢;rw[SU,SO,RI];exact cl
        have fd:RJ (kz w (X.setCell ⟨j,1,RA⟩ (.slice (Ry ⟨E,0,RA⟩) (a.length+1) Q)) j r q c (.slice (Ry ⟨E,0,RA⟩) (a.length+1) Q) (a ++ [(⟨g,b⟩:ju)])):=J.out.jv am ao eq;have bu:RJ ((X.setCell ⟨j,1,RA⟩ (.slice (Ry ⟨E,0,RA⟩) (a.length+1) Q)).heap[r]? =Ry (bh s (C+(bL d.kind b).length))):=J.out.reader am ao a3 ds.out;have bs:RJ ((X.setCell ⟨j,1,RA⟩ (.slice (Ry ⟨E,0,RA⟩) (a.length+1) Q)).heap[q]? =Ry (bh z (l+v))):=J.out.reader am ao a2 df.out;obtain⟨cR,g0⟩:=J.out.kept ao;have c0:X.cell? ⟨A,1,RA⟩=Ry (.int .i64 d.kind):=by
         have:=(ao.fS.block _ (RP ad.out) (bw J.out.own ad.out (by decide))).trans ad.out;simp[R2,this]
        refine F.out _ _ (fun _=>⟨cR,c0⟩) ?_;clear F T er cl d9 d6 gf eq ao
        try simp only[Tc,R1,Sj,Sg]
        have aw:(fun D=>D.cell? ⟨j,1,RA⟩=Ry e∧D.cell? ⟨A,1,RA⟩=Ry (.int .i64 d.kind)) X:=⟨cR,c0⟩;refine Un.pick (i:=10) (v:=?_) rfl (by kernel_rfl) (by kernel_rfl) (by kernel_rfl) (by kernel_rfl) (fun _ _ _ h=>h) (UD ⟨by rfl,?_⟩) (by assumption) ?_;rotate_left
        ·intro w _;go_simp
         try with_reducible rfl
        try simp only[Tc,R1,Sj,Sg]
        refine Un.one (i:=11) (by kernel_rfl) rfl (fun T F=>?_);rw[if_pos (by rfl)];go_simp;refine F.out _ _ (fun h=>absurd h (by decide)) ?_;clear F T aw cR g0 c0 cx be e8;refine Un.done (by kernel_rfl) ?_ _
        try simp only[Tc,R1,Sj,Sg]
        clear J dv ds df ad;generalize X.setCell ⟨j,1,RA⟩ (.slice (Ry ⟨E,0,RA⟩) (a.length+1) Q)=g1 at*;generalize SS (Ry ⟨E,0,RA⟩) (a.length+1) Q=hg at*;have c1:RJ (BR cs a.length ⟨g,b⟩):=⟨by have:=bb.out;have:=bB.out;show g.size<_;omega,by rw[Y.out];exact e9.out⟩;have du:RJ (ag (bytesOf s) k (JD cs a ⟨g,b⟩)):=by
         show ag _ _ (aA g.size ++ bL (cs.getD a.length ⟨⟨#[]⟩,0⟩).kind b);rw[bb.out,Y.out];exact ap.2 ⟨bv.out,by rw[← bo.out];exact fz.out⟩
        have c6:RJ (n+(ry cs (a ++ [(⟨g,b⟩:ju)])).length=C+(bL d.kind b).length):=by
         show _=_;rw[sN,RI];have R:(JD cs a ⟨g,b⟩).length=(aA v).length+(bL d.kind b).length:=by
          show(aA g.size ++ bL (cs.getD a.length ⟨⟨#[]⟩,0⟩).kind b).length=_;rw[bb.out,Y.out,RI]
         have x:=ar.out;have y:=bo.out;omega
        have c7:RJ (t+(bN (a ++ [(⟨g,b⟩:ju)])).length=l+v):=by
         show _=_;rw[qZ,RI,ai];have R:=ab.out;have x:=bb.out;simp only;omega
        have fv:RJ (Q2 (ry cs) bN (BR cs) (bytesOf s) n (bytesOf z) t cs.length (a ++ [(⟨g,b⟩:ju)])):=by
         refine Z.out.more (e:=JD cs) (g:=fun _ d=>bytesOf d.text) (sN cs) qZ S c1.out (by rw[← ar.out];exact du.out) (by rw[← ab.out];exact dt.out) (fun M L y O=>?_);rw[← ar.out] at y;rw[← ab.out] at O;exact OM (by rw[Y.out];exact fa.out) c1.out L du.out y dt.out O
        go_wp2_with fail
        go_roundw
        case rel=>exact⟨a ++ [(⟨g,b⟩:ju)],_,by rw[RI];go_num,fv.out,fd.out,by rw[c6.out];exact fu.out,by rw[c6.out];exact bu.out,by rw[c7.out];exact ft.out,by rw[c7.out];exact bs.out⟩
        case measure=>simp[SC];omega
    ·have a7:=Z.out.done S;obtain⟨gt,gs,ee⟩:=dA f.own;rw[a7.1] at ee;subst ee;generalize gc:SS gt cs.length gs=e at f;obtain⟨bd,a5,-⟩:=f.cells;have R:=RZ wr w.heap.size 0 _ _ (.int .i64 (c:Int)) f.res;have x:=RZ _ w.heap.size 1 _ _ e R;have fx:RJ (((wr.setCell ⟨w.heap.size,0,RA⟩ (.int .i64 (c:Int))).setCell ⟨w.heap.size,1,RA⟩ e).ownsRow w.heap.size 143 8 e a.length (dx a)):=by
      have bc:=f.own.kept (aJ wr w.heap.size 0 (.int .i64 (c:Int))) (.inr (bw f.own f.res (by decide)).symm);exact bc.kept (aJ _ w.heap.size 1 e) (.inr (bw bc R (by decide)).symm)
     have fm:RJ (iU r q w ((wr.setCell ⟨w.heap.size,0,RA⟩ (.int .i64 (c:Int))).setCell ⟨w.heap.size,1,RA⟩ e)):=(f.kp.grown (aJ wr w.heap.size 0 _) (fun f3 N=>by cases N;exact RG _)).grown (aJ _ w.heap.size 1 _) (fun f3 N=>by cases N;exact RG _);have bu:RJ (((wr.setCell ⟨w.heap.size,0,RA⟩ (.int .i64 (c:Int))).setCell ⟨w.heap.size,1,RA⟩ e).heap[r]? =Ry (bh s k)):=by
      show _=_;rw[R6 _ _ _ _ (by simp;omega),R6 _ _ _ _ (by simp;omega)];exact bt.out
     have bs:RJ (((wr.setCell ⟨w.heap.size,0,RA⟩ (.int .i64 (c:Int))).setCell ⟨w.heap.size,1,RA⟩ e).heap[q]? =Ry (bh z l)):=by
      show _=_;rw[R6 _ _ _ _ (by simp;omega),R6 _ _ _ _ (by simp;omega)];exact br.out
     have hh:wr.cell? ⟨w.heap.size,0,RA⟩=Ry (.int .i64 0):=by have:=f.res;simp[R2,this]
     have hi:wr.cell? ⟨w.heap.size,1,RA⟩=Ry (.slice RA 0 0):=by have:=f.res;simp[R2,this]
     have g5:wr.frozen? ⟨w.heap.size,0,RA⟩=RE:=by have:=f.res;simp[SH,this]
     have g6:wr.frozen? ⟨w.heap.size,1,RA⟩=RE:=by have:=f.res;simp[SH,this]
     have gv:((wr.setCell ⟨w.heap.size,0,RA⟩ (.int .i64 (c:Int))).setCell ⟨w.heap.size,1,RA⟩ e).cell? ⟨w.heap.size,0,RA⟩=Ry (.int .i64 (c:Int)):=by simp[R2,x]
     have gx:((wr.setCell ⟨w.heap.size,0,RA⟩ (.int .i64 (c:Int))).setCell ⟨w.heap.size,1,RA⟩ e).cell? ⟨w.heap.size,1,RA⟩=Ry e:=by simp[R2,x]
     have bi:RJ ((dW cs ⟨c,a⟩).length+p=k∧ag (bytesOf s) p (dW cs ⟨c,a⟩)):=by
      have b2:=bm.out;have E:=ar.out;refine⟨by show(aA c ++ ry cs a).length+p=k;rw[RI];omega,?_⟩;exact ap.2 ⟨a9.out,by rw[← b2];exact Z.out.st⟩
     have f1:RJ (∀ U,eg cs U→ag (bytesOf s) p (dW cs U)→ag (bytesOf z) t (bN U.chunks)→U=⟨c,a⟩):=fun U ce W a0=>by
      obtain⟨b2,E⟩:=ap.1 W;have a1:=bW (by have:=ce.hi;omega) (by have:=c8.out;omega) b2 a9.out;rw[a1,← bm.out] at E;have ef:=a7.2 U.chunks ce.len ce.each E a0;obtain⟨g3,b⟩:=U;simp only at a1 ef;rw[a1,ef]
     have c3:RJ (eg cs ⟨c,a⟩):=⟨c4.out.1,c4.out.2,a7.1,Z.out.O3⟩;have f0:RJ (ag (bytesOf z) t (bN a)):=Z.out.sc;clear R x f a7 ge S;subst gc;have hb:a.length=cs.length:=c3.out.len;go_wp2;simp[TV,SD,Tryz.results96,go_sem,gv,gx]
     trace_state
     exact⟨fm.out,.inl ⟨⟨c,a⟩,_,rfl,c3.out,bi.out.2,by have:=bi.out.1;omega,by have:=bi.out.1;rw[show p+(dW cs ⟨c,a⟩).length=k by omega];exact bu.out,f0.out,by rw[← ab.out];exact cu,by rw[← ab.out];exact bs.out,fx.out,f1.out⟩⟩
structure kC(w W:RD)(g r q:Nat)(l:List (bO×Int))(co eo:Option Sl)(cc ec:Nat)(bv:RB)(L:List (Bd×RB)):Prop where
 res:W.heap[w.heap.size]? =Ry (.cells #[.slice RA 0 0,.slice RA 0 0,.slice RA 0 0] 105 (0,0))
 box:W.heap[g]? =Ry (.cells #[.slice co l.length cc,.slice eo l.length ec,bv] 105 (0,0))
 ah:W.ownsRow w.heap.size 63 2 (.slice co l.length cc) l.length (dN (l.map Sb))
 mF:W.ownsRow w.heap.size 3 1 (.slice eo l.length ec) l.length (aY (l.map TK))
 bU:ij W w.heap.size bv L
 kp:iU r q w W
theorem kC.step{w c d:RD}{g r q:Nat}{l:List (bO×Int)}{co j:Option Sl}{f i:Nat}{e:RB}{L:List (Bd×RB)}(h:kC w c g r q l co j f i e L)(b:r<w.heap.size)(a:q<w.heap.size)(o:w.heap.size<g)(k:iU r q c d):kC w d g r q l co j f i e L:=
 ⟨k.keep h.res (by omega) (by omega),k.keep h.box (by omega) (by omega),k.own h.ah b a,k.own h.mF b a,⟨k.own h.bU.own b a,fun n m=>k.own (h.bU.each n m) b a⟩,h.kp.trans k⟩
theorem kC.below{w b c:RD}{g r q:Nat}{l:List (bO×Int)}{co i:Option Sl}{e f:Nat}{d:RB}{L:List (Bd×RB)}(h:kC w b g r q l co i e f d L)(a:RQ b.heap.size b c):kC w c g r q l co i e f d L:=
 ⟨(a.block _ (RP h.res)).trans h.res,(a.block _ (RP h.box)).trans h.box,aQ h.ah a,aQ h.mF a,h.bU.below a,h.kp.trans (iU.bS a)⟩
theorem kC.cells{w a:RD}{g r q:Nat}{l:List (bO×Int)}{co f:Option Sl}{d e:Nat}{c:RB}{L:List (Bd×RB)}(h:kC w a g r q l co f d e c L):
 a.cell? ⟨g,0,RA⟩=Ry (.slice co l.length d)∧a.cell? ⟨g,1,RA⟩=Ry (.slice f l.length e)∧a.cell? ⟨g,2,RA⟩=Ry c∧a.frozen? ⟨g,2,RA⟩=RE:=by
 have b:=h.box;exact⟨by simp[R2,b],by simp[R2,b],by simp[R2,b],by simp[SH,b]⟩
theorem kC.kept{w c a:RD}{g r q:Nat}{l:List (bO×Int)}{co j:Option Sl}{f i:Nat}{b e:RB}{L:List (Bd×RB)}(h:kC w c g r q l co j f i b L)(k:aK c a b e):
 a.cell? ⟨g,2,RA⟩=Ry b∧a.frozen? ⟨g,2,RA⟩=RE:=by
 have d:=(k.fS.block _ (RP h.box) (bw h.bU.own h.box (by decide))).trans h.box;exact⟨by simp[R2,d],by simp[SH,d]⟩
theorem kC.jv{w i c:RD}{g r q:Nat}{l:List (bO×Int)}{co p:Option Sl}{n o:Nat}{j a:RB}{L:List (Bd×RB)}(h:kC w i g r q l co p n o j L)(A:w.heap.size<g)(d:aK i c j a){b:Bd}{f:RB}(y:i.ownsRow w.heap.size 143 8 f b.chunks.length (dx b.chunks))
 (z:c.ownsRow w.heap.size 139 2 a (L ++ [(b,f)]).length (mE (L ++ [(b,f)]))):kC w (c.setCell ⟨g,2,RA⟩ a) g r q l co p n o a (L ++ [(b,f)]):=by
 have u:=(d.fS.block _ (RP h.res) (bw h.bU.own h.res (by decide))).trans h.res;have e:=(d.fS.block _ (RP h.box) (bw h.bU.own h.box (by decide))).trans h.box;have v:=RZ c g 2 _ _ a e;have k:=cZ h.ah d (ox h.ah h.bU.own (by decide));have m:=cZ h.mF d (ox h.mF h.bU.own (by decide));refine⟨?_,v,k.kept (aJ c _ 2 a) (.inr (bw k e (by decide)).symm),m.kept (aJ c _ 2 a) (.inr (bw m e (by decide)).symm),(h.bU.snoc d y z).put e (by decide) (by decide) _ _,?_⟩
 ·rw[R6 _ _ _ _ (by simp;omega)];exact u
 ·exact(h.kp.grown d.fS (fun s x=>(h.bU.own.lt s x).1)).grown (aJ c g 2 a) (fun s t=>by cases t;omega)
theorem kC.reader{w a b:RD}{g r q:Nat}{l:List (bO×Int)}{co m:Option Sl}{f k:Nat}{c d:RB}{L:List (Bd×RB)}(h:kC w a g r q l co m f k c L)(p:w.heap.size<g)(n:aK a b c d){i:Nat}{o:UQ}(s:i<w.heap.size)(e:a.heap[i]? =Ry o):(b.setCell ⟨g,2,RA⟩ d).heap[i]? =Ry o:=by
 rw[R6 _ _ _ _ (by simp;omega),n.fS.block i (RP e) (fun j=>by have:=(h.bU.own.lt i j.symm).1;omega)];exact e
theorem ye{B a:List Nat}(h:ag B 0 a)(c:B.length≤a.length):B=a:=by
 have b:a <+:B:=by simpa [ag] using h
 exact(b.eq_of_length_le c).symm
theorem sE(cs:List bO)(bs:List Bd)(b:Bd):cA cs (bs ++ [b])=cA cs bs ++ dW cs b:=by
 unfold cA;rw[SU,SO]
theorem GW(cs:List bO)(b:Bd):1≤(dW cs b).length:=by unfold dW;rw[RI];have:=DQ b.rows;omega
theorem GX(cs:List bO)(bs:List Bd):bs.length≤(cA cs bs).length:=by
 induction bs with
 |nil=>simp
 |cons a c b=>
  have:=GW cs a;unfold cA at b ⊢;rw[Ui,RI,TA];omega
theorem Oo{cs:List bO}{bs:List Bd}(h:∀ b∈bs,eg cs b):rf (fun _=>eg cs) bs:=fun c a=>h _ (RV a)
theorem OR{cs:List bO}{bs:List Bd}(h:rf (fun _=>eg cs) bs):∀ b∈bs,eg cs b:=fun b a=>by
 obtain⟨d,c,rfl⟩:=To a;exact h d c
theorem KM{l:List (bO×Int)}(h:l7 l):∀ i (h:i<(l.map Sb).length),(l.map Sb)[i].kind=1∨(l.map Sb)[i].kind=2∨(l.map Sb)[i].kind=3:=by
 intro i a;have:=(h.1.2.2 i a).1;simp only[n6,fJ,R7,decide_eq_true_eq] at this;omega
def P3 (w:RD)(r:Nat)(s:ByteArray)(q:Nat)(z:ByteArray)(e:Uw)(w':RD):Prop:=
 iU r q w w'∧((∃ (a:List (bO×Int)) (b:List Bd) (f:List (Bd×RB)) (i k:Option Sl) (h j:Nat) (g:RB),e= .returned (.agg #[.slice i a.length h,.slice k a.length j,g])∧si a b∧f.map Sb=b∧ag (bytesOf s) 0 (m8 a b)∧(m8 a b).length≤s.size∧w'.heap[r]? =Ry (bh s (m8 a b).length)∧bytesOf z=bC b∧
  w'.ownsRow w.heap.size 63 2 (.slice i a.length h) a.length (dN (a.map Sb))∧w'.ownsRow w.heap.size 3 1 (.slice k a.length j) a.length (aY (a.map TK))∧ij w' w.heap.size g f∧(∀ d c,si d c→ag (bytesOf s) 0 (m8 d c)→bytesOf z=bC c→d=a∧c=b))∨
  (∃ m,e= .panicked (dV m)∧∀ a b,si a b→ag (bytesOf s) 0 (m8 a b)→bytesOf z≠bC b))
theorem xz(r q:Nat)(s z:ByteArray)(w:RD)(gq:r≠q)(el:s.size≤65536)(gx:z.size≤65536)(h:w.heap[r]? =Ry (bh s 0))(k:w.heap[q]? =Ry (bh z 0)):
 Sc (aa.of Rz) 64 #[.pointer (Ry ⟨r,0,RA⟩),.pointer (Ry ⟨q,0,RA⟩)] w (P3 w r s q z):=by
 obtain⟨gy,ge,gs,gt,gv⟩:=S3 aa.F9;have a7:r<w.heap.size:=RP h;have a6:q<w.heap.size:=RP k;have gi:s.size≤R3:=by unfold R3;omega
 have e1:z.size≤R3:=by unfold R3;omega
 have df:RJ ((w.alloc (.cells #[.slice RA 0 0,.slice RA 0 0,.slice RA 0 0] 105)).heap[r]? =Ry (bh s 0)):=by
  show _=_;rw[Sr _ _ r a7];exact h
 have da:RJ ((w.alloc (.cells #[.slice RA 0 0,.slice RA 0 0,.slice RA 0 0] 105)).heap[q]? =Ry (bh z 0)):=by
  show _=_;rw[Sr _ _ q a6];exact k
 have bt:RJ (iU r q w (w.alloc (.cells #[.slice RA 0 0,.slice RA 0 0,.slice RA 0 0] 105))):=(iU.refl r q w).alloc _;clear h k;go_enter aa.func64,Tryz.ntmps64
 go_wp2_with fail
 refine(uU r 0 s _ el (Sk _) df.out).mono ?_;rintro p I ⟨Y,⟨a,g6,g7,rfl,ab,eq,eb,cf,ck,cl,eQ⟩|⟨m,rfl,T⟩⟩;rotate_left
 ·have L:RJ (∀ a b,si a b→ag (bytesOf s) 0 (m8 a b)→bytesOf z≠bC b):=fun a b l E=>(T a l.pl (ap.1 E).1).elim;have fd:RJ (iU r q w I):=bt.out.trans (iU.iD Y);clear T Y;go_wp2;exact⟨rfl,fd.out,.inr ⟨m,rfl,L.out⟩⟩
 ·obtain⟨d,e,rfl⟩:=dA ck;obtain⟨f,g,rfl⟩:=dA cl;have dO:I.heap[q]? =Ry (bh z 0):=Kp.block Y da.out (by omega);have H:kC w (I.alloc (.cells #[.slice d a.length e,.slice f a.length g,.slice RA 0 0] 105)) I.heap.size r q a d f e g (.slice RA 0 0) []:=by
   refine⟨?_,bG I _,(bz ck (by simp)).alloc _,(bz cl (by simp)).alloc _,⟨T6 _ _ _ _,fun hh gn=>by simp at gn⟩,(bt.out.trans (iU.iD Y)).alloc _⟩;have:=Kp.block Y (TN w (.cells #[.slice RA 0 0,.slice RA 0 0,.slice RA 0 0] 105)) (by omega);exact alloc_old _ (by simpa using RP this) this
  have a4:w.heap.size<I.heap.size:=by have:=Y.size;simp at this;omega
  obtain⟨O,cu⟩:∃ O,O=(vw a).length:=⟨_,rfl⟩;rw[SA,← cu] at eb cf;have bv:RJ (O=(vw a).length):=cu;have f3:RJ (ag (bytesOf s) 0 (vw a)):=eq;have c9:RJ (l7 a):=ab;have du:RJ (∀ j,l7 j→ag (bytesOf s) 0 (vw j)→j=a):=eQ;have d2:(I.alloc (.cells #[.slice d a.length e,.slice f a.length g,.slice RA 0 0] 105)).heap[r]? =Ry (bh s O):=by rw[Sr _ _ r (by omega)];exact cf
  have d0:(I.alloc (.cells #[.slice d a.length e,.slice f a.length g,.slice RA 0 0] 105)).heap[q]? =Ry (bh z 0):=by rw[Sr _ _ q (by omega)];exact dO
  have ef:a.length≤8:=by have:=ab.1.2.1;simpa using this
  have e6:RJ ((a.map Sb).length≤8):=by show _≤_;simpa using ef
  go_upto_region 3 with fail
  generalize I.alloc (.cells #[.slice d a.length e,.slice f a.length g,.slice RA 0 0] 105)=b2 at*;generalize I.heap.size=x at*;have dp:RJ (b2.heap[r]? =Ry (bh s O)):=d2;have dc:RJ (b2.heap[q]? =Ry (bh z 0)):=d0;have J:RJ (kC w b2 x r q a d f e g (.slice RA 0 0) []):=H;clear eq cu d2 d0 H ab eQ ck cl Y cf dO df da bt ef;clear I
  go_wp2_with fail
  refine(iR r O s _ gi eb dp.out).mono ?_;rintro p bo ⟨a3,⟨t,rfl,em,er,ec,ch⟩|⟨m,rfl,T⟩⟩;rotate_left
  ·have L:RJ (∀ a b,si a b→ag (bytesOf s) 0 (m8 a b)→bytesOf z≠bC b):=fun j b l E _=>by
    obtain⟨y,k⟩:=ap.1 E;obtain rfl:=du.out j l.pl y;rw[SA,← bv.out] at k;refine T _ ?_ (ap.1 k).1;have A:=xG b (fun c Z=>(l.bU c Z).lo);have:=l.rows;omega
   have fe:RJ (iU r q w bo):=J.out.kp.trans (iU.iD a3);clear T a3;go_wp2;exact⟨rfl,fe.out,.inr ⟨m,rfl,L.out⟩⟩
  ·have ds:RJ (kC w bo x r q a d f e g (.slice RA 0 0) []):=J.out.step a7 a6 a4 (iU.iD a3);have dd:RJ (bo.heap[q]? =Ry (bh z 0)):=Kp.block a3 dc.out (by omega);obtain⟨D,cv⟩:∃ D,D=O+(aA t).length:=⟨_,rfl⟩;have c8:RJ (D=O+(aA t).length):=cv;rw[← cv] at ec ch;have dq:RJ (bo.heap[r]? =Ry (bh s D)):=ch;have dr:RJ (ag (bytesOf s) O (aA t)):=er;have fu:RJ (t<2147483648):=em;have gj:(t:Int)<2147483648:=by omega
   have c4:RJ (∀ j o,si j o→ag (bytesOf s) 0 (m8 j o)→j=a∧o.length=t∧ag (bytesOf s) D (cA (a.map Sb) o)):=fun j o l E=>by
    obtain⟨y,k⟩:=ap.1 E;obtain rfl:=du.out j l.pl y;rw[SA,← bv.out] at k;obtain⟨A,Q⟩:=ap.1 k;have ca:=xG o (fun c Z=>(l.bU c Z).lo);have hc:=l.rows;have d7:=bW (by omega) (by have:=fu.out;omega) A dr.out;rw[d7,← c8.out] at Q;exact⟨rfl,d7,Q⟩
   clear er cv a3 ch J dp dc em
   go_wp2_with fail
   go_loopw [18] (fun c0 wr=>∃ (b:List Bd) (n:List (Bd×RB)) (i:RB),c0= .int .i64 (b.length:Int)∧n.map Sb=b∧Q2 (cA (a.map Sb)) bC (fun _=>eg (a.map Sb)) (bytesOf s) D (bytesOf z) 0 t b∧kC w wr x r q a d f e g i n∧D+(cA (a.map Sb) b).length≤s.size∧wr.heap[r]? =Ry (bh s (D+(cA (a.map Sb) b).length))∧(bC b).length≤z.size∧wr.heap[q]? =Ry (bh z (bC b).length)) (fun c0 _=>t - (SC c0).toNat)
   case atStart=>exact⟨[],[],_,rfl,rfl,Q2.zero rfl rfl,ds.out,by simpa [cA] using ec,by simpa [cA] using dq.out,by simp[bC],by simpa [bC] using dd.out⟩
   case round=>
    clear ds dq dd;obtain⟨b,n,i,rfl,cb,cc,H,ab,ce,et,cd⟩:=hrel;have V:RJ (Q2 (cA (a.map Sb)) bC (fun _=>eg (a.map Sb)) (bytesOf s) D (bytesOf z) 0 t b):=cc;have J:RJ (kC w wr x r q a d f e g i n):=H;have ba:RJ (n.map Sb=b):=cb;have bu:RJ (n.length=b.length):=by show _=_;rw[← cb,Sy]
    have d4:b.length≤65536:=by have:=GX (a.map Sb) b;omega
    obtain⟨u,cx⟩:∃ u,u=D+(cA (a.map Sb) b).length:=⟨_,rfl⟩;obtain⟨v,U⟩:∃ v,v=(bC b).length:=⟨_,rfl⟩;have ar:RJ (u=D+(cA (a.map Sb) b).length):=cx;have am:RJ (v=(bC b).length):=U;rw[← cx] at ab ce;rw[← U] at et cd;have a0:RJ (wr.heap[r]? =Ry (bh s u)):=ce;have aw:RJ (wr.heap[q]? =Ry (bh z v)):=cd;have gf:b.length≤t:=cc.le;have gr:w.heap.size≤wr.heap.size:=H.kp.size;clear cc cx U ce cd cb;by_cases be:b.length<t
    ·have e9:RJ ((∀ B,eg (a.map Sb) B→ag (bytesOf s) u (dW (a.map Sb) B)→¬ ag (bytesOf z) v (bN B.chunks))→∀ a b,si a b→ag (bytesOf s) 0 (m8 a b)→bytesOf z≠bC b):=fun U j o l E S=>by
      obtain⟨y,k,A⟩:=c4.out j o l E;rw[y] at l;refine V.out.fail (e:=fun _ B=>dW (a.map Sb) B) (g:=fun _ B=>bN B.chunks) (sE _) qO be (fun B cR Q ca=>?_) o k (Oo l.bU) A (eu S.symm);rw[← ar.out] at Q;rw[SA,← am.out] at ca;exact U B cR Q ca
     have dl:RJ (Sc (aa.of Rz) 96 #[.pointer (Ry ⟨r,0,RA⟩),.pointer (Ry ⟨q,0,RA⟩),.slice d a.length e] wr.drew (PY (a.map Sb) wr.drew r u s q v z)):=Bb (a.map Sb) _ r u q v w.heap.size s z wr.drew gq el gx ab et a0.out aw.out a7 a6 (by rw[Sy];exact(aQ J.out.ah ((R5 wr.heap.size wr).drew))) e6.out (KM c9.out);obtain⟨bi,bj,a8,bl⟩:=H.cells;clear H
     go_upto_region 5 with fail
     refine Un.Eb (fun X=>X.cell? ⟨x,2,RA⟩=Ry i) 9 (by kernel_rfl) ?_;have a2:(fun X=>X.cell? ⟨x,2,RA⟩=Ry i) wr.drew:=a8;refine Un.pick (i:=0) (v:=?_) rfl (by kernel_rfl) (by kernel_rfl) (by kernel_rfl) (by kernel_rfl) (fun _ _ _ h=>h) (UD ⟨by rfl,?_⟩) (by assumption) ?_;rotate_left
     ·intro w _;go_simp
      try with_reducible rfl
     try simp only[Tc,R1,Sj,Sg]
     refine Un.take (i:=1) (v:=?_) rfl (by kernel_rfl) (by kernel_rfl) (by kernel_rfl) (by kernel_rfl) (by kernel_rfl) (by kernel_rfl) (fun _ _ _ h=>h) (UD ⟨by rfl,?_⟩) (by assumption) ?_;rotate_left
     ·intro w f9;(try dsimp only at f9);go_simp
      try with_reducible rfl
     try simp only[Tc,R1,Sj,Sg]
     refine Un.pick (i:=2) (v:=?_) rfl (by kernel_rfl) (by kernel_rfl) (by kernel_rfl) (by kernel_rfl) (fun _ _ _ h=>h) (UD ⟨by rfl,?_⟩) (by assumption) ?_;rotate_left
     ·intro w _;go_simp
      try with_reducible rfl
     try simp only[Tc,R1,Sj,Sg]
     refine Un.pick (i:=3) (v:=?_) rfl (by kernel_rfl) (by kernel_rfl) (by kernel_rfl) (by kernel_rfl) (fun _ _ _ h=>h) (UD ⟨by rfl,?_⟩) (by assumption) ?_;rotate_left
     ·intro w _;go_simp
      try with_reducible rfl
     try simp only[Tc,R1,Sj,Sg]
     refine Un.pick (i:=4) (v:=?_) rfl (by kernel_rfl) (by kernel_rfl) (by kernel_rfl) (by kernel_rfl) (fun _ _ _ h=>h) (UD ⟨by rfl,?_⟩) (by assumption) ?_;rotate_left
     ·intro w _;go_simp
      try with_reducible rfl
     try simp only[Tc,R1,Sj,Sg]
     refine Un.one (i:=5) (by kernel_rfl) rfl (fun W G=>?_);rw[if_pos (by rfl)];go_simp;go_at_call 96;refine dl.out.mono ?_;rintro p K ⟨R,⟨c,hg,rfl,d5,es,ee,d1,d6,eh,dT,cn,e0⟩|⟨m,rfl,T⟩⟩;rotate_left
     ·have R:=(iU.bS (r:=r) (q:=q) ((R5 wr.heap.size wr).drew)).trans R;have L:RJ (∀ a b,si a b→ag (bytesOf s) 0 (m8 a b)→bytesOf z≠bC b):=e9.out T;have fg:RJ (iU r q w K):=J.out.kp.trans R;clear T R;exact⟨rfl,fg.out,.inr ⟨m,rfl,L.out⟩⟩
     ·have R:=(iU.bS (r:=r) (q:=q) ((R5 wr.heap.size wr).drew)).trans R;obtain⟨ae,ad,rfl⟩:=dA cn;have M:RJ (kC w K x r q a d f e g i n):=J.out.step a7 a6 a4 R;have c5:RJ (K.ownsRow w.heap.size 143 8 (.slice ae c.chunks.length ad) c.chunks.length (dx c.chunks)):=bz cn (by simpa using gr);have e4:RJ (eg (a.map Sb) c):=d5;have f4:RJ (ag (bytesOf s) u (dW (a.map Sb) c)):=es;have fk:RJ (u+(dW (a.map Sb) c).length≤s.size):=ee;have dk:RJ (K.heap[r]? =Ry (bh s (u+(dW (a.map Sb) c).length))):=d1;have e5:RJ (ag (bytesOf z) v (bN c.chunks)):=d6;have fl:RJ (v+(bN c.chunks).length≤z.size):=eh;have db:RJ (K.heap[q]? =Ry (bh z (v+(bN c.chunks).length))):=dT;have f6:RJ (∀ bc,eg (a.map Sb) bc→ag (bytesOf s) u (dW (a.map Sb) bc)→ag (bytesOf z) v (bN bc.chunks)→bc=c):=e0;have c2:=M.out.cells.2.2.1;refine G.out _ _ (fun _=>c2) ?_;clear G W a2 R cn d5 es ee d1 d6 eh dT e0 bi bj a8 bl dl J a0 aw
      try simp only[Tc,R1,Sj,Sg]
      have a2:(fun X=>X.cell? ⟨x,2,RA⟩=Ry i) K:=c2;refine Un.one (i:=6) (by kernel_rfl) rfl (fun W G=>?_);rw[if_pos (by rfl)];go_simp;have dt:RJ (kC w (K.alloc (.cells (kN (c,.slice ae c.chunks.length ad)).toArray 139)) x r q a d f e g i n):=M.out.below ((R5 _ _).alloc (RG _) _);refine G.out _ _ (fun _=>dt.out.cells.2.2.1) ?_;clear G W a2
      try simp only[Tc,R1,Sj,Sg]
      refine Un.one (i:=7) (by kernel_rfl) rfl (fun W G=>?_);have cp:=M.out.bU.own;rw[bu.out] at cp;have hf:w.heap.size≤K.heap.size:=M.out.kp.size;refine step_append_lies _ (by rfl) _ _ 103 (by rfl) w.heap.size 139 gy _ 2 32 aa.underlying103 ge gs gt gv rfl (by decide) i b.length _ (by rfl) (cp.alloc _) ⟨K.heap.size,0,RA⟩ 1 1 (kN (c,.slice ae c.chunks.length ad)) (by rfl) rfl (GB K _ _ _) (by intro v U;simp[kN] at U;rcases U with rfl|rfl<;>rfl) (by decide) (by unfold R3;omega) (by omega) (by simp;omega) _ rfl ?_;intro N P ao cs d9 d3 gg;have a5:=aK.nt (n:=b.length+1) (cap:=P) d9 d3;have en:ao.ownsRow w.heap.size 139 2 (.slice (Ry ⟨N,0,RA⟩) (b.length+1) P) (n ++ [(c,SS ae c.chunks.length ad)]).length (mE (n ++ [(c,SS ae c.chunks.length ad)])):=by
       unfold mE at cs ⊢;rw[SU,SO,RI,bu.out];exact cs
      have fa:RJ (kC w (ao.setCell ⟨x,2,RA⟩ (.slice (Ry ⟨N,0,RA⟩) (b.length+1) P)) x r q a d f e g (.slice (Ry ⟨N,0,RA⟩) (b.length+1) P) (n ++ [(c,SS ae c.chunks.length ad)])):=M.out.jv a4 a5 c5.out en;have b0:RJ ((ao.setCell ⟨x,2,RA⟩ (.slice (Ry ⟨N,0,RA⟩) (b.length+1) P)).heap[r]? =Ry (bh s (u+(dW (a.map Sb) c).length))):=M.out.reader a4 a5 a7 dk.out;have f0:RJ ((ao.setCell ⟨x,2,RA⟩ (.slice (Ry ⟨N,0,RA⟩) (b.length+1) P)).heap[q]? =Ry (bh z (v+(bN c.chunks).length))):=M.out.reader a4 a5 a6 db.out;obtain⟨c3,g3⟩:=M.out.kept a5;refine G.out _ _ (fun _=>c3) ?_;clear G W cp cs d9 d3 gg en a5
      try simp only[Tc,R1,Sj,Sg]
      have a2:(fun X=>X.cell? ⟨x,2,RA⟩=Ry i) ao:=c3;refine Un.pick (i:=8) (v:=?_) rfl (by kernel_rfl) (by kernel_rfl) (by kernel_rfl) (by kernel_rfl) (fun _ _ _ h=>h) (UD ⟨by rfl,?_⟩) (by assumption) ?_;rotate_left
      ·intro w _;go_simp
       try with_reducible rfl
      try simp only[Tc,R1,Sj,Sg]
      refine Un.one (i:=9) (by kernel_rfl) rfl (fun W G=>?_);rw[if_pos (by rfl)];go_simp;refine G.out _ _ (fun h=>absurd h (by decide)) ?_;clear G W a2 c3 g3 c2;refine Un.done (by kernel_rfl) ?_ _
      try simp only[Tc,R1,Sj,Sg]
      clear M dt dk db c5;generalize ao.setCell ⟨x,2,RA⟩ (.slice (Ry ⟨N,0,RA⟩) (b.length+1) P)=g4 at*;generalize SS (Ry ⟨N,0,RA⟩) (b.length+1) P=g5 at*;have c6:RJ (D+(cA (a.map Sb) (b ++ [c])).length=u+(dW (a.map Sb) c).length):=by
       show _=_;rw[sE,RI];have A:=ar.out;omega
      have c7:RJ ((bC (b ++ [c])).length=v+(bN c.chunks).length):=by
       show _=_;rw[qO,RI,am.out]
      have ft:RJ (Q2 (cA (a.map Sb)) bC (fun _=>eg (a.map Sb)) (bytesOf s) D (bytesOf z) 0 t (b ++ [c])):=by
       refine V.out.more (e:=fun _ B=>dW (a.map Sb) B) (g:=fun _ B=>bN B.chunks) (sE _) qO be e4.out (by rw[← ar.out];exact f4.out) (by rw[SA,← am.out];exact e5.out) (fun B cR A Q=>?_);rw[← ar.out] at A;rw[SA,← am.out] at Q;exact f6.out B cR A Q
      have fm:RJ ((n ++ [(c,SS ae c.chunks.length ad)]).map Sb=b ++ [c]):=by show _=_;rw[SQ,ba.out];rfl
      go_wp2_with fail
      go_roundw
      case rel=>exact⟨b ++ [c],_,_,by rw[RI];go_num,fm.out,ft.out,fa.out,by rw[c6.out];exact fk.out,by rw[c6.out];exact b0.out,by rw[c7.out];exact fl.out,by rw[c7.out];exact f0.out⟩
      case measure=>simp[SC];omega
    ·have a9:=V.out.done be;have e7:RJ (b.length=t):=a9.1;have e8:RJ (∀ a1:List Bd,a1.length=t→rf (fun _=>eg (a.map Sb)) a1→ag (bytesOf s) D (cA (a.map Sb) a1)→ag (bytesOf z) 0 (bC a1)→a1=b):=a9.2;have gl:t=b.length:=a9.1.symm;have bs:RJ (∀ c∈b,eg (a.map Sb) c):=OR V.out.O3;have b1:RJ (∀ j o,si j o→ag (bytesOf s) 0 (m8 j o)→bytesOf z=bC o→j=a∧o=b):=fun j o l E S=>by
      obtain⟨y,k,A⟩:=c4.out j o l E;rw[y] at l;exact⟨y,e8.out o k (Oo l.bU) A (eu S.symm)⟩
     have bB:RJ (Sc (aa.of Rz) 45 #[.agg #[.slice d a.length e,.slice f a.length g,i]] wr fun p bm=>p= .returned (.int .i64 (fC (n.map Sb):Int))∧RQ wr.heap.size wr bm):=Ht d f _ _ _ _ w.heap.size i n wr H.bU (by rw[bu.out];exact d4) (by rw[ba.out];exact fun c Z=>(bs.out c Z).hi);rw[ba.out] at bB;have he:fC b≤6553600:=by have:=Da b (fun c Z=>(bs.out c Z).hi);have:=Nat.mul_le_mul_right 100 d4;omega
     have br:RJ ((m8 a b).length=u∧ag (bytesOf s) 0 (m8 a b)):=by
      have f8:=bv.out;have N:=c8.out;have hb:=ar.out;unfold m8;rw[e7.out];refine⟨by rw[RI,RI];omega,?_⟩;exact ap.2 ⟨f3.out,by rw[SA,← f8];exact ap.2 ⟨dr.out,by rw[← N];exact V.out.st⟩⟩
     have f5:RJ (ag (bytesOf z) 0 (bC b)):=V.out.sc;obtain⟨b4,b3,ci⟩:=dA H.bU.own;subst ci;obtain⟨bi,bj,a8,bl⟩:=H.cells;subst gl;clear H a9 V be gf gj
     go_wp2_with fail
     refine bB.out.mono ?_;rintro p al ⟨rfl,bd⟩;have bb:RJ (kC w al x r q a d f e g (.slice b4 n.length b3) n):=J.out.below bd;have bA:RJ (al.heap[r]? =Ry (bh s u)):=(bd.block r (RP a0.out)).trans a0.out;have bx:RJ (al.heap[q]? =Ry (bh z v)):=(bd.block q (RP aw.out)).trans aw.out;clear bd J a0 aw bi bj a8 bl bB;by_cases hd:2000<fC b
     ·have gc:decide ((2000:Int)<(fC b:Int))=RF:=by simp;omega
      have L:RJ (∀ a b,si a b→ag (bytesOf s) 0 (m8 a b)→bytesOf z≠bC b):=fun j o l E S=>by
       obtain⟨y,k⟩:=b1.out j o l E S;have:=l.rows;rw[k] at this;omega
      go_wp2_with (go_at_call 97;refine(bP r u s _ bA.out).mono ?_;rintro p bm ⟨rfl,rfl⟩)
      exact⟨rfl,bb.out.kp,.inr ⟨_,rfl,L.out⟩⟩
     ·have gc:decide ((2000:Int)<(fC b:Int))=RE:=by simp;omega
      have f2:RJ (fC b≤2000):=by show _≤_;omega
      by_cases d8:v<z.size
      ·have L:RJ (∀ a b,si a b→ag (bytesOf s) 0 (m8 a b)→bytesOf z≠bC b):=fun j o l E S=>by
        obtain⟨y,k⟩:=b1.out j o l E S;have A:=congrArg U4 S;rw[ai,k,← am.out] at A;omega
       go_wp2_with (go_at_call 93;refine(AM q v z _ e1 d8 bx.out).mono ?_;rintro p bm ⟨rfl,m,rfl⟩)
       exact⟨rfl,bb.out.kp.trans (iU.iD ((Kp.refl r al).drewN _)),.inr ⟨_,rfl,L.out⟩⟩
      ·have f7:RJ (bytesOf z=bC b):=by
        show _=_;refine(ye f5.out ?_);rw[ai,← am.out];omega
       have fb:RJ (si a b):=⟨c9.out,bs.out,f2.out⟩
       go_upto_region 10 with(go_at_call 93;refine(EA q v z _ e1 d8 bx.out).mono ?_;rintro p bm ⟨rfl,m,rfl⟩)
       have C:kC w (al.drewN m) x r q a d f e g (.slice b4 n.length b3) n:=bb.out.below (below_drewN (R5 _ _) _);have f1:RJ ((al.drewN m).heap[r]? =Ry (bh s u)):=bA.out;generalize al.drewN m=F at*;generalize ci:SS b4 n.length b3=i at C;obtain⟨bi,bj,a8,bl⟩:=C.cells;obtain⟨hi,hj,hk⟩:=bR C.res;have g8:F.frozen? ⟨w.heap.size,0,RA⟩=RE:=by have:=C.res;simp[SH,this]
       have g9:F.frozen? ⟨w.heap.size,1,RA⟩=RE:=by have:=C.res;simp[SH,this]
       have ha:F.frozen? ⟨w.heap.size,2,RA⟩=RE:=by have:=C.res;simp[SH,this]
       have y:=RZ F w.heap.size 0 _ _ (.slice d a.length e) C.res;have k:=RZ _ w.heap.size 1 _ _ (.slice f a.length g) y;have A:=RZ _ w.heap.size 2 _ _ i k;obtain⟨g0,g1,g2⟩:=bR (show _=Ry (Obj.cells #[.slice d a.length e,.slice f a.length g,i] 105 (0,0)) from A);have fv:RJ (ij (((F.setCell ⟨w.heap.size,0,RA⟩ (.slice d a.length e)).setCell ⟨w.heap.size,1,RA⟩ (.slice f a.length g)).setCell ⟨w.heap.size,2,RA⟩ i) w.heap.size i n):=
        ((C.bU.put C.res (by decide) (by decide) _ _).put y (by decide) (by decide) _ _).put k (by decide) (by decide) _ _
       have c1:∀ {q:RB} {t p e2:Nat} {e3:List RB},p≠105→F.ownsRow w.heap.size p e2 q t e3→(((F.setCell ⟨w.heap.size,0,RA⟩ (.slice d a.length e)).setCell ⟨w.heap.size,1,RA⟩ (.slice f a.length g)).setCell ⟨w.heap.size,2,RA⟩ i).ownsRow w.heap.size p e2 q t e3:=fun co eo=>by
        have dv:=eo.kept (aJ F w.heap.size 0 (.slice d a.length e)) (.inr (bw eo C.res co.symm).symm);have dC:=dv.kept (aJ _ w.heap.size 1 (.slice f a.length g)) (.inr (bw dv y co.symm).symm);exact dC.kept (aJ _ w.heap.size 2 i) (.inr (bw dC k co.symm).symm)
       have fx:RJ ((((F.setCell ⟨w.heap.size,0,RA⟩ (.slice d a.length e)).setCell ⟨w.heap.size,1,RA⟩ (.slice f a.length g)).setCell ⟨w.heap.size,2,RA⟩ i).ownsRow w.heap.size 63 2 (.slice d a.length e) a.length (dN (a.map Sb))):=c1 (by decide) C.ah;have fz:RJ ((((F.setCell ⟨w.heap.size,0,RA⟩ (.slice d a.length e)).setCell ⟨w.heap.size,1,RA⟩ (.slice f a.length g)).setCell ⟨w.heap.size,2,RA⟩ i).ownsRow w.heap.size 3 1 (.slice f a.length g) a.length (aY (a.map TK))):=c1 (by decide) C.mF;have fi:RJ (iU r q w (((F.setCell ⟨w.heap.size,0,RA⟩ (.slice d a.length e)).setCell ⟨w.heap.size,1,RA⟩ (.slice f a.length g)).setCell ⟨w.heap.size,2,RA⟩ i)):=((C.kp.grown (aJ F w.heap.size 0 _) (fun dE p=>by cases p;exact RG _)).grown (aJ _ w.heap.size 1 _) (fun dE p=>by cases p;exact RG _)).grown (aJ _ w.heap.size 2 _) (fun dE p=>by cases p;exact RG _);have b0:RJ ((((F.setCell ⟨w.heap.size,0,RA⟩ (.slice d a.length e)).setCell ⟨w.heap.size,1,RA⟩ (.slice f a.length g)).setCell ⟨w.heap.size,2,RA⟩ i).heap[r]? =Ry (bh s u)):=by
        show _=_;rw[R6 _ _ _ _ (by simp;omega),R6 _ _ _ _ (by simp;omega),R6 _ _ _ _ (by simp;omega)];exact f1.out
       clear y k A C bb bA bx c1;subst ci;go_wp2;simp[TV,SD,Tryz.results64,go_sem,g0,g1,g2];exact⟨fi.out,.inl ⟨a,b,n,d,f,e,g,_,rfl,fb.out,ba.out,br.out.2,by rw[br.out.1];exact ab,by rw[br.out.1];exact b0.out,f7.out,fx.out,fz.out,fv.out,b1.out⟩⟩
def nu:Array RB:= #[.slice RA 0 0,.slice RA 0 0,.slice RA 0 0]
theorem fw{w:RD}{g:Nat}{a b c:RB}{t:RO}(h:w.heap[g]? =Ry (.cells #[a,b,c] t (0,0))):(w.cell? ⟨g,0,RA⟩=Ry a∧w.cell? ⟨g,1,RA⟩=Ry b∧w.cell? ⟨g,2,RA⟩=Ry c)∧(w.frozen? ⟨g,0,RA⟩=RE∧w.frozen? ⟨g,1,RA⟩=RE∧w.frozen? ⟨g,2,RA⟩=RE):=by
 refine⟨⟨?_,?_,?_⟩,?_,?_,?_⟩<;>simp[R2,SH,h]
def fT (w:RD)(g:Nat)(a b c:RB):RD:=((w.setCell ⟨g,0,RA⟩ a).setCell ⟨g,1,RA⟩ b).setCell ⟨g,2,RA⟩ c
theorem pN{w:RD}{g:Nat}{a b c:RB}{t:RO}(x y z:RB)(h:w.heap[g]? =Ry (.cells #[a,b,c] t (0,0))):(fT w g x y z).heap[g]? =Ry (.cells #[x,y,z] t (0,0)):=by
 have d:=RZ w g 0 _ _ x h;have e:=RZ _ g 1 _ _ y d;exact RZ _ g 2 _ _ z e
theorem jH{w:RD}{g i:Nat}(x y z:RB)(h:i≠g):(fT w g x y z).heap[i]? =w.heap[i]? :=by
 unfold fT;rw[R6 _ _ _ _ (by simp;omega),R6 _ _ _ _ (by simp;omega),R6 _ _ _ _ (by simp;omega)]
theorem lO{w w0:RD}{g n:Nat}(x y z:RB)(h:RQ n w0 w)(b:n≤w0.heap.size)(a:n≤g):RQ n w0 (fT w g x y z):=
 b6 (b6 (b6 h b a _ _) b a _ _) b a _ _
theorem sJ(b a:Nat)(x y z v:RB)(u:RO)(h:RB)(g:List S1)(w:RD)(r:b≠a)(hL:w.heap[b]? =Ry (.cells #[x,y,z] 105 (0,0)))(f:w.heap[a]? =Ry (.cells #[v] 4 (0,0))):
 CallsD (aa.of Rz) 92 #[.pointer (Ry ⟨b,0,RA⟩),.pointer (Ry ⟨a,0,RA⟩)] (.panicking ({v:=.iface u h,recovered:=RE} :: g)) w fun e F w'=>
  e= .returned (.tuple #[])∧F= .panicking ({v:=.iface u h,recovered:=RF} :: g)∧w'=(fT (w.alloc (.cells nu 105)) b (.slice RA 0 0) (.slice RA 0 0) (.slice RA 0 0)).setCell ⟨a,0,RA⟩ (.bool RE):=by
 have q:=RP hL;have p:=RP f;have n:(w.alloc (.cells nu 105)).heap[b]? =Ry (.cells #[x,y,z] 105 (0,0)):=by rw[Sr _ _ b q];exact hL
 have l:(w.alloc (.cells nu 105)).heap[a]? =Ry (.cells #[v] 4 (0,0)):=by rw[Sr _ _ a p];exact f
 have o:(w.alloc (.cells nu 105)).heap[w.heap.size]? =Ry (.cells #[.slice RA 0 0,.slice RA 0 0,.slice RA 0 0] 105 (0,0)):=bG w _;refine callsD_of_wpS aa.func92 rfl fun H G s=>?_;apply wpS_seq;apply wpS_region;simp[wpOpsS,go_sem,recoverD,s,Tryz.ntmps92,Exit.thenS];refine wpS_cond (t:=RF) (by simp[Act.eval,SN]) ?_;simp only[if_true];apply wpS_seq;apply wpS_region;simp[wpOpsS,go_sem,Exit.thenS];apply wpS_region;obtain⟨⟨C,D,E⟩,-⟩:=fw o;obtain⟨⟨t,A,B⟩,i,j,k⟩:=fw n;have m:(fT (w.alloc (.cells nu 105)) b (.slice RA 0 0) (.slice RA 0 0) (.slice RA 0 0)).heap[a]? =Ry (.cells #[v] 4 (0,0)):=by rw[jH _ _ _ r.symm];exact l
 obtain⟨c,d⟩:=cV m;unfold fT at c d ⊢;unfold nu at*;simp[wpOpsS,go_sem,C,D,E,t,A,B,i,j,k,c,d,bodyPostS,SD,Tryz.results92]
theorem Cb(d c:Sl)(w:RD):
 CallsD (aa.of Rz) 92 #[.pointer (Ry d),.pointer (Ry c)] .returning w fun e f w'=>e= .returned (.tuple #[])∧f= .returning∧w'=w:=by
 refine callsD_of_wpS aa.func92 rfl fun a g b=>?_;apply wpS_seq;apply wpS_region;simp[wpOpsS,go_sem,recoverD,b,Tryz.ntmps92,Exit.thenS];refine wpS_cond (t:=RE) (by simp[Act.eval,SN]) ?_;simp only[Sa,if_false];refine wpS_of_wp (wp_skip ?_);cases a;simp_all [bodyPostS,SD,Tryz.results92]
theorem KP{r q:Nat}{w d e:RD}(h:Kp r w d)(k:iU r q d e)(g:w.heap.size≤q):Kp r w e:=
 ⟨k.os.trans h.os,k.tape.trans h.tape,k.output.trans h.output,R4 (Kp.size h) k.size,fun c a b=>(k.block c (RK a (Kp.size h)) (fun f=>b (by rw[f])) (by omega)).trans (T2 h c a b)⟩
structure cM(W:RD)(base:Nat)(l:List (bO×Int))(L:List (Bd×RB))(a b c:RB):Prop where
 ah:W.ownsRow base 63 2 a l.length (dN (l.map Sb))
 mF:W.ownsRow base 3 1 b l.length (aY (l.map TK))
 bU:ij W base c L
theorem cM.below{d f:RD}{base:Nat}{l:List (bO×Int)}{L:List (Bd×RB)}{a b c:RB}(h:cM d base l L a b c)(e:RQ d.heap.size d f):cM f base l L a b c:=⟨aQ h.ah e,aQ h.mF e,h.bU.below e⟩
theorem cM.base{e:RD}{base f:Nat}{l:List (bO×Int)}{L:List (Bd×RB)}{a b c:RB}(h:cM e base l L a b c)(d:f≤base):cM e f l L a b c:=⟨bz h.ah d,bz h.mF d,⟨bz h.bU.own d,fun i g=>bz (h.bU.each i g) d⟩⟩
theorem cM.put{d:RD}{base:Nat}{l:List (bO×Int)}{L:List (Bd×RB)}{a b c:RB}(h:cM d base l L a b c){g:Nat}{cs:Array RB}{t:RO}(f:d.heap[g]? =Ry (.cells cs t (0,0)))(e:t=105∨t=4∨t=9)(o:Nat)(u:RB):cM (d.setCell ⟨g,o,RA⟩ u) base l L a b c:=by
 have i:t≠63:=by rcases e with rfl|rfl|rfl<;>decide
 have j:t≠3:=by rcases e with rfl|rfl|rfl<;>decide
 have k:t≠139:=by rcases e with rfl|rfl|rfl<;>decide
 have m:t≠143:=by rcases e with rfl|rfl|rfl<;>decide
 exact⟨h.ah.kept (aJ d g o u) (.inr (bw h.ah f i).symm),h.mF.kept (aJ d g o u) (.inr (bw h.mF f j).symm),h.bU.put f k m o u⟩
theorem cM.fT{d:RD}{base:Nat}{l:List (bO×Int)}{L:List (Bd×RB)}{a b c:RB}(h:cM d base l L a b c){g:Nat}{x y z:RB}(i j m:RB)(f:d.heap[g]? =Ry (.cells #[x,y,z] 105 (0,0))):cM (Ec.fT d g i j m) base l L a b c:=by
 have e:=RZ d g 0 _ _ i f;have k:=RZ _ g 1 _ _ j e;exact((h.put f (.inl rfl) _ _).put e (.inl rfl) _ _).put k (.inl rfl) _ _
theorem cM.Kz{i:RD}{base:Nat}{l:List (bO×Int)}{L:List (Bd×RB)}{a b c:RB}(h:cM i base l L a b c):∃ d ac f e co g,a= .slice d l.length ac∧b= .slice f l.length e∧c= .slice co L.length g:=by
 obtain⟨d,ac,j⟩:=dA h.ah;obtain⟨f,e,k⟩:=dA h.mF;obtain⟨co,g,m⟩:=dA h.bU.own;exact⟨d,ac,f,e,co,g,j,k,m⟩
def Rn (w:RD)(r:Nat)(s z:ByteArray)(e:Uw)(w':RD):Prop:=
 Kp r w w'∧((∃ (b:List (bO×Int)) (a:List Bd) (f:List (Bd×RB)) (g h i:RB),e= .returned (.agg #[g,h,i])∧si b a∧f.map Sb=a∧ag (bytesOf s) 0 (m8 b a)∧(m8 b a).length≤s.size∧w'.heap[r]? =Ry (bh s (m8 b a).length)∧bytesOf z=bC a∧cM w' w.heap.size b f g h i∧(∀ d c,si d c→ag (bytesOf s) 0 (m8 d c)→bytesOf z=bC c→d=b∧c=a))∨
  (∃ m,e= .panicked (dV m)∧∀ b a,si b a→ag (bytesOf s) 0 (m8 b a)→bytesOf z≠bC a))
theorem Iw(r cb:Nat)(s z:ByteArray)(w:RD)(a9:s.size≤65536)(X:z.size≤65536)(h:w.heap[r]? =Ry (bh s 0))(B:w.heap[cb]? =Ry (.cells #[.string z] 9 (0,0))):
 Sc (aa.of Rz) 63 #[.pointer (Ry ⟨r,0,RA⟩),.pointer (Ry ⟨cb,0,RA⟩)] w (Rn w r s z):=by
 have ba:r<w.heap.size:=RP h;have a8:cb<w.heap.size:=RP B;have a7:(w.alloc (.cells #[.slice RA 0 0,.slice RA 0 0,.slice RA 0 0] 105)).cell? ⟨cb,0,RA⟩=Ry (.string z):=(cV (t:=9) (by rw[Sr _ _ cb a8];exact B)).1;have D:RJ (∀ o,Sc (aa.of Rz) 66 #[.string z] o fun e be=>e= .returned (.string z)∧RQ o.heap.size o be):=fun o=>vW z o X;have x:RJ ((w.alloc (.cells #[.slice RA 0 0,.slice RA 0 0,.slice RA 0 0] 105)).heap[r]? =Ry (bh s 0)):=by
  show _=_;rw[Sr _ _ r ba];exact h
 have y:RJ ((w.alloc (.cells #[.slice RA 0 0,.slice RA 0 0,.slice RA 0 0] 105)).heap[w.heap.size]? =Ry (.cells #[.slice RA 0 0,.slice RA 0 0,.slice RA 0 0] 105 (0,0))):=bG w _;have E:RJ (Kp r w (w.alloc (.cells #[.slice RA 0 0,.slice RA 0 0,.slice RA 0 0] 105))):=(Kp.refl r w).alloc _;clear h B;go_enter aa.func63,Tryz.ntmps63
 go_wp2_with fail
 refine(D.out _).mono ?_;rintro e b ⟨rfl,u⟩;have H:RJ (b.heap[r]? =Ry (bh s 0)):=(u.block r (RP x.out)).trans x.out;have A:RJ (b.heap[w.heap.size]? =Ry (.cells #[.slice RA 0 0,.slice RA 0 0,.slice RA 0 0] 105 (0,0))):=(u.block _ (RP y.out)).trans y.out;have F:RJ (Kp r w b):=E.out.trans (Kp.bS u);clear a7 u x y E D
 go_wp2_with fail
 refine(mH z _).mono ?_;rintro e bm ⟨rfl,rfl⟩;have bc:w.heap.size<b.heap.size:=RP A.out;have I:RJ ((b.alloc (bh z 0)).heap[r]? =Ry (bh s 0)):=by show _=_;rw[Sr _ _ r (by omega)];exact H.out
 have G:RJ ((b.alloc (bh z 0)).heap[b.heap.size]? =Ry (bh z 0)):=bG b _;have J:RJ ((b.alloc (bh z 0)).heap[w.heap.size]? =Ry (.cells #[.slice RA 0 0,.slice RA 0 0,.slice RA 0 0] 105 (0,0))):=by show _=_;rw[Sr _ _ _ bc];exact A.out
 have v:RJ (Kp r w (b.alloc (bh z 0))):=F.out.alloc _;have bb:w.heap.size≤(b.alloc (bh z 0)).heap.size:=by simp;omega
 clear H A F;generalize b.alloc (bh z 0)=a5 at*;generalize b.heap.size=bd at*;clear b
 go_wp2_with fail
 refine(xz r bd s z a5 (by omega) a9 X I.out G.out).mono ?_;rintro e f ⟨p,⟨a,c,d,i,k,g,j,a6,rfl,P,M,V,Q,N,O,T,U,S,W⟩|⟨m,rfl,R⟩⟩;rotate_left
 ·have aw:RJ (∀ a c,si a c→ag (bytesOf s) 0 (m8 a c)→bytesOf z≠bC c):=R;have al:RJ (Kp r w f):=KP v.out p (by omega);clear R p;go_wp2;exact⟨rfl,al.out,.inr ⟨m,rfl,aw.out⟩⟩
 ·have L:Kp r w f:=KP v.out p (by omega);have t:f.heap[w.heap.size]? =Ry (.cells #[.slice RA 0 0,.slice RA 0 0,.slice RA 0 0] 105 (0,0)):=p.keep J.out (by omega) (by omega);have hF:cM f w.heap.size a d (.slice i a.length g) (.slice k a.length j) a6:=(cM.mk T U S).base bb;obtain⟨-,-,-,-,n,l,-,-,rfl⟩:=hF.Kz;have ad:RJ (cM (fT f w.heap.size (.slice i a.length g) (.slice k a.length j) (.slice n d.length l)) w.heap.size a d (.slice i a.length g) (.slice k a.length j) (.slice n d.length l)):=hF.fT _ _ _ t;have a0:RJ ((fT f w.heap.size (.slice i a.length g) (.slice k a.length j) (.slice n d.length l)).heap[r]? =Ry (bh s (m8 a c).length)):=by show _=_;rw[jH _ _ _ (by omega)];exact N
  have am:RJ (Kp r w (fT f w.heap.size (.slice i a.length g) (.slice k a.length j) (.slice n d.length l))):=((L.grown (aJ _ w.heap.size 0 _) (fun K e=>by cases e;exact RG _)).grown (aJ _ w.heap.size 1 _) (fun K e=>by cases e;exact RG _)).grown (aJ _ w.heap.size 2 _) (fun K e=>by cases e;exact RG _);have a3:RJ ((fT f w.heap.size (.slice i a.length g) (.slice k a.length j) (.slice n d.length l)).heap[w.heap.size]? =Ry (.cells #[.slice i a.length g,.slice k a.length j,.slice n d.length l] 105 (0,0))):=pN _ _ _ t;obtain⟨⟨bo,br,bs⟩,bi,bj,bl⟩:=fw t;have ae:RJ (si a c):=P;have ao:RJ (d.map Sb=c):=M;have a1:RJ (ag (bytesOf s) 0 (m8 a c)):=V;have ar:RJ ((m8 a c).length≤s.size):=Q;have a4:RJ (bytesOf z=bC c):=O;have a2:RJ (∀ C q,si C q→ag (bytesOf s) 0 (m8 C q)→bytesOf z=bC q→C=a∧q=c):=W;clear L t hF N p P M V Q O W T U S I G J v;obtain⟨⟨Y,Z,ab⟩,-⟩:=fw a3.out;unfold fT at Y Z ab;go_wp2;simp[TV,SD,Tryz.results63,go_sem,Y,Z,ab];exact⟨am.out,.inl ⟨a,c,d,_,_,_,rfl,ae.out,ao.out,a1.out,ar.out,a0.out,a4.out,ad.out,a2.out⟩⟩
theorem uG(t:ByteArray):(t.toList == [83,84,82,65])=RF↔bytesOf t=[83,84,82,65]:=by
 rw[beq_iff_eq,ByteArray.toList_eq];unfold bytesOf;constructor
 ·intro d;rw[d];rfl
 ·intro d;have e:t.data.toList.map UInt8.toNat=[(83:UInt8),84,82,65].map UInt8.toNat:=by rw[d];rfl
  have g:∀ (c a:List UInt8),c.map UInt8.toNat=a.map UInt8.toNat→c=a:=by
   intro c
   induction c with
   |nil=>intro a b;cases a with|nil=>rfl|cons _ _=>simp at b
   |cons j i f=>
    intro a b;cases a with
    |nil=>simp at b
    |cons k h=>
     simp only[UP,UB] at b;rw[UInt8.toNat_inj.1 b.1,f h b.2]
  exact g _ _ e
theorem Nr{s:ByteArray}(c:4≤s.size):bytesOf (s.extract 0 4)=[83,84,82,65]↔∃ b,bytesOf s=[83,84,82,65] ++ b:=by
 rw[cQ,List.drop_zero];constructor
 ·intro a;exact⟨(bytesOf s).drop 4,by rw[← a];exact(Ul 4 _).symm⟩
 ·rintro⟨b,a⟩;rw[a];simp
theorem NM{s:ByteArray}(d:4≤s.size):bytesOf (s.extract (s.size - 4) s.size)=[83,84,82,65]↔∃ b,bytesOf s=b ++ [83,84,82,65]:=by
 rw[cQ];constructor
 ·intro a;refine⟨(bytesOf s).take (s.size - 4),?_⟩;rw[← a,SF (l:=(bytesOf s).drop (s.size - 4)) (by rw[Ut,ai];omega)];exact(Ul _ _).symm
 ·rintro⟨b,a⟩;have c:=congrArg U4 a;rw[ai] at c;simp at c;rw[a,show s.size - 4=b.length by omega,List.drop_left];exact SF (by simp;omega)
theorem yR(s:ByteArray)(w:RD)(f:s.size≤R3):
 Sc (aa.of Rz) 150 #[.string s,.string ⟨#[83,84,82,65]⟩] w fun e w'=>∃ bb,e= .returned (.bool bb)∧(bb=RF↔4≤s.size∧∃ c,bytesOf s=[83,84,82,65] ++ c)∧w'=w:=by
 unfold R3 at f;by_cases b:4≤s.size
 ·have d:decide ((4:Int)≤(s.size:Int))=RF:=by simp;omega
  have g:(4:Int)≤(s.size:Int):=by omega
  go_enter aa.func150,Tryz.ntmps150;go_wp2;go_ret;exact⟨_,rfl,by rw[uG,Nr b];exact⟨fun a=>⟨b,a⟩,fun a=>a.2⟩,rfl⟩
 ·have d:decide ((4:Int)≤(s.size:Int))=RE:=by simp;omega
  go_enter aa.func150,Tryz.ntmps150;go_wp2;go_ret;exact⟨RE,rfl,⟨fun a=>(by simp at a),fun a=>absurd a.1 b⟩,rfl⟩
theorem yU(s:ByteArray)(w:RD)(f:s.size≤R3):
 Sc (aa.of Rz) 151 #[.string s,.string ⟨#[83,84,82,65]⟩] w fun e w'=>∃ bb,e= .returned (.bool bb)∧(bb=RF↔4≤s.size∧∃ c,bytesOf s=c ++ [83,84,82,65])∧w'=w:=by
 unfold R3 at f;by_cases b:4≤s.size
 ·have d:decide ((4:Int)≤(s.size:Int))=RF:=by simp;omega
  have g:(4:Int)≤(s.size:Int):=by omega
  have h:SW ((s.size:Int) - 4)=((s.size - 4:Nat):Int):=by unfold SW;omega
  have i:((s.size - 4:Nat):Int)≤(s.size:Int):=by omega
  have j:((s.size:Int) - 4).toNat=s.size - 4:=by omega
  go_enter aa.func151,Tryz.ntmps151;go_wp2;go_ret;exact⟨_,rfl,by rw[uG,NM b];exact⟨fun a=>⟨b,a⟩,fun a=>a.2⟩,rfl⟩
 ·have d:decide ((4:Int)≤(s.size:Int))=RE:=by simp;omega
  go_enter aa.func151,Tryz.ntmps151;go_wp2;go_ret;exact⟨RE,rfl,⟨fun a=>(by simp at a),fun a=>absurd a.1 b⟩,rfl⟩
def Oe (s:ByteArray)(e:Uw):Prop:=∃ (b:ByteArray) (a:Bool),e= .returned (.tuple #[.string b,.bool a])∧((a=RF∧bytesOf s=[83,84,82,65] ++ bytesOf b)∨(a=RE∧b=s∧∀ c,bytesOf s≠[83,84,82,65] ++ c))
def Og (s:ByteArray)(e:Uw):Prop:=∃ (b:ByteArray) (a:Bool),e= .returned (.tuple #[.string b,.bool a])∧((a=RF∧bytesOf s=bytesOf b ++ [83,84,82,65])∨(a=RE∧b=s∧∀ c,bytesOf s≠c ++ [83,84,82,65]))
theorem uY(s:ByteArray)(w:RD)(g:s.size≤R3):
 Sc (aa.of Rz) 126 #[.string s,.string ⟨#[83,84,82,65]⟩] w fun e w'=>Oe s e∧w'=w:=by
 have k:=g;unfold R3 at k;go_enter aa.func126,Tryz.ntmps126
 go_wp2_with fail
 refine(yR s _ g).mono ?_;rintro e m ⟨j,rfl,b,rfl⟩;cases j
 ·have h:RJ (∀ a,bytesOf s≠[83,84,82,65] ++ a):=fun a c=>by
   have d:4≤s.size:=by
    have:=congrArg U4 c;rw[ai] at this;simp at this;omega
   exact absurd (b.2 ⟨d,a,c⟩) (by simp)
  clear b;go_wp2
  go_ret2
  exact⟨⟨s,RE,rfl,.inr ⟨rfl,rfl,h.out⟩⟩,rfl⟩
 ·have d:=(b.1 rfl).1;have i:RJ (∃ a,bytesOf s=[83,84,82,65] ++ a):=(b.1 rfl).2;have l:(4:Int)≤(s.size:Int):=by omega
  clear b;go_wp2
  go_ret2
  refine⟨⟨s.extract 4 s.size,RF,rfl,.inl ⟨rfl,?_⟩⟩,rfl⟩;obtain⟨a,f⟩:=i.out;rw[cQ,f,SF (by rw[Ut,← f,ai];omega)];simp
theorem uZ(s:ByteArray)(w:RD)(h:s.size≤R3):
 Sc (aa.of Rz) 127 #[.string s,.string ⟨#[83,84,82,65]⟩] w fun e w'=>Og s e∧w'=w:=by
 have l:=h;unfold R3 at l;go_enter aa.func127,Tryz.ntmps127
 go_wp2_with fail
 refine(yU s _ h).mono ?_;rintro e q ⟨k,rfl,b,rfl⟩;cases k
 ·have i:RJ (∀ a,bytesOf s≠a ++ [83,84,82,65]):=fun a c=>by
   have d:4≤s.size:=by
    have:=congrArg U4 c;rw[ai] at this;simp at this;omega
   exact absurd (b.2 ⟨d,a,c⟩) (by simp)
  clear b;go_wp2
  go_ret2
  exact⟨⟨s,RE,rfl,.inr ⟨rfl,rfl,i.out⟩⟩,rfl⟩
 ·have d:=(b.1 rfl).1;have j:RJ (∃ a,bytesOf s=a ++ [83,84,82,65]):=(b.1 rfl).2;have m:(4:Int)≤(s.size:Int):=by omega
  have n:SW ((s.size:Int) - 4)=((s.size - 4:Nat):Int):=by unfold SW;omega
  have o:((s.size - 4:Nat):Int)≤(s.size:Int):=by omega
  have p:((s.size:Int) - 4).toNat=s.size - 4:=by omega
  clear b;go_wp2
  go_ret2
  refine⟨⟨s.extract 0 (s.size - 4),RF,rfl,.inl ⟨rfl,?_⟩⟩,rfl⟩;obtain⟨a,f⟩:=j.out;have g:=congrArg U4 f;rw[ai] at g;simp at g;rw[cQ,f,List.drop_zero,show s.size - 4 - 0=a.length by omega,List.take_left]
theorem yN(s:ByteArray)(w:RD)(d:s.size≤R3):
 Sc (aa.of Rz) 89 #[.string s,.string ⟨#[83,84,82,65]⟩] w fun e w'=>Oe s e∧w'=w:=by
 go_enter aa.func89,Tryz.ntmps89
 go_wp2_with fail
 refine(uY s _ d).mono ?_;rintro e g ⟨⟨f,c,rfl,a⟩,rfl⟩;have b:RJ _:=a;clear a;go_wp2
 go_ret2
 exact⟨⟨f,c,rfl,b.out⟩,rfl⟩
theorem qo(s:ByteArray)(w:RD)(d:s.size≤R3):
 Sc (aa.of Rz) 90 #[.string s,.string ⟨#[83,84,82,65]⟩] w fun e w'=>Og s e∧w'=w:=by
 go_enter aa.func90,Tryz.ntmps90
 go_wp2_with fail
 refine(uZ s _ d).mono ?_;rintro e g ⟨⟨f,c,rfl,a⟩,rfl⟩;have b:RJ _:=a;clear a;go_wp2
 go_ret2
 exact⟨⟨f,c,rfl,b.out⟩,rfl⟩
def oJ (s:ByteArray):Nat→Nat
 |0=>0
 |k+1=>oJ s k+256 ^ k*(bytesOf s).getD k 0
theorem rE(s:ByteArray)(k:Nat):(bytesOf s).getD k 0<256:=by
 by_cases a:k<s.size
 ·rw[RX,rq s k a];exact s[k].toNat_lt
 ·rw[RX,List.getElem?_eq_none (by rw[ai];omega)];simp
theorem vu(s:ByteArray):∀ k,oJ s k<256 ^ k
 |0=>by simp[oJ]
 |k+1=>by
  have a:=vu s k;have b:=rE s k;have c:256 ^ k*(bytesOf s).getD k 0≤256 ^ k*255:=Uz _ (by omega);rw[oJ,Uf];omega
theorem Pc(j:Nat):(256:Nat) ^ j=2 ^ (8*j):=by rw[Nat.pow_mul]
theorem Nm(a c j:Nat)(e:j≤3)(b:a<256 ^ j)(hc:c<256):bits .or .u64 (a:Int) (TT.wrap ((c:Int)*2 ^ (8*j)))=((a+256 ^ j*c:Nat):Int):=by
 have i:(256:Nat) ^ 3=16777216:=by decide
 have g:256 ^ j≤256 ^ 3:=Tu (by omega) e;have k:2 ^ (8*j)*c<18446744073709551616:=by
  rw[← Pc];have:=UW g (show c≤255 by omega);omega
 have d:(c:Int)*2 ^ (8*j)=((2 ^ (8*j)*c:Nat):Int):=by push_cast;rw[Int.mul_comm]
 have h:TT.wrap ((c:Int)*2 ^ (8*j))=((2 ^ (8*j)*c:Nat):Int):=by rw[d,wrap_u64];omega
 have f:=(bits_nat .u64 64 (by decide) tS a (2 ^ (8*j)*c) (by omega) (by omega)).2;rw[h,f,Nat.or_comm,← Nat.two_pow_add_eq_or_of_lt (by rw[← Pc];exact b) c,Nat.add_comm,Pc]
theorem xA(s:ByteArray)(w:RD)(h:s.size=4):
 Sc (aa.of Rz) 91 #[.string s] w fun e w'=>e= .returned (.int .u64 (oJ s 4:Int))∧w'=w:=by
 go_enter aa.func91,Tryz.ntmps91
 go_wp2_with fail
 go_loopw [3,5] (fun g b wr=>∃ a:Nat,a≤4∧b= .int .i64 (a:Int)∧g= .int .u64 (oJ s a:Int)∧wr=w) (fun _ b _=>4 - (SC b).toNat)
 case atStart=>exact⟨0,by omega,rfl,rfl,rfl⟩
 case round=>
  obtain⟨a,i,rfl,rfl,rfl⟩:=hrel;by_cases k:a<4
  ·have f:a<s.size:=by omega
   have j:(a:Int)<(s.size:Int):=by omega
   have c:RJ (s[a].toNat=(bytesOf s).getD a 0):=by show _=_;rw[RX,rq s a f];rfl
   have d:s[a].toNat<256:=s[a].toNat_lt;have l:=Nm (oJ s a) s[a].toNat a (by omega) (vu s a) d;have m:TT.wrap (s[a].toNat:Int)=(s[a].toNat:Int):=by rw[wrap_u64];omega
   go_wp2_with fail
   refine⟨⟨a+1,by omega,by go_num,?_,trivial⟩,by simp[SC];omega⟩;rw[oJ,← c.out]
   push_cast
   rfl
  ·obtain rfl:a=4:=by omega
   go_wp2;go_ret;exact⟨rfl,rfl⟩
theorem zJ(E:ByteArray)(h:E.size=4):gu (oJ E 4)=bytesOf E:=by
 have f:(bytesOf E).length=4:=by rw[ai,h]
 have b:=rE E 0;have c:=rE E 1;have d:=rE E 2;have e:=rE E 3;simp only[oJ];generalize bytesOf E=a at*
 match a,f with
 | [g,i,j,k],_=>
  simp at b c d e;simp[gu];omega
theorem Ib(E:ByteArray)(n:Nat)(e:n≤65536)(h:bytesOf E=gu n):oJ E 4=n:=by
 have c:E.size=4:=by rw[← ai,h];rfl
 have b:=zJ E c;have a:gu (oJ E 4)=gu n:=by rw[b,h]
 have d:=vu E 4;unfold gu at a;simp at a;have:(256:Nat) ^ 4=4294967296:=by decide
 omega
def QK (s:ByteArray)(e:Uw):Prop:=
 (∃ a b:ByteArray,e= .returned (.tuple #[.string a,.string b,.bool RF])∧Cut s (bytesOf a) (bytesOf b))∨(e= .returned (.tuple #[.string ⟨#[]⟩,.string ⟨#[]⟩,.bool RE])∧∀ a b,¬ Cut s a b)
theorem MQ(s:ByteArray)(w:RD)(v:s.size≤R3):
 Sc (aa.of Rz) 61 #[.string s] w fun e w'=>QK s e∧RQ w.heap.size w w':=by
 have J:=v;unfold R3 at J;by_cases S:65536<s.size
 ·have G:decide ((65536:Int)<(s.size:Int))=RF:=by simp;omega
  have i:RJ (∀ c a,¬ Cut s c a):=fun c a g=>by have:=g.1;omega
  go_enter aa.func61,Tryz.ntmps61;go_wp2;simp[TV,SD,Tryz.results61,go_sem];exact⟨.inr ⟨rfl,i.out⟩,R5 _ _⟩
 ·have G:decide ((65536:Int)<(s.size:Int))=RE:=by simp;omega
  go_enter aa.func61,Tryz.ntmps61
  go_wp2_with fail
  refine(yN s _ v).mono ?_;rintro e aw ⟨⟨o,D,rfl,n⟩,rfl⟩;rcases n with⟨rfl,n⟩|⟨rfl,rfl,n⟩;rotate_left
  ·have i:RJ (∀ c a,¬ Cut o c a):=fun c a g=>n _ g.2;clear n
   go_wp2_with fail
   refine(qo o _ v).mono ?_;rintro e A ⟨⟨d,D,rfl,h⟩,rfl⟩;clear h;go_wp2;simp[TV,SD,Tryz.results61,go_sem];exact⟨.inr ⟨rfl,i.out⟩,R5 _ _⟩
  ·have W:o.size+4=s.size:=by
    have:=congrArg U4 n;rw[ai,RI,ai] at this;simp at this;omega
   have L:o.size≤R3:=by unfold R3;omega
   have r:RJ (bytesOf s=[83,84,82,65] ++ bytesOf o):=n;clear n
   go_wp2_with fail
   refine(qo o _ L).mono ?_;rintro e A ⟨⟨d,D,rfl,h⟩,rfl⟩;rcases h with⟨rfl,h⟩|⟨rfl,rfl,h⟩;rotate_left
   ·have i:RJ (∀ c a,¬ Cut s c a):=fun c a g=>by
     have j:=g.2;rw[r.out] at j;have l:=List.append_cancel_left (show[83,84,82,65] ++ bytesOf _=[83,84,82,65] ++ _ from j);exact h (c ++ (a ++ gu a.length)) (by rw[l];simp[de])
    clear h;go_wp2;simp[TV,SD,Tryz.results61,go_sem];exact⟨.inr ⟨rfl,i.out⟩,R5 _ _⟩
   ·have X:d.size+4=o.size:=by
     have:=congrArg U4 h;rw[ai,RI,ai] at this;simp at this;omega
    have p:RJ (∀ c a,Cut s c a→bytesOf d=c ++ (a ++ gu a.length)):=fun c a g=>by
     have j:=g.2;rw[r.out] at j;have l:=List.append_cancel_left (show[83,84,82,65] ++ bytesOf _=[83,84,82,65] ++ _ from j);rw[h] at l;have z:bytesOf d ++ [83,84,82,65]=(c ++ (a ++ gu a.length)) ++ [83,84,82,65]:=by rw[l];simp[de]
     exact List.append_cancel_right z
    have t:RJ (∀ c a,bytesOf d=c ++ (a ++ gu a.length)→Cut s c a):=fun c a g=>by
     refine⟨by omega,?_⟩;rw[r.out,h,g];simp[de]
    clear h r;by_cases z:d.size<4
    ·have H:decide ((d.size:Int) - 4<0)=RF:=by simp;omega
     have M:SW ((d.size:Int) - 4)=(d.size:Int) - 4:=by unfold SW;omega
     have i:RJ (∀ c a,¬ Cut s c a):=fun c a g=>by
      have:=congrArg U4 (p.out c a g);rw[ai] at this;simp[gu] at this;omega
     clear p t;go_wp2;simp[TV,SD,Tryz.results61,go_sem];exact⟨.inr ⟨rfl,i.out⟩,R5 _ _⟩
    ·obtain⟨b,K⟩:∃ b,d.size=b+4:=⟨d.size - 4,by omega⟩;have H:decide ((b:Int)<0)=RE:=by simp
     have M:SW ((d.size:Int) - 4)=(b:Int):=by unfold SW;omega
     have P:(b:Int)≤(d.size:Int):=by omega
     have Q:(d.size:Int) - 4=(b:Int):=by omega
     obtain⟨f,u⟩:∃ f,f=d.extract b (b+4):=⟨_,rfl⟩;have q:f.size=4:=by rw[u,ByteArray.size_extract];omega
     have y:RJ (bytesOf d=(bytesOf d).take b ++ bytesOf f):=by
      show _=_;rw[u,cQ,SF (l:=(bytesOf d).drop b) (by rw[Ut,ai];omega),Ul]
     have C:RJ (Sc (aa.of Rz) 91 #[.string (d.extract b (b+4))] A fun e w'=>e= .returned (.int .u64 (oJ f 4:Int))∧w'=A):=by rw[← u];exact xA f _ q
     have B:RJ (gu (oJ f 4)=bytesOf f):=zJ f q;have O:RJ (oJ f 4<4294967296):=vu f 4;have x:RJ (∀ c a,Cut s c a→oJ f 4=a.length∧a.length≤b):=fun c a g=>by
      have E:=p.out c a g;have j:=y.out;have I:=congrArg U4 E;rw[ai] at I;simp[gu] at I;have l:(bytesOf d).take b ++ bytesOf f=(c ++ a) ++ gu a.length:=by rw[← j,E,R9]
      have F:=(List.append_inj' l (by rw[ai,q];rfl)).2;exact⟨Ib f _ (by omega) F,by omega⟩
     clear u;generalize oJ f 4=k at*
     go_wp2_with fail
     refine C.out.mono ?_;rintro e a0 ⟨rfl,rfl⟩;have ao:TT.wrap (b:Int)=(b:Int):=by rw[wrap_u64];omega
     have Z:RJ (d.size=b+4):=K;have Y:RJ (f.size=4):=q;have al:b≤65536:=by omega
     have ab:RJ (s.size≤65536):=by show _≤_;omega
     have am:(b:Int)≤(d.size:Int):=by omega
     clear C M Q P H W X L K q G J v S z;by_cases R:b<k
     ·have T:(b:Int)<(k:Int):=by omega
      have i:RJ (∀ c a,¬ Cut s c a):=fun c a g=>by have:=x.out c a g;omega
      clear p t x;go_wp2;simp[TV,SD,Tryz.results61,go_sem];exact⟨.inr ⟨rfl,i.out⟩,R5 _ _⟩
     ·have T:decide ((b:Int)<(k:Int))=RE:=by simp;omega
      obtain⟨m,V⟩:∃ m,b=m+k:=⟨b - k,by omega⟩;have ar:(b:Int) - (k:Int)=(m:Int):=by omega
      have F:(m:Int)≤(b:Int):=by omega
      have ad:(m:Int)≤(d.size:Int):=by omega
      have N:RJ (Cut s (bytesOf (d.extract 0 m)) (bytesOf (d.extract m b))):=by
       refine t.out _ _ ?_;have U:(bytesOf (d.extract m b)).length=k:=by rw[ai,ByteArray.size_extract];omega
       rw[U,B.out];have j:=y.out;rw[cQ,cQ,List.drop_zero,← R9];have l:((bytesOf d).take (m - 0)) ++ ((bytesOf d).drop m).take (b - m)=(bytesOf d).take b:=by
        rw[show b=m+(b - m) by omega,List.take_add,show m+(b - m) - m=b - m by omega];rfl
       rw[l];exact j
      have ae:k≤65536:=by omega
      clear p t x y B O V R
      go_upto_region 12 with fail
      go_quiet (fail)
      go_wp2;simp[TV,SD,Tryz.results61,go_sem];exact⟨.inl ⟨_,_,rfl,N.out⟩,below_drewN (R5 _ _) _⟩
def Ro (w:RD)(s z:ByteArray)(e:Uw)(w':RD):Prop:=
 RQ w.heap.size w w'∧((∃ (b:List (bO×Int)) (a:List Bd) (f:List (Bd×RB)) (g h i:RB),e= .returned (.tuple #[.agg #[g,h,i],.bool RF])∧si b a∧f.map Sb=a∧bytesOf s=m8 b a∧bytesOf z=bC a∧cM w' w.heap.size b f g h i∧(∀ d c,si d c→bytesOf s=m8 d c→bytesOf z=bC c→d=b∧c=a))∨
  (e= .returned (.tuple #[.agg #[.slice RA 0 0,.slice RA 0 0,.slice RA 0 0],.bool RE])∧∀ b a,si b a→bytesOf s=m8 b a→bytesOf z≠bC a))
theorem zv{w w4:RD}{x y z v:RB}(q:Nat)(hL:w4.heap[w.heap.size]? =Ry (.cells #[x,y,z] 105 (0,0)))(a:w4.heap[w.heap.size+1]? =Ry (.cells #[v] 4 (0,0))):
 CallsD (aa.of Rz) 92 #[.pointer (Ry ⟨w.heap.size,0,RA⟩),.pointer (Ry ⟨w.heap.size+1,0,RA⟩)] (.panicking (dV q)) w4 fun e b w'=>
  e= .returned (.tuple #[])∧b= .panicking [{v:=.iface 205 (.agg #[.int .i64 (q:Int)]),recovered:=RF}]∧w'=(fT (w4.alloc (.cells nu 105)) w.heap.size (.slice RA 0 0) (.slice RA 0 0) (.slice RA 0 0)).setCell ⟨w.heap.size+1,0,RA⟩ (.bool RE):=
 sJ _ _ _ _ _ _ _ _ [] w4 (by omega) hL a
theorem q9{w w4:RD}{x y z v:RB}(a b c u:RB)(hL:w4.heap[w.heap.size]? =Ry (.cells #[x,y,z] 105 (0,0)))(h:w4.heap[w.heap.size+1]? =Ry (.cells #[v] 4 (0,0)))(g:RQ w.heap.size w w4):
 let d:=(fT w4 w.heap.size a b c).setCell ⟨w.heap.size+1,0,RA⟩ u
 (d.cell? ⟨w.heap.size,0,RA⟩=Ry a∧d.cell? ⟨w.heap.size,1,RA⟩=Ry b∧d.cell? ⟨w.heap.size,2,RA⟩=Ry c)∧d.cell? ⟨w.heap.size+1,0,RA⟩=Ry u∧RQ w.heap.size w d:=by
 have e:=pN a b c hL;have f:(fT w4 w.heap.size a b c).heap[w.heap.size+1]? =Ry (.cells #[v] 4 (0,0)):=by rw[jH _ _ _ (by omega)];exact h
 refine⟨(fw (t:=105) (by rw[R6 _ _ _ _ (by simp)];exact e)).1,(cV (rJ u f)).1,?_⟩;exact(lO _ _ _ g (RG _) (RG _)).setCell (Nat.le_succ _) _
theorem FL(cb:Nat)(s z:ByteArray)(w:RD)(b3:s.size≤65536)(b4:z.size≤65536)(U:w.heap[cb]? =Ry (.cells #[.string z] 9 (0,0))):
 Sc (aa.of Rz) 62 #[.string s,.func (.func 63) #[] #[.pointer (Ry ⟨cb,0,RA⟩)]] w (Ro w s z):=by
 have b2:cb<w.heap.size:=RP U;have a6:s.size≤R3:=by unfold R3;omega
 have V:RJ (w.heap[cb]? =Ry (.cells #[.string z] 9 (0,0))):=U;clear U;have ce:∀ (ab:Fn) (first X:Array RB) (w:RD),(Instr.makeFunc ab first X).run (aa.of Rz) w= .ok (.func ab first X) w:=fun _ _ _ _=>rfl
 go_enter_defers aa.func62,Tryz.ntmps62
 go_wp2_with (go_at_call 65;refine(mH s _).mono ?_;rintro q ba ⟨rfl,rfl⟩)
 have J:(((w.alloc (.cells #[.slice RA 0 0,.slice RA 0 0,.slice RA 0 0] 105)).alloc (.cells #[.bool RE] 4)).alloc (bh s 0)).heap[w.heap.size]? =Ry (.cells #[.slice RA 0 0,.slice RA 0 0,.slice RA 0 0] 105 (0,0)):=BA _ _ _ _;have I:(((w.alloc (.cells #[.slice RA 0 0,.slice RA 0 0,.slice RA 0 0] 105)).alloc (.cells #[.bool RE] 4)).alloc (bh s 0)).heap[w.heap.size+1]? =Ry (.cells #[.bool RE] 4 (0,0)):=BB _ _ _ _;have T:(((w.alloc (.cells #[.slice RA 0 0,.slice RA 0 0,.slice RA 0 0] 105)).alloc (.cells #[.bool RE] 4)).alloc (bh s 0)).heap[w.heap.size+1+1]? =Ry (bh s 0):=BC _ _ _ _;have a2:(((w.alloc (.cells #[.slice RA 0 0,.slice RA 0 0,.slice RA 0 0] 105)).alloc (.cells #[.bool RE] 4)).alloc (bh s 0)).heap.size=w.heap.size+3:=by simp
 have A:RQ w.heap.size w (((w.alloc (.cells #[.slice RA 0 0,.slice RA 0 0,.slice RA 0 0] 105)).alloc (.cells #[.bool RE] 4)).alloc (bh s 0)):=(((R5 _ _).alloc (RG _) _).alloc (by simp) _).alloc (by simp;omega) _;generalize (((w.alloc (.cells #[.slice RA 0 0,.slice RA 0 0,.slice RA 0 0] 105)).alloc (.cells #[.bool RE] 4)).alloc (bh s 0))=M at*;refine(Iw (w.heap.size+1+1) cb s z M b3 b4 T ((A.block cb b2).trans V.out)).mono ?_;rintro q i ⟨o,⟨a,c,b,bt,bu,bv,rfl,a5,ar,a7,cd,a0,a3,hF,a8⟩|⟨cf,rfl,aw⟩⟩
 ·have l:i.heap[w.heap.size]? =Ry (.cells #[.slice RA 0 0,.slice RA 0 0,.slice RA 0 0] 105 (0,0)):=Kp.block o J (by omega);have v:i.heap[w.heap.size+1]? =Ry (.cells #[.bool RE] 4 (0,0)):=Kp.block o I (by omega);have G:RQ w.heap.size w i:=A.trans ((o.below (by omega)).mono (by omega));have S:cM i w.heap.size a b bt bu bv:=hF.base (by omega);obtain⟨d,ac,f,e,h,g,rfl,rfl,rfl⟩:=S.Kz;have K:RJ (cM (fT i w.heap.size (.slice d a.length ac) (.slice f a.length e) (.slice h b.length g)) w.heap.size a b (.slice d a.length ac) (.slice f a.length e) (.slice h b.length g)):=S.fT _ _ _ l;have ao:(fT i w.heap.size (.slice d a.length ac) (.slice f a.length e) (.slice h b.length g)).heap[w.heap.size]? =Ry (.cells #[.slice d a.length ac,.slice f a.length e,.slice h b.length g] 105 (0,0)):=pN _ _ _ l;have al:(fT i w.heap.size (.slice d a.length ac) (.slice f a.length e) (.slice h b.length g)).heap[w.heap.size+1]? =Ry (.cells #[.bool RE] 4 (0,0)):=by rw[jH _ _ _ (by omega)];exact v
  have a1:(fT i w.heap.size (.slice d a.length ac) (.slice f a.length e) (.slice h b.length g)).heap[w.heap.size+1+1]? =Ry (bh s (m8 a c).length):=by rw[jH _ _ _ (by omega)];exact a0
  have ae:RQ w.heap.size w (fT i w.heap.size (.slice d a.length ac) (.slice f a.length e) (.slice h b.length g)):=lO _ _ _ G (RG _) (RG _);obtain⟨⟨bc,bd,be⟩,Z,r,t⟩:=fw l;have bm:RJ (si a c):=a5;have bo:RJ (b.map Sb=c):=ar;have br:RJ (ag (bytesOf s) 0 (m8 a c)):=a7;have bs:RJ (bytesOf z=bC c):=a3;have W:RJ (∀ n j,si n j→bytesOf s=m8 n j→bytesOf z=bC j→n=a∧j=c):=fun n j y u Q=>a8 n j y (eu u.symm) Q;have E:RJ _:=ao;have D:RJ _:=al;have C:RJ _:=ae;have F:RJ ((fT i w.heap.size (.slice d a.length ac) (.slice f a.length e) (.slice h b.length g)).heap[w.heap.size+1+1]? =Ry (bh s (m8 a c).length)):=a1;clear J I T a2 A l v G S hF o a0 a5 ar a7 a3 a8 ao al a1 ae V;clear M
  go_upto_region 4 with fail
  unfold fT at K E D C F;generalize ((i.setCell ⟨w.heap.size,0,RA⟩ (.slice d a.length ac)).setCell ⟨w.heap.size,1,RA⟩ (.slice f a.length e)).setCell ⟨w.heap.size,2,RA⟩ (.slice h b.length g)=k at*;clear bc bd be Z r t;by_cases a4:(m8 a c).length<s.size
  ·have L:RJ (∀ a c,si a c→bytesOf s=m8 a c→bytesOf z≠bC c):=fun n j y u Q=>by
    obtain⟨Y,bx⟩:=W.out n j y u Q;have:=congrArg U4 u;rw[ai,Y,bx] at this;omega
   go_wp2_with (go_at_call 93;refine(AM (w.heap.size+1+1) _ s _ a6 a4 F.out).mono ?_;rintro q ba ⟨rfl,m,rfl⟩)
   have p:(k.drewN m).heap[w.heap.size]? =Ry (.cells #[.slice d a.length ac,.slice f a.length e,.slice h b.length g] 105 (0,0)):=E.out;have x:(k.drewN m).heap[w.heap.size+1]? =Ry (.cells #[.bool RE] 4 (0,0)):=D.out;have H:RQ w.heap.size w (k.drewN m):=below_drewN C.out m;generalize k.drewN m=B at*;obtain⟨⟨r,t,N⟩,O,P⟩:=q9 (.slice RA 0 0) (.slice RA 0 0) (.slice RA 0 0) (.bool RE) (w4:=B.alloc (.cells nu 105)) (by rw[Sr _ _ _ (RP p)];exact p) (by rw[Sr _ _ _ (RP x)];exact x) (H.alloc (by have:=RP p;omega) _);refine leaves_cons (f:=92) (args:= #[.pointer (Ry ⟨w.heap.size,0,RA⟩),.pointer (Ry ⟨w.heap.size+1,0,RA⟩)]) (by simp) (by simp[go_sem]) ?_;refine(zv _ p x).mono ?_;rintro q a9 bb ⟨rfl,rfl,rfl⟩;simp[Leaves,settle,SD,Tryz.results62,go_sem,r,t,N,O];exact⟨P,.inr ⟨rfl,L.out⟩⟩
  ·have bj:RJ (bytesOf s=m8 a c):=ye br.out (by rw[ai];omega)
   go_upto_region 5 with(go_at_call 93;refine(EA (w.heap.size+1+1) _ s _ a6 a4 F.out).mono ?_;rintro q ba ⟨rfl,m,rfl⟩)
   have p:(k.drewN m).heap[w.heap.size]? =Ry (.cells #[.slice d a.length ac,.slice f a.length e,.slice h b.length g] 105 (0,0)):=E.out;have x:(k.drewN m).heap[w.heap.size+1]? =Ry (.cells #[.bool RE] 4 (0,0)):=D.out;have H:RQ w.heap.size w (k.drewN m):=below_drewN C.out m;have am:cM (k.drewN m) w.heap.size a b (.slice d a.length ac) (.slice f a.length e) (.slice h b.length g):=K.out.below (below_drewN (R5 _ _) _);generalize k.drewN m=B at*;obtain⟨⟨bA,bB,b0⟩,b1,ad⟩:=q9 (.slice d a.length ac) (.slice f a.length e) (.slice h b.length g) (.bool RF) p x H;have bi:RJ _:=ad;have R:(fT B w.heap.size (.slice d a.length ac) (.slice f a.length e) (.slice h b.length g)).heap[w.heap.size+1]? =Ry (.cells #[.bool RE] 4 (0,0)):=by rw[jH _ _ _ (by omega)];exact x
   have bl:RJ (cM ((fT B w.heap.size (.slice d a.length ac) (.slice f a.length e) (.slice h b.length g)).setCell ⟨w.heap.size+1,0,RA⟩ (.bool RF)) w.heap.size a b (.slice d a.length ac) (.slice f a.length e) (.slice h b.length g)):=(am.fT _ _ _ p).put R (.inr (.inl rfl)) _ _;obtain⟨⟨bc,bd,be⟩,Z,r,t⟩:=fw p;obtain⟨cc,Y⟩:=cV R;clear ad am H K E D C F R;unfold fT at*;go_wp2;generalize (((B.setCell ⟨w.heap.size,0,RA⟩ (.slice d a.length ac)).setCell ⟨w.heap.size,1,RA⟩ (.slice f a.length e)).setCell ⟨w.heap.size,2,RA⟩ (.slice h b.length g)).setCell ⟨w.heap.size+1,0,RA⟩ (.bool RF)=ca at*;refine leaves_cons (f:=92) (args:= #[.pointer (Ry ⟨w.heap.size,0,RA⟩),.pointer (Ry ⟨w.heap.size+1,0,RA⟩)]) (by simp) (by simp[go_sem]) ?_;refine(Cb ⟨w.heap.size,0,RA⟩ ⟨w.heap.size+1,0,RA⟩ _).mono ?_;rintro q a9 bb ⟨rfl,rfl,rfl⟩;simp[Leaves,settle,SD,Tryz.results62,go_sem,bA,bB,b0,b1];exact⟨bi.out,.inl ⟨a,c,b,_,_,_,rfl,bm.out,bo.out,bj.out,bs.out,bl.out,W.out⟩⟩
 ·have l:i.heap[w.heap.size]? =Ry (.cells #[.slice RA 0 0,.slice RA 0 0,.slice RA 0 0] 105 (0,0)):=Kp.block o J (by omega);have v:i.heap[w.heap.size+1]? =Ry (.cells #[.bool RE] 4 (0,0)):=Kp.block o I (by omega);have G:RQ w.heap.size w i:=A.trans ((o.below (by omega)).mono (by omega));have L:RJ (∀ a c,si a c→bytesOf s=m8 a c→bytesOf z≠bC c):=fun n j y u=>aw n j y (eu u.symm);clear J I T a2 A o aw;clear M;obtain⟨⟨r,t,N⟩,O,P⟩:=q9 (.slice RA 0 0) (.slice RA 0 0) (.slice RA 0 0) (.bool RE) (w4:=i.alloc (.cells nu 105)) (by rw[Sr _ _ _ (RP l)];exact l) (by rw[Sr _ _ _ (RP v)];exact v) (G.alloc (by have:=RP l;omega) _);refine leaves_cons (f:=92) (args:= #[.pointer (Ry ⟨w.heap.size,0,RA⟩),.pointer (Ry ⟨w.heap.size+1,0,RA⟩)]) (by simp) (by simp[go_sem]) ?_;refine(zv _ l v).mono ?_;rintro q a9 bb ⟨rfl,rfl,rfl⟩;simp[Leaves,settle,SD,Tryz.results62,go_sem,r,t,N,O];exact⟨P,.inr ⟨rfl,L.out⟩⟩
def lz (v low:aD):Bool:= !low.null && decide (iN v low<0)
def lm (v high:aD):Bool:= !high.null && decide (0<iN v high)
theorem uf(v low:aD)(w:RD):Sc (aa.of Rz) 114 #[v.agg,low.agg] w fun e w'=>e= .returned (.bool (lz v low))∧RQ w.heap.size w w':=by
 have h:=fun j=>iP v low j;obtain⟨g,b,c⟩:=low;unfold aD.agg;have d:RJ (RQ w.heap.size w ((w.alloc (.cells #[.bool v.null,.int .i64 v.n,.string v.s] 59)).alloc (.cells #[.bool g,.int .i64 b,.string c] 59))):=((R5 _ _).alloc (RG _) _).alloc (by simp) _;cases g
 ·have a:lz v ⟨RE,b,c⟩=decide (iN v ⟨RE,b,c⟩<0):=by simp[lz]
  rw[a];clear a;go_enter aa.func114,Tryz.ntmps114
  go_wp2_with (go_at_call 125;refine(h _).mono ?_;rintro e w' ⟨rfl,f⟩;have i:RJ (RQ w.heap.size w w'):=d.out.trans (f.mono (by simp;omega));clear f)
  go_ret;exact⟨rfl,i.out⟩
 ·have a:lz v ⟨RF,b,c⟩=RE:=by simp[lz]
  rw[a];clear a;go_enter aa.func114,Tryz.ntmps114;go_wp2;go_ret;exact⟨rfl,d.out⟩
theorem ue(v low:aD)(w:RD):Sc (aa.of Rz) 115 #[v.agg,low.agg] w fun e w'=>e= .returned (.bool (lm v low))∧RQ w.heap.size w w':=by
 have h:=fun j=>iP v low j;obtain⟨g,b,c⟩:=low;unfold aD.agg;have d:RJ (RQ w.heap.size w ((w.alloc (.cells #[.bool v.null,.int .i64 v.n,.string v.s] 59)).alloc (.cells #[.bool g,.int .i64 b,.string c] 59))):=((R5 _ _).alloc (RG _) _).alloc (by simp) _;cases g
 ·have a:lm v ⟨RE,b,c⟩=decide (0<iN v ⟨RE,b,c⟩):=by simp[lm]
  rw[a];clear a;go_enter aa.func115,Tryz.ntmps115
  go_wp2_with (go_at_call 125;refine(h _).mono ?_;rintro e w' ⟨rfl,f⟩;have i:RJ (RQ w.heap.size w w'):=d.out.trans (f.mono (by simp;omega));clear f)
  go_ret;exact⟨rfl,i.out⟩
 ·have a:lm v ⟨RF,b,c⟩=RE:=by simp[lm]
  rw[a];clear a;go_enter aa.func115,Tryz.ntmps115;go_wp2;go_ret;exact⟨rfl,d.out⟩
def qv (a b c d e:RB)(sk:Bool):RB:=.agg #[a,b,c,d,e,.bool sk]
theorem yQ(h:Option Sl)(n cap:Nat)(b c d e:RB)(sk:Bool)(k:Int)(w:RD):Sc (aa.of Rz) 106 #[qv (.slice h n cap) b c d e sk,.int .i64 k] w fun f w'=>f= .returned (.bool (decide (0≤k) && decide (k<(n:Int))))∧RQ w.heap.size w w':=by
 unfold qv;have g:RJ (RQ w.heap.size w (w.alloc (.cells #[.slice h n cap,b,c,d,e,.bool sk] 115))):=(R5 _ _).alloc (RG _) _;by_cases i:0≤k
 ·have a:decide (0≤k)=RF:=by simpa using i
  rw[a];go_enter aa.func106,Tryz.ntmps106;go_wp2;go_ret;exact⟨rfl,g.out⟩
 ·have a:decide (0≤k)=RE:=by simpa using i
  rw[a];go_enter aa.func106,Tryz.ntmps106;go_wp2;go_ret;exact⟨rfl,g.out⟩
structure cj where
 col:Int
 low:aD
 high:aD
def qR (x:cj):List RB:=[.int .i64 x.col,.bool x.low.null,.int .i64 x.low.n,.string x.low.s,.bool x.high.null,.int .i64 x.high.n,.string x.high.s]
def dz (l:List cj):List RB:=l.flatMap qR
structure cY(w:RD)(ao:Option Sl)(b off:Nat)(l:List cj):Prop where
 addr:0<l.length→ao=Ry ⟨b,off,RA⟩
 lt:0<l.length→b<w.heap.size
 c0:∀ j (h:j<l.length),w.cell? ⟨b,off+j*7,RA⟩=Ry (.int .i64 l[j].col)
 c1:∀ j (h:j<l.length),w.cell? ⟨b,off+j*7+1,RA⟩=Ry (.bool l[j].low.null)
 c2:∀ j (h:j<l.length),w.cell? ⟨b,off+j*7+2,RA⟩=Ry (.int .i64 l[j].low.n)
 c3:∀ j (h:j<l.length),w.cell? ⟨b,off+j*7+3,RA⟩=Ry (.string l[j].low.s)
 c4:∀ j (h:j<l.length),w.cell? ⟨b,off+j*7+4,RA⟩=Ry (.bool l[j].high.null)
 c5:∀ j (h:j<l.length),w.cell? ⟨b,off+j*7+5,RA⟩=Ry (.int .i64 l[j].high.n)
 c6:∀ j (h:j<l.length),w.cell? ⟨b,off+j*7+6,RA⟩=Ry (.string l[j].high.s)
theorem cY.kept{w w':RD}{f:Option Sl}{b off:Nat}{l:List cj}(h:cY w f b off l)(j:w.heap.size≤w'.heap.size)(i:0<l.length→w'.heap[b]? =w.heap[b]?):cY w' f b off l:=by
 have d:∀ a,a<l.length→∀ e,w'.cell? ⟨b,e,RA⟩=w.cell? ⟨b,e,RA⟩:=fun a c e=>by unfold R2;rw[i (by omega)]
 exact⟨h.addr,fun g=>RK (h.lt g) j,fun a c=>(d a c _).trans (h.c0 a c),fun a c=>(d a c _).trans (h.c1 a c),fun a c=>(d a c _).trans (h.c2 a c),fun a c=>(d a c _).trans (h.c3 a c),fun a c=>(d a c _).trans (h.c4 a c),fun a c=>(d a c _).trans (h.c5 a c),fun a c=>(d a c _).trans (h.c6 a c)⟩
theorem cY.below{w w':RD}{a:Option Sl}{b off:Nat}{l:List cj}(h:cY w a b off l)(c:RQ w.heap.size w w'):cY w' a b off l:=h.kept c.size fun d=>c.block b (h.lt d)
theorem mW:∀ (l:List cj) (j:Nat) (h:j<l.length) (i:Nat) (v:RB),(qR l[j])[i]? =Ry v→(dz l)[j*7+i]? =Ry v
 | [],j,h,i,v,a=>by simp at h
 |x :: l,0,h,i,v,a=>by
  simp only[List.getElem_cons_zero] at a;simp only[dz,Ui,Nat.zero_mul,SA];exact S7 (R8.1 a).1▸a
 |x :: l,j+1,h,i,v,a=>by
  simp only[List.getElem_cons_succ] at a;have:=mW l j (by simpa using h) i v a;have b:(j+1)*7+i=j*7+i+7:=by omega
  rw[b];simpa [dz,qR] using this
theorem qx(l:List cj):(dz l).length=l.length*7:=by
 induction l with
 |nil=>rfl
 |cons b l a=>simp only[dz,Ui,RI,TA,qR,List.length_nil] at a ⊢;omega
theorem cY.CM{w:RD}{b off:Nat}{l:List cj}(e:b<w.heap.size)(hc:∀ i v,(dz l)[i]? =Ry v→w.cell? ⟨b,off+i,RA⟩=Ry v):cY w (Ry ⟨b,off,RA⟩) b off l:=by
 have d:∀ a (c:a<l.length) i v,(qR l[a])[i]? =Ry v→w.cell? ⟨b,off+a*7+i,RA⟩=Ry v:=fun a c i v f=>by
  have:=hc _ _ (mW l a c i v f);rw[SL];exact this
 exact⟨fun _=>rfl,fun _=>e,fun a c=>d a c 0 _ rfl,fun a c=>d a c 1 _ rfl,fun a c=>d a c 2 _ rfl,fun a c=>d a c 3 _ rfl,fun a c=>d a c 4 _ rfl,fun a c=>d a c 5 _ rfl,fun a c=>d a c 6 _ rfl⟩
structure p9(w:RD)(lb m:Nat)(c:Int)(p:Nat)(v:aD):Prop where
 ex:∃ j g n cap:Nat,c=(j:Int)∧j<m∧lb<w.heap.size∧w.cell? ⟨lb,j,RA⟩=Ry (.slice (Ry ⟨g,0,RA⟩) n cap)∧p<n∧g<w.heap.size∧w.cell? ⟨g,p*3,RA⟩=Ry (.bool v.null)∧w.cell? ⟨g,p*3+1,RA⟩=Ry (.int .i64 v.n)∧w.cell? ⟨g,p*3+2,RA⟩=Ry (.string v.s)
theorem p9.below{w w':RD}{lb m:Nat}{c:Int}{p:Nat}{v:aD}(h:p9 w lb m c p v)(a:RQ w.heap.size w w'):p9 w' lb m c p v:=by
 obtain⟨e,b,r,f,g,i,j,k,l,d,n,o,q⟩:=h.ex;have s:=a.size;exact⟨e,b,r,f,g,i,by omega,(a.cell (p:=⟨lb,e,RA⟩) j).trans k,l,by omega,(a.cell (p:=⟨b,p*3,RA⟩) d).trans n,(a.cell (p:=⟨b,p*3+1,RA⟩) d).trans o,(a.cell (p:=⟨b,p*3+2,RA⟩) d).trans q⟩
def ud (v:aD)(r:cj):Bool:= !(v.null || lz v r.low || lm v r.high)
theorem iJ(w:RD)(o:UQ):(w.alloc o).heap[w.heap.size]? =Ry o:=by
 show(w.heap.push o)[w.heap.size]? =Ry o;simp
theorem jL{i:RD}{g:Nat}{a b c d e f h:RB}{t:RO}(j:i.heap[g]? =Ry (.cells #[a,b,c,d,e,f,h] t (0,0))):i.cell? ⟨g,0,RA⟩=Ry a∧i.cell? ⟨g,1,RA⟩=Ry b∧i.cell? ⟨g,2,RA⟩=Ry c∧i.cell? ⟨g,3,RA⟩=Ry d∧i.cell? ⟨g,4,RA⟩=Ry e∧i.cell? ⟨g,5,RA⟩=Ry f∧i.cell? ⟨g,6,RA⟩=Ry h:=by
 unfold R2;simp[j]
theorem wR(rs:List cj)(val:Int→aD)(p lb m ce:Nat)(a b c d:RB)(ro:Option Sl)(rb bq aI:Nat)(sk:Bool)(w:RD)(cc:rs.length≤R3)(q:cY w ro rb bq rs)(a2:∀ r∈rs,p9 w lb m r.col p (val r.col)):
 Sc (aa.of Rz) 118 #[qv a b c d (.slice ro rs.length aI) sk,.slice (Ry ⟨lb,0,RA⟩) m ce,.int .i64 (p:Int)] w fun e w'=>∃ bb,e= .returned (.bool bb)∧(bb=RF↔∀ i (h:i<rs.length),ud (val rs[i].col) rs[i]=RF)∧RQ w.heap.size w w':=by
 unfold qv;unfold R3 at cc;have T:RJ (cY w ro rb bq rs):=q;have S:RJ (∀ r∈rs,p9 w lb m r.col p (val r.col)):=a2;clear q a2;go_enter aa.func118,Tryz.ntmps118
 go_wp2_with fail
 go_loopw [13] (fun i wr=>∃ g:Nat,g≤rs.length∧i= .int .i64 g∧(∀ i (h:i<rs.length),i<g→ud (val rs[i].col) rs[i]=RF)∧RQ w.heap.size w wr) (fun i _=>rs.length - (SC i).toNat)
 case atStart=>exact⟨0,Sk _,rfl,fun cv _ h=>by omega,(R5 _ _).alloc (RG _) _⟩
 case round=>
  obtain⟨g,cn,rfl,a1,G⟩:=hrel;have N:RJ (∀ i (h:i<rs.length),i<g→ud (val rs[i].col) rs[i]=RF):=a1;have ae:RJ (RQ w.heap.size w wr):=G;have cd:=G.size;clear a1;by_cases u:g<rs.length
  ·have q:=T.out.below G;obtain rfl:=q.addr (by omega);have a3:=q.c0 g u;have a4:=q.c1 g u;have a5:=q.c2 g u;have a6:=q.c3 g u;have a7:=q.c4 g u;have a8:=q.c5 g u;have a9:=q.c6 g u;obtain⟨A,V,co,ck,al,bA,am,ao,bB,O,ar,aw,a0⟩:=((S.out rs[g] (RV u)).below G).ex;have E:RJ (ud (val rs[g].col) rs[g]=RE→¬ ∀ i (h:i<rs.length),ud (val rs[i].col) rs[i]=RF):=fun h b4=>by
    have:=b4 g u;rw[h] at this;cases this
   have J:RJ (ud (val rs[g].col) rs[g]=RF→∀ i (h:i<rs.length),i<g+1→ud (val rs[i].col) rs[i]=RF):=fun h i cb cl=>by
    by_cases e:i=g
    ·subst e;exact h
    ·exact N.out i cb (by omega)
   clear q G N T S;generalize rs[g]=bu at*;generalize val bu.col=v at*;obtain⟨cx,k,j⟩:=bu;dsimp only at al a3 a4 a5 a6 a7 a8 a9;subst al
   go_upto_region 4 with fail
   have cf:=jL (iJ wr (.cells #[.int .i64 (A:Int),.bool k.null,.int .i64 k.n,.string k.s,.bool j.null,.int .i64 j.n,.string j.s] 61));obtain⟨ch,ba,bc,bd,be,bi,bj⟩:=cf;have n:RQ wr.heap.size wr (wr.alloc (.cells #[.int .i64 (A:Int),.bool k.null,.int .i64 k.n,.string k.s,.bool j.null,.int .i64 j.n,.string j.s] 61)):=(R5 _ _).alloc (RG _) _;have b0:=(n.cell (p:=⟨lb,A,RA⟩) am).trans ao;have b1:=(n.cell (p:=⟨V,p*3,RA⟩) O).trans ar;have b2:=(n.cell (p:=⟨V,p*3+1,RA⟩) O).trans aw;have b3:=(n.cell (p:=⟨V,p*3+2,RA⟩) O).trans a0;have R:RJ (RQ w.heap.size w (wr.alloc (.cells #[.int .i64 (A:Int),.bool k.null,.int .i64 k.n,.string k.s,.bool j.null,.int .i64 j.n,.string j.s] 61))):=ae.out.trans (n.mono cd);have F:wr.heap.size<(wr.alloc (.cells #[.int .i64 (A:Int),.bool k.null,.int .i64 k.n,.string k.s,.bool j.null,.int .i64 j.n,.string j.s] 61)).heap.size:=by simp
   clear n a3 a4 a5 a6 a7 a8 a9 ao ar aw a0 am O;generalize wr.alloc (.cells #[.int .i64 (A:Int),.bool k.null,.int .i64 k.n,.string k.s,.bool j.null,.int .i64 j.n,.string j.s] 61)=s at*;generalize wr.heap.size=l at*;have ca:(A:Int)<(m:Int):=by omega
   go_upto_region 5 with fail
   obtain⟨M,W,X⟩:=DJ s (.bool v.null) (.int .i64 v.n) (.string v.s) 59;have n:RQ s.heap.size s (s.alloc (.cells #[.bool v.null,.int .i64 v.n,.string v.s] 59)):=(R5 _ _).alloc (RG _) _;have cp:=(n.cell (p:=⟨l,1,RA⟩) F).trans ba;have cs:=(n.cell (p:=⟨l,2,RA⟩) F).trans bc;have cu:=(n.cell (p:=⟨l,3,RA⟩) F).trans bd;have Y:=(n.cell (p:=⟨l,4,RA⟩) F).trans be;have Z:=(n.cell (p:=⟨l,5,RA⟩) F).trans bi;have ab:=(n.cell (p:=⟨l,6,RA⟩) F).trans bj;have C:RJ (RQ w.heap.size w (s.alloc (.cells #[.bool v.null,.int .i64 v.n,.string v.s] 59))):=R.out.trans (n.mono (by have:=R.out.size;omega));have x:l<(s.alloc (.cells #[.bool v.null,.int .i64 v.n,.string v.s] 59)).heap.size:=by simp;omega
   have y:s.heap.size<(s.alloc (.cells #[.bool v.null,.int .i64 v.n,.string v.s] 59)).heap.size:=by simp
   clear n ch ba bc bd be bi bj b0 b1 b2 b3 R F ca bA bB;generalize s.alloc (.cells #[.bool v.null,.int .i64 v.n,.string v.s] 59)=ci at*;generalize s.heap.size=t at*;have z:=fun U=>uf v k U;have B:=fun U=>ue v j U;unfold aD.agg at z B;have o:ud v ⟨(A:Int),k,j⟩= !(v.null || lz v k || lm v j):=rfl;cases H:v.null
   ·rw[H] at M z B o;cases L:lz v k
    ·rw[L] at z o;cases P:lm v j
     ·rw[P] at B o;have bx:RJ (∀ i (h:i<rs.length),i<g+1→ud (val rs[i].col) rs[i]=RF):=J.out o;clear E J o L P H
      go_wp2_with (first|(go_at_call 114;refine(z _).mono ?_;rintro e w' ⟨rfl,f⟩;have D:RJ (RQ w.heap.size w w'):=C.out.trans (f.mono (by have:=C.out.size;omega));have bl:=(f.cell (p:=⟨t,0,RA⟩) y).trans M;have bm:=(f.cell (p:=⟨t,1,RA⟩) y).trans W;have bo:=(f.cell (p:=⟨t,2,RA⟩) y).trans X;have br:=(f.cell (p:=⟨l,4,RA⟩) x).trans Y;have bs:=(f.cell (p:=⟨l,5,RA⟩) x).trans Z;have bt:=(f.cell (p:=⟨l,6,RA⟩) x).trans ab;clear f)|(go_at_call 115;refine(B _).mono ?_;rintro e ad ⟨rfl,K⟩;have Q:RJ (RQ w.heap.size w ad):=D.out.trans (K.mono (by have:=D.out.size;omega));clear K))
      go_roundw
      case rel=>exact⟨g+1,by omega,by go_num,bx.out,Q.out⟩
      case measure=>simp[SC];omega
     ·rw[P] at B o;have I:RJ (¬ ∀ i (h:i<rs.length),ud (val rs[i].col) rs[i]=RF):=E.out o;clear E J o L P H
      go_wp2_with (first|(go_at_call 114;refine(z _).mono ?_;rintro e w' ⟨rfl,f⟩;have D:RJ (RQ w.heap.size w w'):=C.out.trans (f.mono (by have:=C.out.size;omega));have bl:=(f.cell (p:=⟨t,0,RA⟩) y).trans M;have bm:=(f.cell (p:=⟨t,1,RA⟩) y).trans W;have bo:=(f.cell (p:=⟨t,2,RA⟩) y).trans X;have br:=(f.cell (p:=⟨l,4,RA⟩) x).trans Y;have bs:=(f.cell (p:=⟨l,5,RA⟩) x).trans Z;have bt:=(f.cell (p:=⟨l,6,RA⟩) x).trans ab;clear f)|(go_at_call 115;refine(B _).mono ?_;rintro e ad ⟨rfl,K⟩;have Q:RJ (RQ w.heap.size w ad):=D.out.trans (K.mono (by have:=D.out.size;omega));clear K))
      go_ret;exact⟨RE,rfl,by simp only[Sa,false_iff];exact I.out,Q.out⟩
    ·rw[L] at z o;have I:RJ (¬ ∀ i (h:i<rs.length),ud (val rs[i].col) rs[i]=RF):=E.out o;clear E J o L H
     go_wp2_with (go_at_call 114;refine(z _).mono ?_;rintro e w' ⟨rfl,f⟩;have D:RJ (RQ w.heap.size w w'):=C.out.trans (f.mono (by have:=C.out.size;omega));have bl:=(f.cell (p:=⟨t,0,RA⟩) y).trans M;have bm:=(f.cell (p:=⟨t,1,RA⟩) y).trans W;have bo:=(f.cell (p:=⟨t,2,RA⟩) y).trans X;have br:=(f.cell (p:=⟨l,4,RA⟩) x).trans Y;have bs:=(f.cell (p:=⟨l,5,RA⟩) x).trans Z;have bt:=(f.cell (p:=⟨l,6,RA⟩) x).trans ab;clear f)
     go_ret;exact⟨RE,rfl,by simp only[Sa,false_iff];exact I.out,D.out⟩
   ·rw[H] at M o;have I:RJ (¬ ∀ i (h:i<rs.length),ud (val rs[i].col) rs[i]=RF):=E.out o;clear E J o H z B;go_wp2;go_ret;exact⟨RE,rfl,by simp only[Sa,false_iff];exact I.out,C.out⟩
  ·have bv:RJ (∀ i (h:i<rs.length),ud (val rs[i].col) rs[i]=RF):=fun i h=>N.out i h (by omega);clear N G T S;go_wp2;go_ret;exact⟨RF,rfl,by simp only[true_iff];exact bv.out,ae.out⟩
theorem zZ(ah:List Int)(val:Int→aD)(p lb m ae:Nat)(a b c f:RB)(co:Option Sl)(cb bk aF:Nat)(sk:Bool)(w:RD)(a6:ah.length≤1000)(A:0<ah.length→co=Ry ⟨cb,bk,RA⟩)(B:0<ah.length→cb<w.heap.size)(o:∀ j,j<ah.length→w.cell? ⟨cb,bk+j,RA⟩=Ry (.int .i64 (ah.getD j 0)))(C:∀ k∈ah,p9 w lb m k p (val k)):
 Sc (aa.of Rz) 119 #[qv a b c (.slice co ah.length aF) f sk,.slice (Ry ⟨lb,0,RA⟩) m ae,.int .i64 (p:Int)] w fun e w'=>RQ w.heap.size w w'∧∃ v,e= .returned v∧w'.ownsRow w.heap.size 59 3 v ah.length (aE (ah.map val)):=by
 unfold qv;obtain⟨K,G,X,J,Y⟩:=S3 aa.ni;have u:RJ (0<ah.length→co=Ry ⟨cb,bk,RA⟩):=A;have y:RJ (0<ah.length→cb<w.heap.size):=B;have x:RJ (∀ j,j<ah.length→w.cell? ⟨cb,bk+j,RA⟩=Ry (.int .i64 (ah.getD j 0))):=o;have t:RJ (∀ k∈ah,p9 w lb m k p (val k)):=C;have s:RJ (RQ w.heap.size w (w.alloc (.cells #[a,b,c,.slice co ah.length aF,f,.bool sk] 115))):=(R5 _ _).alloc (RG _) _;have V:(w.alloc (.cells #[a,b,c,.slice co ah.length aF,f,.bool sk] 115)).heap.size=w.heap.size+1:=by simp
 clear A B o C;go_enter aa.func119,Tryz.ntmps119
 go_wp2_with (at_make;refine TM _ rfl _ _ 43 rfl (w.heap.size+1) 59 K _ 3 aa.underlying43 G X J .i64 .i64 _ ah.length rfl rfl rfl (by rw[Y];omega) (by unfold R3;omega) (by simp) ?_;intro M H E;have n:=(R5 (w.heap.size+1) (w.alloc (.cells #[a,b,c,.slice co ah.length aF,f,.bool sk] 115))).grown E (by simp) (by simp);have U:M.cell? ⟨w.heap.size,3,RA⟩=Ry (.slice co ah.length aF):=(n.cell (p:=⟨w.heap.size,3,RA⟩) (by simp)).trans (by unfold R2;rw[iJ];rfl))
 have r:RJ (RQ w.heap.size w M):=s.out.trans (n.mono (by omega));clear E n s V U
 go_loopw [7,17] (fun ad q wr=>∃ k:Nat,k≤ah.length∧q= .int .i64 (k:Int)∧ad= .slice (Ry ⟨w.heap.size+1,0,RA⟩) k ah.length∧wr.ownsRow (w.heap.size+1) 59 3 (.slice (Ry ⟨w.heap.size+1,0,RA⟩) k ah.length) k (aE ((ah.take k).map val))∧RQ w.heap.size w wr) (fun _ q _=>ah.length - (SC q).toNat)
 case atStart=>exact⟨0,Sk _,rfl,rfl,by simpa [aE] using H,r.out⟩
 case round=>
  clear H r;obtain⟨k,a5,rfl,rfl,g,d⟩:=hrel;have l:RJ (RQ w.heap.size w wr):=d;have W:=d.size;have a4:w.heap.size+1<wr.heap.size:=(g.lt (w.heap.size+1) rfl).2;by_cases h:k<ah.length
  ·obtain rfl:=u.out (by omega);have S:=y.out (by omega);have L:wr.cell? ⟨cb,bk+k,RA⟩=Ry (.int .i64 (ah.getD k 0)):=(d.cell (p:=⟨cb,bk+k,RA⟩) S).trans (x.out k h);have D:ah.getD k 0=ah[k]:=by rw[RX,RS h];rfl
   rw[D] at L;obtain⟨ab,R,al,ao,z,P,ar,aw,Q,a0,a1,a2,a3⟩:=((t.out ah[k] (RV h)).below d).ex;have O:RJ (aE ((ah.take k).map val) ++ [.bool (val ah[k]).null,.int .i64 (val ah[k]).n,.string (val ah[k]).s]=aE ((ah.take (k+1)).map val)):=by
    show _=_;rw[RR h,SQ,TX,eB]
   have o:(ab:Int)<(m:Int):=by omega
   have a7:(p:Int)<(al:Int):=by omega
   generalize Z:val ah[k]=i at*;rw[z] at L;clear d D z Z P Q t u y x
   go_wp2_with (at_builtin;refine Tn _ rfl _ _ 43 rfl (w.heap.size+1) 59 K 3 aa.underlying43 G J (w.heap.size+1) k ah.length _ rfl (g.alloc _) ⟨wr.heap.size,0,RA⟩ 1 1 [.bool i.null,.int .i64 i.n,.string i.s] rfl rfl (by exact iC _ _ _ _ _) (fY i) (by omega) ?_;intro am I F)
   have N:RJ (RQ w.heap.size w am):=(l.out.alloc W _).grown F (by simp;omega) (by intro R T;simp at T;omega);rw[O.out] at I;clear g F l;go_wp2
   go_roundw
   case rel=>exact⟨k+1,by omega,by go_num,rfl,I,N.out⟩
   case measure=>simp[SC];omega
  ·obtain rfl:k=ah.length:=by omega
   rw[SR] at g;clear d;go_wp2;go_ret;exact⟨l.out,_,rfl,bz g (by omega)⟩
theorem aa.Qd:((aa.of Rz).info? 4).map (fun i=>(i.zero,i.size,i.bytes))=Ry (Ry (.bool RE),1,1):=by kernel_rfl
def aP (n:Nat)(l:List Int):List Bool:=(Sw n).map fun(a:Nat)=>l.any fun b=>b == (a:Int)
def vS (l:List Bool):List RB:=l.map Ug
theorem jQ(n:Nat)(l:List Int):(aP n l).length=n:=by simp[aP]
theorem ug(n:Nat)(l:List Int)(j:Nat):(vS (aP n l)).set j (.bool RF)=vS (aP n (l ++ [(j:Int)])):=by
 apply List.ext_getElem?;intro c;simp only[vS,aP,List.getElem?_set,Sy,List.length_range,List.getElem?_map,List.any_append];by_cases b:j=c
 ·subst b;by_cases a:j<n
  ·simp[a]
  ·simp[a]
 ·rcases Ts c n with a|a
  ·have d:((j:Int) == (c:Int))=RE:=by simpa using fun a=>b (by omega)
   simp[b,a,d]
  ·simp[b,a]
theorem C9{a:RD}{g:Nat}{b:List RB}{t:RO}(h:a.heap[g]? =Ry (.cells b.toArray t (0,0))){j:Nat}{v:RB}(c:b[j]? =Ry v):a.cell? ⟨g,j,RA⟩=Ry v∧a.frozen? ⟨g,j,RA⟩=RE:=by
 constructor
 ·unfold R2;simp only[h];simpa using c
 ·unfold SH;simp only[h];simp
theorem Gq{a:RD}{g:Nat}{b:List RB}{t:RO}(h:a.heap[g]? =Ry (.cells b.toArray t (0,0)))(j:Nat)(v:RB):(a.setCell ⟨g,j,RA⟩ v).heap[g]? =Ry (.cells (b.set j v).toArray t (0,0)):=by
 have:=RZ a g j _ _ v h;rw[this];simp
theorem nT(n:Nat)(ah:List Int)(rs:List cj)(s:Option Sl)(q:Nat)(b c:RB)(co:Option Sl)(cb bk aF:Nat)(ro:Option Sl)(rb bq aI:Nat)(sk:Bool)(w:RD)(br:n≤1000)(a6:ah.length≤R3)(a7:rs.length≤R3)
 (S:0<ah.length→co=Ry ⟨cb,bk,RA⟩) (U:0<ah.length→cb<w.heap.size) (T:∀ j,j<ah.length→w.cell? ⟨cb,bk+j,RA⟩=Ry (.int .i64 (ah.getD j 0))) (m:cY w ro rb bq rs) (X:∀ k∈ah,0≤k∧k<(n:Int)) (Y:∀ r∈rs,0≤r.col∧r.col<(n:Int)):
 Sc (aa.of Rz) 76 #[qv (.slice s n q) b c (.slice co ah.length aF) (.slice ro rs.length aI) sk] w fun e w'=>RQ w.heap.size w w'∧∃ g,e= .returned (.slice (Ry ⟨g,0,RA⟩) n n)∧w.heap.size≤g∧w'.heap[g]? =Ry (.cells (vS (aP n (ah ++ rs.map cj.col))).toArray 4 (0,0)):=by
 unfold qv;obtain⟨be,a4,bb,bc,bd⟩:=S3 aa.Qd;unfold R3 at a6 a7;have E:RJ (0<ah.length→co=Ry ⟨cb,bk,RA⟩):=S;have G:RJ (0<ah.length→cb<w.heap.size):=U;have F:RJ (∀ j,j<ah.length→w.cell? ⟨cb,bk+j,RA⟩=Ry (.int .i64 (ah.getD j 0))):=T;have A:RJ (cY w ro rb bq rs):=m;have H:RJ (∀ k∈ah,0≤k∧k<(n:Int)):=X;have z:RJ (∀ r∈rs,0≤r.col∧r.col<(n:Int)):=Y;have R:RJ (RQ w.heap.size w (w.alloc (.cells #[.slice s n q,b,c,.slice co ah.length aF,.slice ro rs.length aI,.bool sk] 115))):=(R5 _ _).alloc (RG _) _;clear S U T m X Y;go_enter aa.func76,Tryz.ntmps76
 go_wp2_with (at_make;refine wpList_make_full _ rfl _ _ 160 rfl (w.heap.size+1) 4 be (.bool RE) 1 aa.underlying160 a4 bb bc .i64 .i64 _ _ n rfl rfl rfl rfl (by rw[bd];omega) (by unfold R3;omega) (by simp) ?_;intro C B W;have o:=(R5 (w.heap.size+1) (w.alloc (.cells #[.slice s n q,b,c,.slice co ah.length aF,.slice ro rs.length aI,.bool sk] 115))).grown W (by simp) (by simp);have a8:C.cell? ⟨w.heap.size,3,RA⟩=Ry (.slice co ah.length aF):=(o.cell (p:=⟨w.heap.size,3,RA⟩) (by simp)).trans (by unfold R2;rw[iJ];rfl))
 have P:RJ (RQ w.heap.size w C):=R.out.trans (o.mono (by omega));have t:C.heap[w.heap.size]? =Ry (.cells #[.slice s n q,b,c,.slice co ah.length aF,.slice ro rs.length aI,.bool sk] 115 (0,0)):=(o.block w.heap.size (by omega)).trans (iJ _ _);have p:RJ (C.heap[w.heap.size+1]? =Ry (.cells (vS (aP n [])).toArray 4 (0,0))):=by
  have e:(madeCells (Ug RE).cells (n*1)).toList=vS (aP n []):=by
   show(madeCells #[.bool RE] (n*1)).toList=_;rw[toList_madeCells_one];refine List.ext_getElem (by simp[vS,jQ]) fun j bm bo=>?_;simp[vS,aP]
  rw[e] at B;have ba:(w.alloc (.cells #[.slice s n q,b,c,.slice co ah.length aF,.slice ro rs.length aI,.bool sk] 115)).heap.size=w.heap.size+1:=by simp
  rw[ba] at B;exact yF B
 have Q:RJ _:=t;clear W o R a8 B t
 go_loopw [16] (fun u wr=>∃ k:Nat,k≤ah.length∧u= .int .i64 (k:Int)∧wr.heap[w.heap.size+1]? =Ry (.cells (vS (aP n (ah.take k))).toArray 4 (0,0))∧wr.heap[w.heap.size]? =Ry (.cells #[.slice s n q,b,c,.slice co ah.length aF,.slice ro rs.length aI,.bool sk] 115 (0,0))∧RQ w.heap.size w wr) (fun u _=>ah.length - (SC u).toNat)
 case atStart=>exact⟨0,Sk _,rfl,p.out,Q.out,P.out⟩
 case round=>
  clear p P Q;obtain⟨k,a5,rfl,l,t,i⟩:=hrel;have y:RJ (RQ w.heap.size w wr):=i;have M:=i.size;by_cases h:k<ah.length
  ·obtain rfl:=E.out (by omega);have a2:=G.out (by omega);have O:wr.cell? ⟨cb,bk+k,RA⟩=Ry (.int .i64 (ah.getD k 0)):=(i.cell (p:=⟨cb,bk+k,RA⟩) a2).trans (F.out k h);have V:ah.getD k 0=ah[k]:=by rw[RX,RS h];rfl
   rw[V] at O;obtain⟨v,N⟩:=H.out ah[k] (RV h);obtain⟨a,x⟩:=Int.eq_ofNat_of_zero_le v;rw[x] at O N;have K:a<n:=by omega
   obtain⟨a0,a1⟩:=C9 l (j:=a) (v:=.bool ((ah.take k).any fun k=>k == (a:Int))) (by simp[vS,aP,K]);have I:RJ ((wr.setCell ⟨w.heap.size+1,a,RA⟩ (.bool RF)).heap[w.heap.size+1]? =Ry (.cells (vS (aP n (ah.take (k+1)))).toArray 4 (0,0))):=by
    show _=_;rw[Gq l,ug,RR h,x]
   have aw:RJ ((wr.setCell ⟨w.heap.size+1,a,RA⟩ (.bool RF)).heap[w.heap.size]? =Ry (.cells #[.slice s n q,b,c,.slice (Ry ⟨cb,bk,RA⟩) ah.length aF,.slice ro rs.length aI,.bool sk] 115 (0,0))):=by
    show _=_;rw[R6 _ _ _ _ (by simp)];exact t
   have D:RJ (RQ w.heap.size w (wr.setCell ⟨w.heap.size+1,a,RA⟩ (.bool RF))):=i.setCell (by show w.heap.size≤w.heap.size+1;omega) _;clear i V v E G F H z A l t x;go_wp2
   go_roundw
   case rel=>exact⟨k+1,by omega,by go_num,I.out,aw.out,D.out⟩
   case measure=>simp[SC];omega
  ·obtain rfl:k=ah.length:=by omega
   rw[SR] at l;have a9:wr.cell? ⟨w.heap.size,4,RA⟩=Ry (.slice ro rs.length aI):=by unfold R2;rw[t];rfl
   have p:RJ _:=l;clear i l t E G F H
   go_wp2_with fail
   clear a9
   go_loopw [27] (fun u ar=>∃ k:Nat,k≤rs.length∧u= .int .i64 (k:Int)∧ar.heap[w.heap.size+1]? =Ry (.cells (vS (aP n (ah ++ (rs.take k).map cj.col))).toArray 4 (0,0))∧RQ w.heap.size w ar) (fun u _=>rs.length - (SC u).toNat)
   case atStart=>exact⟨0,Sk _,rfl,by simpa using p.out,y.out⟩
   case round=>
    clear p y M;obtain⟨k,a5,rfl,l,i⟩:=hrel;have y:RJ (RQ w.heap.size w wr):=i;have M:=i.size;by_cases h:k<rs.length
    ·have m:=A.out.below i;obtain rfl:=m.addr (by omega);have Z:=m.c0 k h;have ab:=m.c1 k h;have ad:=m.c2 k h;have ae:=m.c3 k h;have al:=m.c4 k h;have am:=m.c5 k h;have ao:=m.c6 k h;obtain⟨v,N⟩:=z.out rs[k] (RV h);have J:RJ ((rs.take (k+1)).map cj.col=(rs.take k).map cj.col ++ [rs[k].col]):=by
      show _=_;rw[RR h,SQ,TX]
     generalize rs[k]=bi at*;obtain⟨bs,f,d⟩:=bi;dsimp only at Z ab ad ae al am ao v N J;obtain⟨a,x⟩:=Int.eq_ofNat_of_zero_le v;subst x;have K:a<n:=by omega
     have a3:w.heap.size+1<wr.heap.size:=RP l;have o:RQ wr.heap.size wr (wr.alloc (.cells #[.int .i64 (a:Int),.bool f.null,.int .i64 f.n,.string f.s,.bool d.null,.int .i64 d.n,.string d.s] 61)):=(R5 _ _).alloc (RG _) _;have L:=(o.block (w.heap.size+1) a3).trans l;obtain⟨a0,a1⟩:=C9 L (j:=a) (v:=.bool ((ah ++ (rs.take k).map cj.col).any fun k=>k == (a:Int))) (by simp[vS,aP,K]);have I:RJ (((wr.alloc (.cells #[.int .i64 (a:Int),.bool f.null,.int .i64 f.n,.string f.s,.bool d.null,.int .i64 d.n,.string d.s] 61)).setCell ⟨w.heap.size+1,a,RA⟩ (.bool RF)).heap[w.heap.size+1]? =Ry (.cells (vS (aP n (ah ++ (rs.take (k+1)).map cj.col))).toArray 4 (0,0))):=by
      show _=_;rw[Gq L,ug,J.out,R9]
     have D:RJ (RQ w.heap.size w ((wr.alloc (.cells #[.int .i64 (a:Int),.bool f.null,.int .i64 f.n,.string f.s,.bool d.null,.int .i64 d.n,.string d.s] 61)).setCell ⟨w.heap.size+1,a,RA⟩ (.bool RF))):=(i.trans (o.mono M)).setCell (by show w.heap.size≤w.heap.size+1;omega) _;have O:(wr.alloc (.cells #[.int .i64 (a:Int),.bool f.null,.int .i64 f.n,.string f.s,.bool d.null,.int .i64 d.n,.string d.s] 61)).cell? ⟨wr.heap.size,0,RA⟩=Ry (.int .i64 (a:Int)):=(jL (iJ wr _)).1;clear i m A z l L J v o
     go_upto_region 10 with fail
     clear Z ab ad ae al am ao;generalize wr.alloc (.cells #[.int .i64 (a:Int),.bool f.null,.int .i64 f.n,.string f.s,.bool d.null,.int .i64 d.n,.string d.s] 61)=bj at*;generalize wr.heap.size=bl at*;go_wp2
     go_roundw
     case rel=>exact⟨k+1,by omega,by go_num,I.out,D.out⟩
     case measure=>simp[SC];omega
    ·obtain rfl:k=rs.length:=by omega
     rw[SR] at l;have p:RJ _:=l;clear i l A z;go_wp2;go_ret;exact⟨y.out,w.heap.size+1,rfl,by omega,p.out⟩
structure vI(w:RD)(cb n:Nat)(c:Int)(b:kL):Prop where
 ex:∃ j:Nat,c=(j:Int)∧j<n∧cb<w.heap.size∧w.cell? ⟨cb,j*8+1,RA⟩=Ry (.bool b.there)∧w.cell? ⟨cb,j*8+1+1,RA⟩=Ry (.bool b.least.null)∧w.cell? ⟨cb,j*8+1+2,RA⟩=Ry (.int .i64 b.least.n)∧w.cell? ⟨cb,j*8+1+3,RA⟩=Ry (.string b.least.s)∧w.cell? ⟨cb,j*8+1+4,RA⟩=Ry (.bool b.most.null)∧w.cell? ⟨cb,j*8+1+5,RA⟩=Ry (.int .i64 b.most.n)∧w.cell? ⟨cb,j*8+1+6,RA⟩=Ry (.string b.most.s)
theorem vI.below{w w':RD}{cb n:Nat}{c:Int}{b:kL}(h:vI w cb n c b)(e:RQ w.heap.size w w'):vI w' cb n c b:=by
 obtain⟨r,f,i,j,k,l,m,o,p,q,g⟩:=h.ex;have s:=e.size;have a:∀ d,w'.cell? ⟨cb,d,RA⟩=w.cell? ⟨cb,d,RA⟩:=fun d=>e.cell (p:=⟨cb,d,RA⟩) j;exact⟨r,f,i,by omega,(a _).trans k,(a _).trans l,(a _).trans m,(a _).trans o,(a _).trans p,(a _).trans q,(a _).trans g⟩
def qT (b:kL)(r:cj):Bool:=b.there && (lz b.most r.low || lm b.least r.high)
theorem mG(rs:List cj)(dU:Int→kL)(p:Int)(cb n aF:Nat)(a b c d:RB)(ro:Option Sl)(rb bq aI:Nat)(sk:Bool)(w:RD)(c2:rs.length≤R3)(q:cY w ro rb bq rs)(bi:∀ r∈rs,vI w cb n r.col (dU r.col)):
 Sc (aa.of Rz) 77 #[qv a b c d (.slice ro rs.length aI) sk,.agg #[.int .i64 p,.slice (Ry ⟨cb,0,RA⟩) n aF]] w fun e w'=>∃ bb,e= .returned (.bool bb)∧(bb=RE↔∀ i (h:i<rs.length),qT (dU rs[i].col) rs[i]=RE)∧RQ w.heap.size w w':=by
 unfold qv;unfold R3 at c2;have Z:RJ (cY w ro rb bq rs):=q;have Y:RJ (∀ r∈rs,vI w cb n r.col (dU r.col)):=bi;have a3:RJ (RQ w.heap.size w ((w.alloc (.cells #[a,b,c,d,.slice ro rs.length aI,.bool sk] 115)).alloc (.cells #[.int .i64 p,.slice (Ry ⟨cb,0,RA⟩) n aF] 139))):=((R5 _ _).alloc (RG _) _).alloc (by simp) _;have J:RJ (((w.alloc (.cells #[a,b,c,d,.slice ro rs.length aI,.bool sk] 115)).alloc (.cells #[.int .i64 p,.slice (Ry ⟨cb,0,RA⟩) n aF] 139)).heap[w.heap.size+1]? =Ry (.cells #[.int .i64 p,.slice (Ry ⟨cb,0,RA⟩) n aF] 139 (0,0))):=by
  have:=iJ (w.alloc (.cells #[a,b,c,d,.slice ro rs.length aI,.bool sk] 115)) (.cells #[.int .i64 p,.slice (Ry ⟨cb,0,RA⟩) n aF] 139 (0,0));have c3:(w.alloc (.cells #[a,b,c,d,.slice ro rs.length aI,.bool sk] 115)).heap.size=w.heap.size+1:=by simp
  rw[c3] at this;exact this
 clear q bi;go_enter aa.func77,Tryz.ntmps77
 go_wp2_with fail
 go_loopw [11] (fun i wr=>∃ g:Nat,g≤rs.length∧i= .int .i64 g∧(∀ i (h:i<rs.length),i<g→qT (dU rs[i].col) rs[i]=RE)∧wr.heap[w.heap.size+1]? =Ry (.cells #[.int .i64 p,.slice (Ry ⟨cb,0,RA⟩) n aF] 139 (0,0))∧RQ w.heap.size w wr) (fun i _=>rs.length - (SC i).toNat)
 case atStart=>exact⟨0,Sk _,rfl,fun df _ h=>by omega,J.out,a3.out⟩
 case round=>
  clear J a3;obtain⟨g,c7,rfl,be,S,M⟩:=hrel;have Q:RJ (∀ i (h:i<rs.length),i<g→qT (dU rs[i].col) rs[i]=RE):=be;have U:RJ (RQ w.heap.size w wr):=M;have J:RJ (wr.heap[w.heap.size+1]? =Ry (.cells #[.int .i64 p,.slice (Ry ⟨cb,0,RA⟩) n aF] 139 (0,0))):=S;have bj:=M.size;have cx:w.heap.size+1<wr.heap.size:=RP S;clear be;by_cases u:g<rs.length
  ·have q:=Z.out.below M;obtain rfl:=q.addr (by omega);have bl:=q.c0 g u;have bm:=q.c1 g u;have bo:=q.c2 g u;have br:=q.c3 g u;have bs:=q.c4 g u;have bt:=q.c5 g u;have bu:=q.c6 g u;obtain⟨z,a4,ck,a6,a7,a8,a9,ba,bc,bd,a5⟩:=((Y.out rs[g] (RV u)).below M).ex;have K:RJ (qT (dU rs[g].col) rs[g]=RF→¬ ∀ i (h:i<rs.length),qT (dU rs[i].col) rs[i]=RE):=fun h cR=>by
    have:=cR g u;rw[h] at this;cases this
   have L:RJ (qT (dU rs[g].col) rs[g]=RE→∀ i (h:i<rs.length),i<g+1→qT (dU rs[i].col) rs[i]=RE):=fun h i c1 c6=>by
    by_cases e:i=g
    ·subst e;exact h
    ·exact Q.out i c1 (by omega)
   clear q M Q Z Y S;generalize rs[g]=cf at*;generalize dU cf.col=v at*;obtain⟨dk,k,j⟩:=cf;dsimp only at a4 bl bm bo br bs bt bu;subst a4
   go_upto_region 4 with fail
   obtain⟨c4,bv,bx,bA,bB,b0,b1⟩:=jL (iJ wr (.cells #[.int .i64 (z:Int),.bool k.null,.int .i64 k.n,.string k.s,.bool j.null,.int .i64 j.n,.string j.s] 61));have m:RQ wr.heap.size wr (wr.alloc (.cells #[.int .i64 (z:Int),.bool k.null,.int .i64 k.n,.string k.s,.bool j.null,.int .i64 j.n,.string j.s] 61)):=(R5 _ _).alloc (RG _) _;have A:∀ T v,wr.cell? ⟨cb,T,RA⟩=Ry v→(wr.alloc (.cells #[.int .i64 (z:Int),.bool k.null,.int .i64 k.n,.string k.s,.bool j.null,.int .i64 j.n,.string j.s] 61)).cell? ⟨cb,T,RA⟩=Ry v:=fun T v h=>(m.cell (p:=⟨cb,T,RA⟩) a6).trans h;have cn:=A _ _ a7;have co:=A _ _ a8;have cp:=A _ _ a9;have cs:=A _ _ ba;have cu:=A _ _ bc;have cv:=A _ _ bd;have cl:=A _ _ a5;have al:=(m.block _ cx).trans J.out;have ci:(wr.alloc (.cells #[.int .i64 (z:Int),.bool k.null,.int .i64 k.n,.string k.s,.bool j.null,.int .i64 j.n,.string j.s] 61)).cell? ⟨w.heap.size+1,1,RA⟩=Ry (.slice (Ry ⟨cb,0,RA⟩) n aF):=by unfold R2;rw[al];rfl
   have V:RJ _:=al;have X:RJ (RQ w.heap.size w (wr.alloc (.cells #[.int .i64 (z:Int),.bool k.null,.int .i64 k.n,.string k.s,.bool j.null,.int .i64 j.n,.string j.s] 61))):=U.out.trans (m.mono bj);have G:wr.heap.size<(wr.alloc (.cells #[.int .i64 (z:Int),.bool k.null,.int .i64 k.n,.string k.s,.bool j.null,.int .i64 j.n,.string j.s] 61)).heap.size:=by simp
   clear m bl bm bo br bs bt bu a7 a8 a9 ba bc bd a5 a6 A al J U bj;generalize wr.alloc (.cells #[.int .i64 (z:Int),.bool k.null,.int .i64 k.n,.string k.s,.bool j.null,.int .i64 j.n,.string j.s] 61)=s at*;generalize wr.heap.size=l at*;have c0:(z:Int)<(n:Int):=by omega
   go_upto_region 5 with fail
   obtain⟨b2,am,ao,ar,c8,c9,da⟩:=jL (iJ s (.cells #[.bool v.there,.bool v.least.null,.int .i64 v.least.n,.string v.least.s,.bool v.most.null,.int .i64 v.most.n,.string v.most.s] 141));have m:RQ s.heap.size s (s.alloc (.cells #[.bool v.there,.bool v.least.null,.int .i64 v.least.n,.string v.least.s,.bool v.most.null,.int .i64 v.most.n,.string v.most.s] 141)):=(R5 _ _).alloc (RG _) _;have db:=(m.cell (p:=⟨l,1,RA⟩) G).trans bv;have dc:=(m.cell (p:=⟨l,2,RA⟩) G).trans bx;have dd:=(m.cell (p:=⟨l,3,RA⟩) G).trans bA;have aw:=(m.cell (p:=⟨l,4,RA⟩) G).trans bB;have a0:=(m.cell (p:=⟨l,5,RA⟩) G).trans b0;have a1:=(m.cell (p:=⟨l,6,RA⟩) G).trans b1;have D:RJ (RQ w.heap.size w (s.alloc (.cells #[.bool v.there,.bool v.least.null,.int .i64 v.least.n,.string v.least.s,.bool v.most.null,.int .i64 v.most.n,.string v.most.s] 141))):=X.out.trans (m.mono (by have:=X.out.size;omega));have C:RJ ((s.alloc (.cells #[.bool v.there,.bool v.least.null,.int .i64 v.least.n,.string v.least.s,.bool v.most.null,.int .i64 v.most.n,.string v.most.s] 141)).heap[w.heap.size+1]? =Ry (.cells #[.int .i64 p,.slice (Ry ⟨cb,0,RA⟩) n aF] 139 (0,0))):=(m.block _ (RP V.out)).trans V.out;have x:l<(s.alloc (.cells #[.bool v.there,.bool v.least.null,.int .i64 v.least.n,.string v.least.s,.bool v.most.null,.int .i64 v.most.n,.string v.most.s] 141)).heap.size:=by simp;omega
   have y:s.heap.size<(s.alloc (.cells #[.bool v.there,.bool v.least.null,.int .i64 v.least.n,.string v.least.s,.bool v.most.null,.int .i64 v.most.n,.string v.most.s] 141)).heap.size:=by simp
   clear m c4 bv bx bA bB b0 b1 cn co cp cs cu cv cl X V G c0 ck ci;generalize s.alloc (.cells #[.bool v.there,.bool v.least.null,.int .i64 v.least.n,.string v.least.s,.bool v.most.null,.int .i64 v.most.n,.string v.most.s] 141)=c5 at*;generalize s.heap.size=t at*;have B:=fun ae=>uf v.most k ae;have H:=fun ae=>ue v.least j ae;unfold aD.agg at B H;have o:qT v ⟨(z:Int),k,j⟩=(v.there && (lz v.most k || lm v.least j)):=rfl;cases N:v.there
   ·rw[N] at b2 o;have ad:RJ (∀ i (h:i<rs.length),i<g+1→qT (dU rs[i].col) rs[i]=RE):=L.out o;clear K L o N B H;go_wp2
    go_roundw
    case rel=>exact⟨g+1,by omega,by go_num,ad.out,C.out,D.out⟩
    case measure=>simp[SC];omega
   ·rw[N] at b2 o;cases O:lz v.most k
    ·rw[O] at B o;cases R:lm v.least j
     ·rw[R] at H o;have ad:RJ (∀ i (h:i<rs.length),i<g+1→qT (dU rs[i].col) rs[i]=RE):=L.out o;clear K L o O R N
      go_wp2_with (first|(go_at_call 114;refine(B _).mono ?_;rintro e w' ⟨rfl,f⟩;have E:RJ (RQ w.heap.size w w'):=D.out.trans (f.mono (by have:=D.out.size;omega));have b3:=(f.cell (p:=⟨t,1,RA⟩) y).trans am;have b4:=(f.cell (p:=⟨t,2,RA⟩) y).trans ao;have ca:=(f.cell (p:=⟨t,3,RA⟩) y).trans ar;have cc:=(f.cell (p:=⟨l,4,RA⟩) x).trans aw;have cd:=(f.cell (p:=⟨l,5,RA⟩) x).trans a0;have ce:=(f.cell (p:=⟨l,6,RA⟩) x).trans a1;have I:RJ (w'.heap[w.heap.size+1]? =Ry (.cells #[.int .i64 p,.slice (Ry ⟨cb,0,RA⟩) n aF] 139 (0,0))):=(f.block _ (RP C.out)).trans C.out;clear f)|(go_at_call 115;refine(H _).mono ?_;rintro e P ⟨rfl,F⟩;have W:RJ (RQ w.heap.size w P):=E.out.trans (F.mono (by have:=E.out.size;omega));have a2:RJ (P.heap[w.heap.size+1]? =Ry (.cells #[.int .i64 p,.slice (Ry ⟨cb,0,RA⟩) n aF] 139 (0,0))):=(F.block _ (RP I.out)).trans I.out;clear F))
      go_roundw
      case rel=>exact⟨g+1,by omega,by go_num,ad.out,a2.out,W.out⟩
      case measure=>simp[SC];omega
     ·rw[R] at H o;have ab:RJ (¬ ∀ i (h:i<rs.length),qT (dU rs[i].col) rs[i]=RE):=K.out o;clear K L o O R N
      go_wp2_with (first|(go_at_call 114;refine(B _).mono ?_;rintro e w' ⟨rfl,f⟩;have E:RJ (RQ w.heap.size w w'):=D.out.trans (f.mono (by have:=D.out.size;omega));have b3:=(f.cell (p:=⟨t,1,RA⟩) y).trans am;have b4:=(f.cell (p:=⟨t,2,RA⟩) y).trans ao;have ca:=(f.cell (p:=⟨t,3,RA⟩) y).trans ar;have cc:=(f.cell (p:=⟨l,4,RA⟩) x).trans aw;have cd:=(f.cell (p:=⟨l,5,RA⟩) x).trans a0;have ce:=(f.cell (p:=⟨l,6,RA⟩) x).trans a1;have I:RJ (w'.heap[w.heap.size+1]? =Ry (.cells #[.int .i64 p,.slice (Ry ⟨cb,0,RA⟩) n aF] 139 (0,0))):=(f.block _ (RP C.out)).trans C.out;clear f)|(go_at_call 115;refine(H _).mono ?_;rintro e P ⟨rfl,F⟩;have W:RJ (RQ w.heap.size w P):=E.out.trans (F.mono (by have:=E.out.size;omega));have a2:RJ (P.heap[w.heap.size+1]? =Ry (.cells #[.int .i64 p,.slice (Ry ⟨cb,0,RA⟩) n aF] 139 (0,0))):=(F.block _ (RP I.out)).trans I.out;clear F))
      go_ret;exact⟨RF,rfl,by simp only[Bool.true_eq_false,false_iff];exact ab.out,W.out⟩
    ·rw[O] at B o;have ab:RJ (¬ ∀ i (h:i<rs.length),qT (dU rs[i].col) rs[i]=RE):=K.out o;clear K L o O N
     go_wp2_with (go_at_call 114;refine(B _).mono ?_;rintro e w' ⟨rfl,f⟩;have E:RJ (RQ w.heap.size w w'):=D.out.trans (f.mono (by have:=D.out.size;omega));have b3:=(f.cell (p:=⟨t,1,RA⟩) y).trans am;have b4:=(f.cell (p:=⟨t,2,RA⟩) y).trans ao;have ca:=(f.cell (p:=⟨t,3,RA⟩) y).trans ar;have cc:=(f.cell (p:=⟨l,4,RA⟩) x).trans aw;have cd:=(f.cell (p:=⟨l,5,RA⟩) x).trans a0;have ce:=(f.cell (p:=⟨l,6,RA⟩) x).trans a1;have I:RJ (w'.heap[w.heap.size+1]? =Ry (.cells #[.int .i64 p,.slice (Ry ⟨cb,0,RA⟩) n aF] 139 (0,0))):=(f.block _ (RP C.out)).trans C.out;clear f)
     go_ret;exact⟨RF,rfl,by simp only[Bool.true_eq_false,false_iff];exact ab.out,E.out⟩
  ·have ch:RJ (∀ i (h:i<rs.length),qT (dU rs[i].col) rs[i]=RE):=fun i h=>Q.out i h (by omega);clear Q M Z Y S J;go_wp2;go_ret;exact⟨RE,rfl,by simp only[true_iff];exact ch.out,U.out⟩
end Ec
namespace Cc
open Go Go.Conc
open Go.RowKit (Below)
open Ec (aD aE cj cY p9 ud qv)
def l9 (c w:RD)(b:Nat):Prop:=∀ a,w.heap[b]? =Ry a→aV (aa.of Rz) a→c.heap[b]? =Ry a
abbrev cI:=Nat×List aD
structure Cons(P0 P:RM)(Post:RB→RD→Prop)(l:Nat)(J:List cI→(Nat→Prop)→RD→Prop)(Go:List cI→Bool):Prop where
 jn:∀ pre M W W',J pre M W→(∀ b,M b→W'.heap[b]? =W.heap[b]?)→W.heap.size≤W'.heap.size→J pre M W'
 bound:∀ pre M W,J pre M W→∀ b,M b→b<W.heap.size
 round:∀ pre M W (nm:Nat) (row:List aD) v,J pre M W→pre.length<2000→nm≤1000000→row.length≤1000→W.ownsRow 0 59 3 v row.length (aE row)→(∀ g,v.ownBlock=Ry g→¬ M g)→D4 P0 P Post l #[.int .i64 (nm:Int),v] W fun u W'=>u= .bool (Go (pre ++ [(nm,row)]))∧∃ M',J (pre ++ [(nm,row)]) M' W'∧(∀ b,b<W.heap.size→¬ M b→Ry b≠v.ownBlock→W'.heap[b]? =W.heap[b]?)∧∀ b,M' b→M b∨Ry b=v.ownBlock∨W.heap.size≤b
def feed (Go:List cI→Bool):List cI→List cI→List cI×Bool
 |pre,[]=>(pre,RF)
 |pre,a :: b=>if Go (pre ++ [a]) then feed Go (pre ++ [a]) b else(pre ++ [a],RE)
def ed (nt:Nat→Bool)(a:Nat→List aD)(first:Nat):Nat→Nat→List cI
 |p,0=>[]
 |p,b+1=>if nt p then(first+p,a p) :: ed nt a first (p+1) b else ed nt a first (p+1) b
structure QB(W:RD)(ah:List Int)(rs:List cj)(co:Option Sl)(cb bk:Nat)(ro:Option Sl)(rb bq:Nat)(lb m N:Nat)(val:Int→Nat→aD):Prop where
 ca:0<ah.length→co=Ry ⟨cb,bk,RA⟩
 cl:0<ah.length→cb<W.heap.size
 cc:∀ j,j<ah.length→W.cell? ⟨cb,bk+j,RA⟩=Ry (.int .i64 (ah.getD j 0))
 nr:cY W ro rb bq rs
 lc:∀ p,p<N→∀ k,(k∈ah∨∃ r∈rs,r.col=k)→p9 W lb m k p (val k p)
structure Kept(w0 w:RD)(M0 M own:Nat→Prop):Prop where
 keep:∀ b,b<w0.heap.size→¬ M0 b→own b∧w.heap[b]? =w0.heap[b]?
 ext:∀ b,M b→M0 b∨w0.heap.size≤b
 qf:∀ b,M b→own b
 size:w0.heap.size≤w.heap.size
 tape:w.tape=w0.tape
 os:w.os=w0.os
 output:w.output=w0.output
theorem Kept.rel{w0 w w':RD}{M0 e own own':Nat→Prop}(h:Kept w0 w M0 e own)(c:RelB own w w')(f:∀ b,own b→own' b):Kept w0 w' M0 e own':=
 ⟨fun b a d=>⟨f b (h.keep b a d).1,(c.at_ b (h.keep b a d).1).trans (h.keep b a d).2⟩,h.ext,fun b a=>f b (h.qf b a),R4 h.size c.size,c.tape.trans h.tape,c.os.trans h.os,c.output.trans h.output⟩
def gF (fn:Uj):UR:=match fn.body with
 |some (.seq _ (.seq (.seq _ (.block _ (.loop a))) _))=>a
 |_=>.skip
def px (fn:Uj):UR:=match fn.body with
 |some (.seq _ (.seq _ a))=>a
 |_=>.skip
structure D3(J:List cI→(Nat→Prop)→RD→Prop)(w0 w:RD)(M0 M own:Nat→Prop)(q:Array RB)(lists:RB)(l first N p qb:Nat)(pre:List cI)(a:TZ):Prop where
 kn:Knows a 33 [(13,.int .i64 (p:Int)),(12,.int .i64 (N:Int)),(5,.pointer (Ry ⟨qb,0,RA⟩)),(4,.func (.yield l) #[] #[]),(2,.int .i64 (first:Int)),(1,lists)]
 df:a.defers=[]
 j:J pre M w
 kept:Kept w0 w M0 M own
 bd:∀ b,own b→b<w.heap.size
 oq:own qb
 nq:¬ M qb
 lq:w0.heap.size≤qb
 hq:w.heap[qb]? =Ry (.cells q 115 (0,0))
theorem PM:(Tryz.f118.name == "runtime.NumGoroutine")=RE:=by kernel_rfl
theorem Qy:(Tryz.f119.name == "runtime.NumGoroutine")=RE:=by kernel_rfl
theorem tf:(Rz.info? 115).map (·.size)=Ry 6:=by kernel_rfl
def vq (fn:Uj):Array Te:=match gF fn with
 | .seq _ (.seq _ (.seq (.block _ (.seq _ (.seq (.region _ a _) _))) _))=>a
 |_=> #[]
def lK (fn:Uj):List Uk:=match gF fn with
 | .seq _ (.seq _ (.seq (.block _ (.seq _ (.seq _ a))) b))=>[.code a,.inBlock 1,.code b,.inLoop (gF fn),.inBlock 0,.code (px fn)]
 |_=>[]
theorem MY:(lK T4).all (wM (aa.of Rz))=RF:=by kernel_rfl
theorem KC:wM (aa.of Rz) (.inRegion (vq T4) [])=RF:=by kernel_rfl
theorem AR{a:TZ}{l:List Nat}(b:a.defers=[]):ei (aa.of Rz) ((base 79).at a (.inRegion (vq T4) l :: lK T4)) []:=
 ep rfl b (by rw[List.all_cons,MY,Bool.and_true];exact KC)
end Cc
namespace Cc
open Go Go.Conc
open Go.RowKit (Below)
open Ec (aD aE cj cY p9 ud qv wR zZ)
section
variable {Post:RB→RD→Prop}{J:List cI→(Nat→Prop)→RD→Prop}{Go:List cI→Bool}{w0 w:RD}{M0 M own:Nat→Prop}{l first N p qb:Nat}{pre:List cI}{a:TZ}{cs:List RU}{ah:List Int}{rs:List cj}{co:Option Sl}{cb bk aF:Nat}{ro:Option Sl}{rb bq aI lb m mc:Nat}{val:Int→Nat→aD}{a0 b0 c0:RB}{sk:Bool}{c:RU}
theorem Kept.same{d:RD}(h:Kept w0 w M0 M own)(i:∀ b o,own b→w.heap[b]? =Ry o→aV (aa.of Rz) o→d.heap[b]? =Ry o)(k:w.heap.size≤d.heap.size):(∀ b,b<w0.heap.size→¬ M0 b→l9 d w0 b)∧w0.heap.size≤d.heap.size:=
 ⟨fun b e f o j g=>i b o (h.keep b e f).1 ((h.keep b e f).2.trans j) g,R4 h.size k⟩
theorem A1{W' w':RD}{base:Nat}{e:RO}{d:Nat}{v:RB}{n:Nat}{f:List RB}(r:Un W' w')(h:W'.ownsRow base e d v n f):w'.ownsRow base e d v n f:=by
 obtain⟨b,h|⟨j,g,i,rfl,k,o,q⟩⟩:=h
 ·exact⟨b,.inl h⟩
 ·exact⟨b,.inr ⟨j,g,i,rfl,k,r.row.1 o,q⟩⟩
theorem jb{b W':RD}{base:Nat}{e:RO}{k:Nat}{v:RB}{n:Nat}{o:List RB}(h:b.ownsRow base e k v n o){d:Nat}(u:d≤base)(t:∀ g,v.ownBlock=Ry g→base≤g→g<b.heap.size→W'.heap[g]? =b.heap[g]?):W'.ownsRow d e k v n o:=by
 obtain⟨j,h|⟨g,q,r,rfl,f,i,s⟩⟩:=h
 ·exact⟨j,.inl h⟩
 ·exact⟨j,.inr ⟨g,q,r,rfl,R4 u f,(t g rfl f (RH.1 i).1).trans i,s⟩⟩
theorem rL{b:RD}{base:Nat}{e:RO}{j:Nat}{v:RB}{n:Nat}{k:List RB}(h:b.ownsRow base e j v n k){g:Nat}(d:v.ownBlock=Ry g):base≤g∧g<b.heap.size:=by
 obtain⟨t,⟨rfl,_⟩|⟨r,o,q,rfl,f,i,s⟩⟩:=h
 ·cases d
 ·cases d;exact⟨f,(RH.1 i).1⟩
theorem vM{a:TZ}{x y:SG}{u v:RB}(h1:a.eval x=u)(b:a.eval y=v): #[x,y].map a.eval=#[u,v]:=by simp[h1,b]
theorem Ay{a:TZ}{x y z:SG}{u v t:RB}(h1:a.eval x=u)(b:a.eval y=v)(d:a.eval z=t): #[x,y,z].map a.eval=#[u,v,t]:=by simp[h1,b,d]
theorem Cx(C:Cons (aa.of Rz) Rz Post l J Go)(hF:∀ f,(∀ b,b<w0.heap.size→¬ M0 b→l9 f w0 b)→w0.heap.size≤f.heap.size→QB f ah rs co cb bk ro rb bq lb m N val)(a1:p<N)(bc:pre.length<2000)(bB:first+N≤1000000)(hc:ah.length≤1000)(bo:rs.length≤R3)
 (d:Knows a 33 [(11,.int .i64 (p:Int)),(13,.int .i64 (p:Int)),(12,.int .i64 (N:Int)),(5,.pointer (Ry ⟨qb,0,RA⟩)),(4,.func (.yield l) #[] #[]),(2,.int .i64 (first:Int)),(1,.slice (Ry ⟨lb,0,RA⟩) m mc)]) (H:a.defers=[]) (S:J pre M w) (Q:Kept w0 w M0 M own) (a9:∀ b,own b→b<w.heap.size) (T:own qb) (aw:¬ M qb) (b3:w0.heap.size≤qb) (a2:w.heap[qb]? =Ry (.cells #[a0,b0,c0,.slice co ah.length aF,.slice ro rs.length aI,.bool sk] 115 (0,0)))
 (bi:∀ own' w' a',(¬ ∀ i (h:i<rs.length),ud (val rs[i].col p) rs[i]=RF)→Knows a' 33 [(31,.bool RE),(13,.int .i64 (p:Int)),(12,.int .i64 (N:Int)),(5,.pointer (Ry ⟨qb,0,RA⟩)),(4,.func (.yield l) #[] #[]),(2,.int .i64 (first:Int)),(1,.slice (Ry ⟨lb,0,RA⟩) m mc)]→a'.defers=[]→J pre M w'→Kept w0 w' M0 M own'→(∀ b,own' b→b<w'.heap.size)→own' qb→w'.heap[qb]? =Ry (.cells #[a0,b0,c0,.slice co ah.length aF,.slice ro rs.length aI,.bool sk] 115 (0,0))→Xe (aa.of Rz) Rz Post own' ((base 79).at a' (lK T4)) cs w')
 (bu:∀ own' o w' a',(∀ i (h:i<rs.length),ud (val rs[i].col p) rs[i]=RF)→Knows a' 33 [(31,.bool (!Go (pre ++ [(first+p,ah.map fun k=>val k p)]))),(13,.int .i64 (p:Int)),(12,.int .i64 (N:Int)),(5,.pointer (Ry ⟨qb,0,RA⟩)),(4,.func (.yield l) #[] #[]),(2,.int .i64 (first:Int)),(1,.slice (Ry ⟨lb,0,RA⟩) m mc)]→a'.defers=[]→J (pre ++ [(first+p,ah.map fun k=>val k p)]) o w'→Kept w0 w' M0 o own'→(∀ b,own' b→b<w'.heap.size)→own' qb→¬ o qb→w'.heap[qb]? =Ry (.cells #[a0,b0,c0,.slice co ah.length aF,.slice ro rs.length aI,.bool sk] 115 (0,0))→Xe (aa.of Rz) Rz Post own' ((base 79).at a' (lK T4)) cs w'):
 Xe (aa.of Rz) Rz Post own ((base 79).at a (.code (.region 4 (vq T4) RE) :: lK T4)) cs w:=by
 have e:=fZ (aa.of Rz) Rz Post;have a3:∀ f:RD,f.heap[qb]? =Ry (.cells #[a0,b0,c0,.slice co ah.length aF,.slice ro rs.length aI,.bool sk] 115 (0,0))→f.rangeAt qb 0 [a0,b0,c0,.slice co ah.length aF,.slice ro rs.length aI,.bool sk]:=fun f G ca v S=>by
  unfold R2;simp only[G];rw[SA];simpa using S
 refine aX e [0,1,2,3,4,5,6,7,8,9,10,11,12,13,14,15] rfl ?_;refine ej e (by decide) rfl rfl _ (eF (cs:=[a0,b0,c0,.slice co ah.length aF,.slice ro rs.length aI,.bool sk]) rfl (d.of rfl) T9 rfl tf (.inr T) (a3 w a2)) ?_;replace d:=d.put (d:=16) (by decide) (qv a0 b0 c0 (.slice co ah.length aF) (.slice ro rs.length aI) sk);refine ak e (by decide) rfl rfl _ (ay rfl (d.of rfl)) ?_;replace d:=d.put (d:=17) (by decide) (.slice (Ry ⟨lb,0,RA⟩) m mc);refine ak e (by decide) rfl rfl _ (ay rfl (d.of rfl)) ?_;replace d:=d.put (d:=18) (by decide) (.int .i64 (p:Int));refine BL (R:=fun f n q=>∃ r,n= .returned (.bool r)∧(r=RF↔∀ i (h:i<rs.length),ud (val rs[i].col p) rs[i]=RF)) dY rfl rfl rfl rfl (Ay (d.of rfl) (d.of rfl) (d.of rfl)) Tryz.func118 PM rfl (jJ rfl rfl rfl).symm (AR (by simp only[put_defers];exact H)) (fun f G W=>?_) fun v t f q G W bx Y b1 hrel=>?_
 ·have x:=hF f (Q.same G W).1 (Q.same G W).2;refine(wR rs (fun k=>val k p) p lb m mc a0 b0 c0 (.slice co ah.length aF) ro rb bq aI sk f bo x.nr (fun a4 br=>x.lc p a1 a4.col (.inr ⟨a4,br,rfl⟩))).mono fun n q h=>?_;obtain⟨r,rfl,F,A⟩:=h;exact⟨A,_,rfl,r,rfl,F⟩
 ·obtain⟨r,a8,am⟩:=Y;cases a8;have y:=Q.rel (own':=grown own f.heap.size t.heap.size) hrel (fun b h=>.inl h);have ao:=C.jn _ _ _ t S (fun b g=>hrel.at_ b (Q.qf b g)) hrel.size;have V:=(hrel.at_ qb T).trans a2;have P:∀ b,grown own f.heap.size t.heap.size b→b<t.heap.size:=fun b g=>g.elim (fun h=>RK (a9 b h) hrel.size) (fun h=>h.2);have I:grown own f.heap.size t.heap.size qb:=.inl T;replace d:=d.put (d:=19) (by decide) (.bool r);generalize grown own f.heap.size t.heap.size=Z at*;refine ak e (by decide) rfl rfl _ (ay rfl (d.of rfl)) ?_;replace d:=d.put (d:=20) (by decide) (.bool r);cases r with
  |false=>
   refine cT e rfl (d.want (d:=20) (want:=RF) (b:=RE) rfl rfl rfl (by decide)) ?_;replace d:=d.put (d:=21) (by decide) SP;refine cT e rfl (d.want (d:=20) (want:=RF) (b:=RE) rfl rfl rfl (by decide)) ?_;replace d:=d.put (d:=22) (by decide) SP;refine cT e rfl (d.want (d:=20) (want:=RF) (b:=RE) rfl rfl rfl (by decide)) ?_;replace d:=d.put (d:=23) (by decide) SP;refine cT e rfl (d.want (d:=20) (want:=RF) (b:=RE) rfl rfl rfl (by decide)) ?_;replace d:=d.put (d:=24) (by decide) SP;refine cT e rfl (d.want (d:=20) (want:=RF) (b:=RE) rfl rfl rfl (by decide)) ?_;replace d:=d.put (d:=25) (by decide) SP;refine cT e rfl (d.want (d:=20) (want:=RF) (b:=RE) rfl rfl rfl (by decide)) ?_;replace d:=d.put (d:=26) (by decide) SP;refine cT e rfl (d.want (d:=20) (want:=RF) (b:=RE) rfl rfl rfl (by decide)) ?_;replace d:=d.put (d:=27) (by decide) SP;refine cT e rfl (d.want (d:=20) (want:=RF) (b:=RE) rfl rfl rfl (by decide)) ?_;replace d:=d.put (d:=28) (by decide) SP;refine cT e rfl (d.want (d:=20) (want:=RF) (b:=RE) rfl rfl rfl (by decide)) ?_;replace d:=d.put (d:=29) (by decide) SP;refine cT e rfl (d.want (d:=20) (want:=RF) (b:=RE) rfl rfl rfl (by decide)) ?_;replace d:=d.put (d:=30) (by decide) SP;refine ak e (by decide) rfl rfl (.bool RE) (wZ rfl (d.of rfl) rfl) ?_;replace d:=d.put (d:=31) (by decide) (.bool RE);refine aj e ?_;refine bi Z t _ (fun h=>by have:=am.2 h;cases this) ((((((d.nil.cons (d.slot 1 _ rfl)).cons (d.slot 2 _ rfl)).cons (d.slot 4 _ rfl)).cons (d.slot 5 _ rfl)).cons (d.slot 12 _ rfl)).cons (d.slot 13 _ rfl) |>.cons (d.slot 31 _ rfl)) (by simp only[put_defers];exact H) ao y P I V
  |true=>
   have bd:=am.1 rfl;refine ak e (by decide) rfl (d.want (d:=20) (want:=RF) (b:=RF) rfl rfl rfl (by decide)) _ (ay rfl (d.of rfl)) ?_;replace d:=d.put (d:=21) (by decide) (.func (.yield l) #[] #[]);refine ak e (by decide) rfl (d.want (d:=20) (want:=RF) (b:=RF) rfl rfl rfl (by decide)) _ (ay rfl (d.of rfl)) ?_;replace d:=d.put (d:=22) (by decide) (.int .i64 (first:Int));refine ak e (by decide) rfl (d.want (d:=20) (want:=RF) (b:=RF) rfl rfl rfl (by decide)) _ (ay rfl (d.of rfl)) ?_;replace d:=d.put (d:=23) (by decide) (.int .i64 (p:Int));refine ak e (by decide) rfl (d.want (d:=20) (want:=RF) (b:=RF) rfl rfl rfl (by decide)) _ (mJ rfl (d.of rfl) (d.of rfl) (by omega)) ?_;replace d:=d.put (d:=24) (by decide) (.int .i64 ((first+p:Nat):Int));refine ej e (by decide) rfl (d.want (d:=20) (want:=RF) (b:=RF) rfl rfl rfl (by decide)) _ (eF (cs:=[a0,b0,c0,.slice co ah.length aF,.slice ro rs.length aI,.bool sk]) rfl (d.of rfl) T9 rfl tf (.inr I) (a3 t V)) ?_;replace d:=d.put (d:=25) (by decide) (qv a0 b0 c0 (.slice co ah.length aF) (.slice ro rs.length aI) sk);refine ak e (by decide) rfl (d.want (d:=20) (want:=RF) (b:=RF) rfl rfl rfl (by decide)) _ (ay rfl (d.of rfl)) ?_;replace d:=d.put (d:=26) (by decide) (.slice (Ry ⟨lb,0,RA⟩) m mc);refine ak e (by decide) rfl (d.want (d:=20) (want:=RF) (b:=RF) rfl rfl rfl (by decide)) _ (ay rfl (d.of rfl)) ?_;replace d:=d.put (d:=27) (by decide) (.int .i64 (p:Int));refine BL (R:=fun f n q=>∃ v,n= .returned v∧q.ownsRow f.heap.size 59 3 v ah.length (aE (ah.map fun k=>val k p))) dY rfl rfl (d.want (d:=20) (want:=RF) (b:=RF) rfl rfl rfl (by decide)) rfl (Ay (d.of rfl) (d.of rfl) (d.of rfl)) Tryz.func119 Qy rfl (jJ rfl rfl rfl).symm (AR (by simp only[put_defers];exact H)) (fun u R X=>?_) fun v K u bv R X bA Y a7 D=>?_
   ·have x:=hF u (y.same R X).1 (y.same R X).2;refine(zZ ah (fun k=>val k p) p lb m mc a0 b0 c0 (.slice ro rs.length aI) co cb bk aF sk u hc x.ca x.cl x.cc (fun k bb=>x.lc p a1 k (.inl bb))).mono fun n q h=>?_;obtain⟨F,v,rfl,A⟩:=h;exact⟨F,v,rfl,v,rfl,A⟩
   ·obtain⟨cf,bt,bj⟩:=Y;cases bt;have s:=y.rel (own':=grown Z u.heap.size K.heap.size) D (fun b h=>.inl h);have ba:=C.jn _ _ _ K ao (fun b g=>D.at_ b (y.qf b g)) D.size;have bm:=(D.at_ qb I).trans V;have b2:∀ b,grown Z u.heap.size K.heap.size b→b<K.heap.size:=fun b g=>g.elim (fun h=>RK (P b h) D.size) (fun h=>h.2);have U:K.ownsRow u.heap.size 59 3 v ah.length (aE (ah.map fun k=>val k p)):=A1 a7 bj;have b4:=P qb I;replace d:=d.put (d:=28) (by decide) v;refine N3 (l:=l) (vs:= #[.int .i64 ((first+p:Nat):Int),v]) (R:=fun ab a5 q=>a5= .bool (Go (pre ++ [(first+p,ah.map fun k=>val k p)]))∧∃ o,J (pre ++ [(first+p,ah.map fun k=>val k p)]) o q∧(∀ b,b<ab.heap.size→¬ M b→Ry b≠v.ownBlock→q.heap[b]? =ab.heap[b]?)∧∀ b,o b→M b∨Ry b=v.ownBlock∨ab.heap.size≤b) dY rfl (d.want (d:=20) (want:=RF) (b:=RF) rfl rfl rfl (by decide)) rfl (d.of rfl) (vM (d.of rfl) (d.of rfl)) (AR (by simp only[put_defers];exact H)) (fun ad j=>?_) fun ad a5 L j bs E bl=>?_
    ·refine C.round pre M ad (first+p) (ah.map fun k=>val k p) v (C.jn _ _ _ ad ba (fun b g=>j.at_ b (s.qf b g)) j.size) bc (by omega) (by rw[Sy];exact hc) ?_ fun O B z=>?_
     ·rw[Sy];exact jb U (Sk _) fun O F A a6=>j.at_ O (.inr ⟨A,a6⟩)
     ·have F:=(rL U B).1;have A:=P O (y.qf O z);omega
    ·obtain⟨rfl,o,ae,ar,al⟩:=bs;have B:∀ b,Ry b=v.ownBlock→u.heap.size≤b:=fun b g=>(rL U g.symm).1;have cc:=y.size;have cd:=j.size;have ce:=D.size;refine Xe.go (own:=fun b=>b<L.heap.size) ?_ (fun b h=>h) bl;replace d:=d.put (d:=29) (by decide) (.bool (Go (pre ++ [(first+p,ah.map fun k=>val k p)])));refine ak e (by decide) rfl (d.want (d:=20) (want:=RF) (b:=RF) rfl rfl rfl (by decide)) _ (wY rfl (d.of rfl)) ?_;replace d:=d.put (d:=30) (by decide) (.bool (!Go (pre ++ [(first+p,ah.map fun k=>val k p)])));refine ak e (by decide) rfl rfl _ (xa rfl (d.of rfl) (d.of rfl)) ?_;replace d:=d.put (d:=31) (by decide) (.bool (!Go (pre ++ [(first+p,ah.map fun k=>val k p)])));refine aj e ?_;refine bu (fun b=>b<L.heap.size) o L _ bd ((((((d.nil.cons (d.slot 1 _ rfl)).cons (d.slot 2 _ rfl)).cons (d.slot 4 _ rfl)).cons (d.slot 5 _ rfl)).cons (d.slot 12 _ rfl)).cons (d.slot 13 _ rfl) |>.cons (d.slot 31 _ rfl)) (by simp only[put_defers];exact H) ae ⟨fun b g z=>?_,fun b g=>?_,fun b g=>C.bound _ _ _ ae b g,?_,E.tape.trans (j.tape.trans s.tape),E.os.trans (j.os.trans s.os),E.output.trans (j.output.trans s.output)⟩ (fun b h=>h) ?_ (fun z=>?_) ?_
     ·have be:¬ M b:=fun h=>(s.ext b h).elim z (fun h=>by omega);refine⟨by have:=E.size;show b<L.heap.size;omega,?_⟩;rw[ar b (by omega) be (fun n=>by have:=B b n;omega),j.at_ b (s.keep b g z).1];exact(s.keep b g z).2
     ·rcases al b g with h|h|h
      ·exact s.ext b h
      ·exact .inr (by have:=B b h;omega)
      ·exact .inr (by omega)
     ·have:=E.size;omega
     ·have:=E.size;show qb<L.heap.size;omega
     ·rcases al qb z with h|h|h
      ·exact aw h
      ·have:=B qb h;omega
      ·omega
     ·rw[ar qb (by omega) aw (fun n=>by have:=B qb n;omega),j.at_ qb (.inl I)];exact bm
end
end Cc
namespace Rl
def Zk (v:RB):Prop:=∀ (G:k8) (a:aN G),aq a v v
theorem DZ{v:RB}(h:Zk v):∀ c∈v.cells,Zk c:=by
 intro c b G e;have:=(h G e).cells;obtain⟨d,a,rfl⟩:=Array.mem_iff_getElem.1 b;exact this.2 d a a
theorem BM{cs:Array RB}(h:∀ c∈cs,Zk c):Zk (.agg cs):=fun G b=>.agg rfl fun e a d=>h _ (Array.getElem_mem a) G b
def Zi (i:Ur):Prop:=∀ v,i.zero=Ry v→Zk v
theorem zM{α i:Type}{f:α→i→Option (ForInStep i)}(e:i→Prop)(j:∀ a b s,e b→f a b=Ry s→∀ c,(s= .yield c∨s= .done c)→e c):∀ (l:List α) (b r:i),e b→forIn l b f=Ry r→e r
 | [],b,r,g,d=>by simp at d;rw[← d];exact g
 |a :: l,b,r,g,d=>by
  rw[List.forIn_cons] at d;cases h:f a b with
  |none=>rw[h] at d;cases d
  |some s=>
   rw[h] at d;cases s with
   |done c=>simp at d;rw[← d];exact j a b _ g h c (.inr rfl)
   |yield c=>exact zM e j l c r (j a b _ g h c (.inl rfl)) d
theorem N9{o:Option (Array RB)}{i:Ur}(g:Zi i)(j:∀ e,o=Ry e→∀ c∈e,Zk c){b:Prop} [Decidable b]{e:Array RB}
 (h:(if b then RA else o.bind fun a=>i.zero.bind fun z=>Ry (a ++ z.cells))=Ry e):∀ c∈e,Zk c:=by
 split at h
 ·cases h
 ·obtain⟨a,f,h⟩:=Su.1 h;obtain⟨z,k,h⟩:=Su.1 h;cases h;intro c d;rcases Array.mem_append.1 d with d|d
  ·exact j a f c d
  ·exact DZ (g z k) c d
def Rb (c:Array Field×Nat×Nat×Nat×Nat×Bool×Bool×Option (Array RB)×String):Prop:=∀ a,c.2.2.2.2.2.2.2.1=Ry a→∀ b∈a,Zk b
theorem Jy{info:RO→Option Ur}(k:∀ t i,info t=Ry i→Zi i)(g:Array Field)(r:Ur)(h:Made.reckonStruct info g=Ry r):Zi r:=by
 unfold Made.reckonStruct at h;simp only[bind,Su,pure] at h;obtain⟨o,d,h⟩:=h;have j:Rb o:=by
  rw[← Array.forIn_toList] at d;refine zM Rb ?_ _ _ _ ?_ d
  ·intro f q s m a e hc;obtain⟨i,l,a⟩:=Su.1 a
   split at a
   ·cases a
   ·split at a
    ·cases a
    ·split at a<;>(obtain⟨tag,p,a⟩:=Su.1 a;split at a<;>(cases a;rcases hc with hc|hc<;>cases hc;exact fun c b=>N9 (k _ _ l) m b))
  ·intro c b;cases b;intro e hc;simp at hc
 split at h<;>(cases h;intro v n;obtain⟨c,b,rfl⟩:=TY.1 n;exact BM (j c b))
theorem p7{d:TypeDesc}{s:String}{z:RB}{c:Bool}{n:Nat}(b:Zk z):Zi (Made.word d s z c n):=by
 intro v a;unfold Made.word at a;cases a;exact b
theorem Jx{info:RO→Option Ur}(k:∀ t i,info t=Ry i→Zi i)(d:TypeDesc)(r:Ur)(h:Made.reckon info d=Ry r):Zi r:=by
 unfold Made.reckon at h;simp only[bind,pure] at h
 split at h
 ·obtain⟨i,l,h⟩:=Su.1 h
  split at h
  ·cases h
  ·split at h
   ·cases h
   ·obtain⟨s,b,h⟩:=Su.1 h;cases h;exact p7 fun G e=>.cG
  ·obtain⟨s,b,h⟩:=Su.1 h;cases h;exact p7 fun G e=>.cG
 ·obtain⟨s,b,h⟩:=Su.1 h;obtain⟨g,f,h⟩:=Su.1 h;cases h;exact p7 fun G e=>.ja 0 0
 ·obtain⟨s,b,h⟩:=Su.1 h;obtain⟨g,f,h⟩:=Su.1 h;obtain⟨s,b,h⟩:=Su.1 h;obtain⟨g,f,h⟩:=Su.1 h;cases h;exact p7 fun G e=>.jG
 ·obtain⟨s,b,h⟩:=Su.1 h;obtain⟨g,f,h⟩:=Su.1 h;cases h;exact p7 fun G e=>.gS
 ·obtain⟨s,b,h⟩:=Su.1 h;cases h;exact p7 fun G e=>.nilFunc
 ·obtain⟨i,l,h⟩:=Su.1 h;obtain⟨g,f,h⟩:=Su.1 h;cases h;intro v c;simp only at c
  split at c
  ·cases c
  ·split at c
   ·cases c;exact BM fun j a=>by simp at a
   ·obtain⟨n,m,rfl⟩:=TY.1 c;refine BM fun j a=>?_;simp only[Array.mem_flatten,Array.mem_replicate] at a;obtain⟨o,⟨_,rfl⟩,a⟩:=a;exact DZ (k _ _ l n m) j a
 ·exact Jy k _ _ h
 ·cases h
theorem Ao{T:Tables}(b:∀ (t:Nat) i,T.types[t]? =Ry i→Zi i):∀ (f:Nat) (t:RO) (i:Ur),Made.infoAt T f t=Ry i→Zi i
 |0,t,i,a=>by cases a
 |f+1,t,i,a=>by
  unfold Made.infoAt at a
  split at a
  ·exact b _ _ a
  ·obtain⟨c,d,a⟩:=Su.1 a;exact Jx (Ao b f) c i a
theorem N7{T:Tables}(a:∀ (t:Nat) i,T.types[t]? =Ry i→Zi i)(t:RO)(i:Ur)(h:T.info? t=Ry i):Zi i:=by
 unfold Tables.info? at h
 split at h
 ·exact a _ _ h
 ·exact Ao a _ t i h
end Rl
namespace Cc
open Go
def eH:Nat→RB→Bool
 |0,_=>RE
 |n+1,v=>match v with
  | .bool _| .int _ _| .string _| .pointer RA| .slice RA _ _| .map RA| .chan RA| .nilFunc| .nilIface=>RF
  | .agg a| .tuple a=>a.toList.all (eH n)
  |_=>RE
theorem xf:∀ (n:Nat) (v:RB),eH n v=RF→Rl.Zk v
 |0,v,a=>by cases a
 |n+1,v,a=>by
  intro G c;unfold eH at a
  split at a
  ·exact .bool _
  ·exact .int _ _
  ·exact .string _
  ·exact .cG
  ·exact .ja _ _
  ·exact .jG
  ·exact .gS
  ·exact .nilFunc
  ·exact .nilIface
  ·rename_i d;exact Rl.BM (fun b e=>xf n b (Sf.1 a b (by simpa using e))) G c
  ·rename_i d;exact .tuple rfl fun h f g=>xf n _ (Sf.1 a _ (by simp)) G c
  ·cases a
def P9:List Nat:=[65,66,83,93,95,97,98,120,123,128,129,130,139,141,152,153,154,155,156,158,161,162,163,164,165,166,167,169,170,171,172,173,174,175,176,177,178]
def Ki:Rl.k8:=⟨1,fun f=>P9.contains f⟩
theorem N6:(Rz.types.toList.all fun i=>match i.zero with|some v=>eH 12 v|none=>RF)=RF:=by kernel_rfl
theorem GJ:Rz.globals.size=1:=by kernel_rfl
theorem PK:(P9.all fun f=>match Rz.funcs[f]? with|some fn=>(match fn.body with|some c=>Rl.bY Ki Rz c|none=>RE)|none=>RE)=RF:=by kernel_rfl
theorem PS:Rl.uN Rz Rz:=⟨fun _=>rfl,fun _=>rfl,rfl,fun c d v a b=>by
 refine Rl.N7 (T:=Rz.toTables) (fun c d a v b=>?_) c d a v b;obtain⟨e,rfl⟩:=RH.1 a;have:=Sf.1 N6 (Rz.types[c]) (by simp);rw[b] at this;exact xf _ _ this⟩
theorem DV:Rl.mB Ki Rz Rz:=by
 intro f e;have:=Sf.1 PK f (by simpa [Ki] using e)
 split at this
 ·rename_i c a
  split at this
  ·rename_i b d;exact⟨c,b,a,a,d,this⟩
  ·cases this
 ·cases this
theorem N4:Rl.Alike Ki Rz Rz:=⟨PS,fun _=>rfl,fun _=>rfl,rfl,fun _ _ _ _ _ _=>rfl,fun _ _ _ _ _=>rfl,fun _ _ _=>rfl,fun _ _=>rfl,fun _=>rfl,fun _ _=>rfl,GJ,GJ,fun f d=>by
 obtain⟨b,e,a,_,c,_⟩:=DV f d;refine⟨b,a,by rw[c];rfl,?_⟩;simpa using iO sg a,fun _=>rfl⟩
end Cc
namespace Cc
open Go Go.Conc
open Ec (aD aE)
def JH (own:Nat→Prop)(w:RD)(v:RB)(l:List aD):Prop:=
 (v= .slice RA 0 0∧l=[])∨∃ a c b,v= .slice (Ry ⟨a,0,RA⟩) l.length c∧own a∧w.heap[a]? =Ry (.cells b 59 (0,0))∧b.toList.take (l.length*3)=aE l
theorem k7:∀ (l:List aD) (i:Nat) (h:i<l.length) (j:Nat) (v:RB),[Ug l[i].null,.int .i64 l[i].n,.string l[i].s][j]? =Ry v→(aE l)[i*3+j]? =Ry v
 | [],i,h,j,v,a=>by simp at h
 |x :: l,0,h,j,v,a=>by
  simp only[List.getElem_cons_zero] at a;simp only[aE,Ui,Nat.zero_mul,SA];exact S7 (R8.1 a).1▸a
 |x :: l,i+1,h,j,v,a=>by
  simp only[List.getElem_cons_succ] at a;have:=k7 l i (by simpa using h) j v a;have b:(i+1)*3+j=i*3+j+3:=by omega
  rw[b];simpa [aE] using this
theorem tA{w:RD}{g:Nat}{b:Array RB}{l:List aD}(c:w.heap[g]? =Ry (.cells b 59 (0,0)))(hc:b.toList.take (l.length*3)=aE l){i:Nat}(d:i<l.length):w.rangeAt g (0+i*3) [Ug l[i].null,.int .i64 l[i].n,.string l[i].s]:=by
 intro f v e;have a:=k7 l i d f v e;rw[← hc,TJ] at a
 split at a
 ·unfold R2;simp only[c];rw[SA];simpa using a
 ·cases a
def oK (fn:Uj):UR:=match fn.body with
 |some (.seq _ (.seq _ (.seq _ (.seq _ (.seq _ (.block _ (.loop a)))))))=>a
 |_=>.skip
theorem lY:(Rz.info? 59).map (·.size)=Ry 3:=by kernel_rfl
def Ax (S:Nat→Prop)(c:Nat)(ds:List TS)(l:List aD)(v:RB)(i:Nat)(own:Nat→Prop)(w:RD)(a:TZ):Prop:=
 Knows a 47 [(40,.int .i64 (i:Int)),(39,.int .i64 (l.length:Int)),(38,v),(0,.chan (Ry c))]∧a.defers=ds∧sj S own w∧JH own w v l
theorem LG{S:Nat→Prop}{c:Nat}{co:Array Bool}{ats:Array RO}{ty:RO}{l:List aD}{v:RB}{i:Nat}{own:Nat→Prop}{w:RD}{a:TZ}(h:Ax S c [{target:=.builtin .close ats ty co,args:= #[.chan (Ry c)]}] l v i own w a)(f:l.length≤i):
 ov (aa.of Rz) Rz S c own [] (RN ((baseD 116).at a [.code (oK Tk),.inLoop (oK Tk),.inBlock 0]) [below Rz]) w:=by
 obtain⟨d,e,g,j⟩:=h;have b:=j4 (aa.of Rz) Rz S c [];refine aM b ?_;refine aX b [0] rfl ?_;refine ak b (by decide) rfl rfl (.bool RE) (iE rfl (d.of rfl) (d.of rfl) (by simp;omega)) ?_;replace d:=d.put (d:=41) (by decide) (.bool RE);refine aj b ?_;refine aM b ?_;refine cN b RE (d.of rfl) ?_;refine sH b (k':=[]) rfl ?_;refine JX b ?_;exact GI rfl e Tryz.func116 rfl rfl
theorem Ff{S:Nat→Prop}{c:Nat}{ds:List TS}{l:List aD}{v:RB}{i:Nat}{own:Nat→Prop}{w:RD}{a:TZ}{x:aD}{r:List aD}(K:l.length≤100000)(h:Ax S c ds l v i own w a)(k:l.drop i=x :: r)
 (E:∀ own' w' a',Ax S c ds l v (i+1) own' w' a'→ov (aa.of Rz) Rz S c own' (r.map aD.agg) (RN ((baseD 116).at a' [.code (oK Tk),.inLoop (oK Tk),.inBlock 0]) [below Rz]) w'):
 ov (aa.of Rz) Rz S c own ((x :: r).map aD.agg) (RN ((baseD 116).at a [.code (oK Tk),.inLoop (oK Tk),.inBlock 0]) [below Rz]) w:=by
 obtain⟨b,B,j,n⟩:=h;have d:=j4 (aa.of Rz) Rz S c ((x :: r).map aD.agg);have g:i<l.length:=by
  rcases Ts i l.length with h|h
  ·exact h
  ·rw[List.drop_eq_nil_of_le h] at k;cases k
 have H:l[i]=x:=by
  have:=S6 g;rw[k] at this;exact(List.cons.inj this).1.symm
 obtain⟨rfl,rfl⟩|⟨e,y,z,rfl,f,q,u⟩:=n
 ·simp at g
 have t:=tA q u g;rw[H] at t;refine aM d ?_;refine aX d [0] rfl ?_;refine ak d (by decide) rfl rfl (.bool RF) (iE rfl (b.of rfl) (b.of rfl) (by simp;omega)) ?_;replace b:=b.put (d:=41) (by decide) (.bool RF);refine aj d ?_;refine aM d ?_;refine cN d RF (b.of rfl) ?_;refine gB d ?_;refine aM d ?_;refine fG d ?_;refine aM d ?_;refine aX d [0,1,2,3] rfl ?_;refine ak d (by decide) rfl rfl _ (eM rfl (b.of rfl) (b.of rfl) UX Tryz.sizeOf59 g) ?_;replace b:=b.put (d:=42) (by decide) (.pointer (Ry ⟨e,0+i*3,RA⟩));refine ej d (by decide) rfl rfl _ (eF (cs:=[Ug x.null,.int .i64 x.n,.string x.s]) rfl (b.of rfl) Tryz.underlying59 rfl lY (.inr f) t) ?_;replace b:=b.put (d:=43) (by decide) (.agg #[Ug x.null,.int .i64 x.n,.string x.s]);refine kM d j (by decide) rfl rfl (.cells #[.bool RE,.int .i64 0,.string ⟨#[]⟩] 59) trivial (fun I=>.pointer (Ry ⟨I,0,RA⟩)) (rK rfl Tryz.zeroValue59) fun o M F G hrel A=>?_;replace b:=b.put (d:=11) (by decide) (.pointer (Ry ⟨o,0,RA⟩));have s:=j.new F G;have C:e≠o:=by have:=j e (.inr f);omega
 refine qP d s (by decide) rfl rfl (.inr rfl) (.cells #[.bool x.null,.int .i64 x.n,.string x.s] 59) trivial (j8 (n:=o) (off:=0) (v:=.agg #[Ug x.null,.int .i64 x.n,.string x.s]) rfl (b.of rfl) (b.of rfl) lY (fun c p=>by simp[Ub] at p;rcases p with rfl|rfl|rfl<;>rfl) (Or.inr (Or.inr rfl)) A (RG 3)) fun J m=>?_;replace b:=b.none SP;have D:=s.set m;refine aj d ?_;refine aX d [0,1,2] rfl ?_;refine ak d (by decide) rfl rfl _ (ay rfl (b.of rfl)) ?_;replace b:=b.put (d:=44) (by decide) (.chan (Ry c));refine ej d (by decide) rfl rfl _ (eF (cs:=[Ug x.null,.int .i64 x.n,.string x.s]) rfl (b.of rfl) Tryz.underlying59 rfl lY (.inr (.inr rfl)) (fun L v n=>by
  unfold R2;rw[m.set];simpa [Ub] using n)) ?_
 replace b:=b.put (d:=45) (by decide) (.agg #[Ug x.null,.int .i64 x.n,.string x.s]);refine Px (v:=x.agg) (by decide) rfl rfl rfl (b.of rfl) (b.of rfl) ?_;replace b:=b.none SP;have d:=j4 (aa.of Rz) Rz S c (r.map aD.agg);refine aj d ?_;refine gP d ?_;refine aX d [0,1] rfl ?_;refine ak d (by decide) rfl rfl _ (mJ (j:=1) rfl (b.of rfl) rfl (by omega)) ?_;replace b:=b.put (d:=46) (by decide) (.int .i64 ((i+1:Nat):Int));refine ak d (by decide) rfl rfl _ (ay rfl (b.of rfl)) ?_;replace b:=b.put (d:=40) (by decide) (.int .i64 ((i+1:Nat):Int));refine aj d ?_;refine j3 d ?_;refine E _ J _ ⟨(((b.nil.cons (b.slot 0 _ rfl)).cons (b.slot 38 _ rfl)).cons (b.slot 39 _ rfl)).cons (b.slot 40 _ rfl),by simp only[put_defers];exact B,D,.inr ⟨e,y,z,rfl,.inl f,?_,u⟩⟩;rw[m.at_ e (.inr (.inl f)) C,hrel.at_ e (.inr f)];exact q
theorem I5{S:Nat→Prop}{c:Nat}{co:Array Bool}{ats:Array RO}{ty:RO}{l:List aD}{v:RB}(g:l.length≤100000):∀ (r:List aD) (i:Nat),l.drop i=r→∀ (own:Nat→Prop) (w:RD) (a:TZ),Ax S c [{target:=.builtin .close ats ty co,args:= #[.chan (Ry c)]}] l v i own w a→
 ov (aa.of Rz) Rz S c own (r.map aD.agg) (RN ((baseD 116).at a [.code (oK Tk),.inLoop (oK Tk),.inBlock 0]) [below Rz]) w:=by
 intro r
 induction r with
 |nil=>exact fun i d own w a b=>LG b (List.drop_eq_nil_iff.1 d)
 |cons n r j=>
  intro i d own w a b;refine Ff g b d fun k m e f=>j (i+1) ?_ k m e f;have h:i<l.length:=by
   rcases Ts i l.length with b|b
   ·exact b
   ·rw[List.drop_eq_nil_of_le b] at d;cases d
  have:=S6 h;rw[d] at this;exact(List.cons.inj this).2.symm
end Cc
namespace Cc
open Go Go.Conc
open Ec (aD aE ri vG iv eu)
open Rl (k8 aN ea aq aU dg)
def oe (s:ByteArray)(k e cn:Int)(vs:List aD):Prop:=
 (∃ a:Nat,cn=(a:Int)∧a≤100∧iv cn k e=0∧ri s k e a vs)∨(vs=[]∧(iv cn k e≠0∨∃ a:Nat,cn=(a:Int)∧vG s k e a))
theorem Ev{s:ByteArray}{k e:Int}{n:Nat}{l b:List aD}(h:ri s k e n l)(a:ri s k e n b):b=l:=h.GF b a.len a.ok (eu a.eq)
theorem oe.Qh{s:ByteArray}{k e cn:Int}{vs l:List aD}{n:Nat}(h:oe s k e cn vs)(i:cn=(n:Int))(c:iv cn k e=0)(a:ri s k e n l):vs=l:=by
 rcases h with⟨b,d,_,_,g⟩|⟨rfl,h|⟨b,d,f⟩⟩
 ·have:b=n:=by omega
  subst this;exact Ev a g
 ·exact absurd c h
 ·have:b=n:=by omega
  subst this;exact absurd a.eq (f l a.len a.ok)
theorem oe.Qg{s:ByteArray}{k e cn:Int}{vs:List aD}{n:Nat}(h:oe s k e cn vs)(f:cn=(n:Int))(b:vG s k e n):vs=[]:=by
 rcases h with⟨c,d,_,_,a⟩|⟨rfl,_⟩
 ·have:c=n:=by omega
  subst this;exact absurd a.eq (b vs a.len a.ok)
 ·rfl
theorem oe.O0{s:ByteArray}{k e cn:Int}{vs:List aD}(h:oe s k e cn vs)(a:iv cn k e≠0):vs=[]:=by
 rcases h with⟨f,c,_,b,d⟩|⟨rfl,_⟩
 ·exact absurd b a
 ·rfl
theorem oe.len{s:ByteArray}{k e cn:Int}{vs:List aD}(h:oe s k e cn vs):(vs.length:Int)=cn∨vs=[]:=by
 rcases h with⟨d,a,_,c,b⟩|⟨rfl,_⟩
 ·exact .inl (by rw[b.len,a])
 ·exact .inr rfl
theorem oe.le{s:ByteArray}{k e cn:Int}{vs:List aD}(h:oe s k e cn vs):vs.length≤100:=by
 rcases h with⟨f,c,a,d,b⟩|⟨rfl,_⟩
 ·rw[b.len];exact a
 ·simp
section
variable {G:k8}{σ:aN G}{own:Nat→Prop}{wl w:RD}
def Kw:RB→Bool
 | .bool _| .int _ _| .string _=>RF
 |_=>RE
theorem Cw{v a:RB}(h:aq σ v a)(b:Kw v=RF):a=v:=by
 cases h using aq.ind<;>first|rfl|cases b
theorem DN(l:List aD):∀ x∈aE l,Kw x=RF:=by
 intro x b;obtain⟨v,_,a⟩:=List.mem_flatMap.1 b;simp only[Tq,U7,or_false] at a;rcases a with rfl|rfl|rfl<;>rfl
theorem NE{v r:RB}{l:List aD}{base:Nat}(q:aq σ v r)(I:ea σ 0 wl w)(E:∀ b b',σ.f b=Ry b'→own b')(D:wl.ownsRow base 59 3 v l.length (aE l)):JH own w r l:=by
 obtain⟨J,⟨rfl,B⟩|⟨i,t,f,rfl,_,A,C,_,H,p⟩⟩:=D
 ·cases q using aq.ind;exact .inl ⟨rfl,TQ.1 B⟩
 ·cases q using aq.ind with
  |sl y=>
   rename_i s;obtain⟨e,j,k⟩:=y;obtain⟨d,M,N⟩:=s;simp only at e j k;subst j k;obtain⟨K,L,h,u,x⟩:=I.at_ i d e;rw[A] at h;cases h;cases x using dg.ind with
   |cells m=>
    rename_i g;refine .inr ⟨d,t,g,rfl,E i d e,u,?_⟩;rw[← p];apply List.ext_getElem?;intro a;rw[TJ,TJ]
    split
    ·rename_i n;have c:a<f.size:=by
      rw[H];exact RK n (Nat.mul_le_mul_right 3 C)
     have o:a<g.size:=by rw[← m.1];exact c
     have F:=m.2 a c o;have z:Kw f[a]=RF:=by
      refine DN l _ ?_;rw[← p];refine List.mem_iff_getElem?.2 ⟨a,?_⟩;rw[TJ,if_pos n];simp[c]
     have:=Cw F z;simp[c,o,this]
    ·rfl
end
def fI (fn:Uj):Array Te:=match fn.body with
 |some (.seq _ (.seq _ (.seq (.region _ a _) _)))=>a
 |_=> #[]
def vn (fn:Uj):UR:=match fn.body with
 |some (.seq _ (.seq _ (.seq _ a)))=>a
 |_=>.skip
theorem bV{P:RM}{a:TZ}{o:Te}{v:RB}{S own:Nat→Prop}{w:RD}(h:∀ c,(Sd a.eval o).run P c= .ok (.value v) c∧(Sd a.eval o).events P c #[]=#[]):∀ c,RelB (fun b=>S b∨own b) w c→(Sd a.eval o).run P c= .ok (.value v) c∧∀ e∈(Sd a.eval o).events P c #[],EvW S own e:=fun c _=>⟨(h c).1,fun e d=>by rw[(h c).2] at d;simp at d⟩
theorem I6{S:Nat→Prop}{c:Nat}{co:Array Bool}{ats:Array RO}{ty:RO}{vs:List aD}{v:RB}{E:Int}{own:Nat→Prop}{w:RD}{a:TZ}{l0:List (Nat×RB)}(b:Knows a 47 ((8,v) :: (9,.int .i64 E) :: (0,.chan (Ry c)) :: l0))(g:a.defers=[{target:=.builtin .close ats ty co,args:= #[.chan (Ry c)]}])(k:sj S own w)(l:vs.length≤100000)
 (h:(E≠0∧vs=[])∨(E=0∧JH own w v vs)):ov (aa.of Rz) Rz S c own (vs.map aD.agg) (RN ((baseD 116).at a [.code (vn Tk)]) [below Rz]) w:=by
 have d:=j4 (aa.of Rz) Rz S c (vs.map aD.agg);refine aM d ?_;refine aM d ?_;refine aX d [0,1] rfl ?_;refine ak d (by decide) rfl rfl _ (ay rfl (b.of rfl)) ?_;replace b:=b.put (d:=36) (by decide) (.int .i64 E);rcases h with⟨j,rfl⟩|⟨rfl,i⟩
 ·refine ak d (by decide) rfl rfl (.bool RF) (pH rfl (b.of rfl) rfl (by simpa using j)) ?_;replace b:=b.put (d:=37) (by decide) (.bool RF);refine aj d ?_;refine cN d RF (b.of rfl) ?_;refine nZ d ?_;exact GI rfl (by simp only[put_defers];exact g) Tryz.func116 rfl rfl
 ·refine ak d (by decide) rfl rfl (.bool RE) (pH rfl (b.of rfl) rfl rfl) ?_;replace b:=b.put (d:=37) (by decide) (.bool RE);refine aj d ?_;refine cN d RE (b.of rfl) ?_;refine gB d ?_;refine aM d ?_;refine aX d [0,1,2] rfl ?_;refine ak d (by decide) rfl rfl _ (ay rfl (b.of rfl)) ?_;replace b:=b.put (d:=38) (by decide) v;have m:∃ f e,v= .slice f vs.length e:=by
   rcases i with⟨rfl,rfl⟩|⟨o,e,n,rfl,_⟩
   ·exact⟨RA,0,rfl⟩
   ·exact⟨_,e,rfl⟩
  obtain⟨f,e,rfl⟩:=m;refine ak d (by decide) rfl rfl _ (qS rfl (b.of rfl) UX) ?_;replace b:=b.put (d:=39) (by decide) (.int .i64 (vs.length:Int));refine ak d (by decide) rfl rfl (.int .i64 ((0:Nat):Int)) (ay rfl rfl) ?_;replace b:=b.put (d:=40) (by decide) (.int .i64 ((0:Nat):Int));refine aj d ?_;refine fG d ?_;refine sI d ?_;exact I5 l vs 0 rfl _ w _ ⟨(((b.nil.cons (b.slot 0 _ rfl)).cons (b.slot 38 _ rfl)).cons (b.slot 39 _ rfl)).cons (b.slot 40 _ rfl),by simp only[put_defers];exact g,k,i⟩
end Cc
namespace Cc
open Go Go.Conc
open Ec (aD aE ri vG iv oA)
open Rl (k8 aN ea aq aU dg)
def nY (cn:Int)(cb n cap:Nat):RB:=.agg #[.int .i64 cn,.slice (Ry ⟨cb,0,RA⟩) n cap]
def n7 (b d ck a c ce:Nat)(x:RB):RB:=.agg #[.slice (Ry ⟨b,0,RA⟩) d ck,.slice (Ry ⟨a,0,RA⟩) c ce,x]
structure sq(S:Nat→Prop)(w:RD)(s:ByteArray)(k e:Int)(cb n kb nk eb ne col:Nat):Prop where
 sc:S cb
 sk:S kb
 se:S eb
 n:col<n
 nk:col<nk
 ne:col<ne
 cc:w.cell? ⟨cb,0+col*8+0,RA⟩=Ry (.string s)
 ck:w.cell? ⟨kb,0+col*2+1,RA⟩=Ry (.int .i64 k)
 ce:w.cell? ⟨eb,0+col*1,RA⟩=Ry (.int .i64 e)
theorem sq.rel{S:Nat→Prop}{w w':RD}{s:ByteArray}{k e:Int}{cb n d g c f col:Nat}(h:sq S w s k e cb n d g c f col)(j:∀ b,S b→w'.heap[b]? =w.heap[b]?):sq S w' s k e cb n d g c f col:=by
 have e:∀ (b a:Nat),S b→w'.cell? ⟨b,a,RA⟩=w.cell? ⟨b,a,RA⟩:=fun b a i=>by unfold R2;rw[j b i]
 exact⟨h.sc,h.sk,h.se,h.n,h.nk,h.ne,(e _ _ h.sc).trans h.cc,(e _ _ h.sk).trans h.ck,(e _ _ h.se).trans h.ce⟩
def Gs (b1 b2:Nat)(cn:Int)(cb n cap a d ck b c ce col:Nat)(s:ByteArray)(k e:Int):List (Nat×RB):=
 [(14,.pointer (Ry ⟨b1,0+1,RA⟩)),(15,.slice (Ry ⟨cb,0,RA⟩) n cap),(16,.int .i64 (col:Int)),(17,.pointer (Ry ⟨cb,0+col*8,RA⟩)),(18,.pointer (Ry ⟨cb,0+col*8+0,RA⟩)),(19,.string s),
  (20,.pointer (Ry ⟨b2,0+0,RA⟩)),(21,.slice (Ry ⟨a,0,RA⟩) d ck),(22,.int .i64 (col:Int)),(23,.pointer (Ry ⟨a,0+col*2,RA⟩)),(24,.pointer (Ry ⟨a,0+col*2+1,RA⟩)),(25,.int .i64 k),
  (26,.pointer (Ry ⟨b2,0+1,RA⟩)),(27,.slice (Ry ⟨b,0,RA⟩) c ce),(28,.int .i64 (col:Int)),(29,.pointer (Ry ⟨b,0+col*1,RA⟩)),(30,.int .i64 e),(31,.pointer (Ry ⟨b1,0+0,RA⟩)),(32,.int .i64 cn)]
def Kh:List Nat:=[14,15,16,17,18,19,20,21,22,23,24,25,26,27,28,29,30,31,32]
def LD (u:RB)(E:Int):List (Nat×RB):=[(33,.tuple #[u,.int .i64 E]),(13,.tuple #[u,.int .i64 E]),(34,u),(35,.int .i64 E),(8,u),(9,.int .i64 E)]
theorem Co:fK (fI Tk) (fun i=>decide (i<19)) 19 47 Kh=RF:=by kernel_rfl
theorem Kj:fK (fI Tk) (fun _=>RF) 25 47 ([33,13,34,35,8,9] ++ Kh)=RF:=by kernel_rfl
theorem MR:((Sw (fI Tk).size).all fun i=> !(fun i=>decide (i<19)) i || match iQ (fI Tk) i with|some d=> !([33,13,34,35,8,9]:List Nat).contains d|none=>RF)=RF:=by kernel_rfl
theorem Kk:((Sw (fI Tk).size).all fun i=> !(fun i=>decide (i≤19)) i || i == 19 || (under (fI Tk) (fI Tk).size (match (fI Tk)[19]? with
 |some o=>(o.after.toList.filter fun e=>S4 .any e).map (·.on)
 |none=>[])).contains i)=RF:=by kernel_rfl
theorem pZ:Rz.follows .mixedOrders=RF:=by kernel_rfl
theorem Mu:(Tryz.f139.name == "runtime.NumGoroutine")=RE:=by kernel_rfl
theorem PT:(Tk.name == "runtime.NumGoroutine")=RE:=by kernel_rfl
theorem Dj{S:Nat→Prop}{c:Nat}{co:Array Bool}{ats:Array RO}{ty:RO}{vs:List aD}{u:RB}{E:Int}{own:Nat→Prop}{w:RD}{a0:TZ}{l l0:List (Nat×RB)}(m:Knows a0 47 l0)(n:l0.lookup 0=Ry (.chan (Ry c)))(v:l.lookup 0=RA)(p:a0.defers=[{target:=.builtin .close ats ty co,args:= #[.chan (Ry c)]}])(r:sj S own w)(s:vs.length≤100000)(x:l.map (·.1)=Kh)
 (h:(E≠0∧vs=[])∨(E=0∧JH own w u vs)) (g t:Nat) (f:Array Bool) (a:TZ) (q:b8 (fI Tk) (fun _=>RF) a0 (fill a0 (LD u E ++ l)) f a) (j:∀ i,(fun i=>decide (i≤19)) i=RF→f.getD i RE=RF) (y:DL f≤g):
 ov (aa.of Rz) Rz S c own (vs.map aD.agg) (RN ((baseD 116).at a [.inRegion (fI Tk) (SJ .any (fI Tk) g t f []),.code (vn Tk)]) [below Rz]) w:=by
 have k:=j4 (aa.of Rz) Rz S c (vs.map aD.agg);have o:fK (fI Tk) (fun _=>RF) 25 47 ((LD u E ++ l).map (·.1))=RF:=by
  rw[SQ,x];exact Kj
 refine jN (Dn:=fun i=>decide (i≤19)) (u:=25) k (by decide) m o ?_ ?_ ?_ g t f a q j y
 ·intro b i e _ j B d;have z:19<i:=by simpa using j
  have A:i<25:=(RH.1 d).1;have:i=20∨i=21∨i=22∨i=23∨i=24:=by omega
  rcases this with rfl|rfl|rfl|rfl|rfl
  ·cases(show Ry _=Ry e from d);exact⟨_,rfl,.inl ⟨rfl,bV (ay rfl (b.of rfl))⟩⟩
  ·cases(show Ry _=Ry e from d);exact⟨_,rfl,.inl ⟨rfl,bV (bT rfl (b.of rfl) rfl)⟩⟩
  ·cases(show Ry _=Ry e from d);exact⟨_,rfl,.inl ⟨rfl,bV (bT rfl (b.of rfl) rfl)⟩⟩
  ·cases(show Ry _=Ry e from d);exact⟨_,rfl,.inl ⟨rfl,bV (aG rfl (b.of rfl))⟩⟩
  ·cases(show Ry _=Ry e from d);exact⟨_,rfl,.inl ⟨rfl,bV (aG rfl (b.of rfl))⟩⟩
 ·intro e d;exact absurd (RH.1 d).1 (by decide)
 ·intro _ b;refine aj k ?_;refine I6 (l0:=[]) (v:=u) (E:=E) (((b.nil.cons (b.slot 0 _ ?_)).cons (b.slot 9 _ rfl)).cons (b.slot 8 _ rfl)) (by rw[dR];exact p) r s h;rw[R9,List.lookup_append,List.lookup_append,v,n];rfl
def QS (s:ByteArray)(k e cn:Int)(w:RD)(f:Uw)(w':RD):Prop:=RQ w.heap.size w w'∧
 ((iv cn k e≠0∧f= .returned (.tuple #[.slice RA 0 0,.int .i64 (iv cn k e)]))∨
  (∃ a:Nat,cn=(a:Int)∧a≤100∧iv cn k e=0∧Ec.bf k e=RF∧((∃ v b,f= .returned (.tuple #[v,.int .i64 0])∧w'.ownsRow w.heap.size 59 3 v b.length (aE b)∧ri s k e a b)∨(f= .returned (.tuple #[.slice RA 0 0,.int .i64 3])∧vG s k e a))))
theorem tN{G:k8}{σ:aN G}{u g:RB}{E:Int}(h:aq σ (.tuple #[u,.int .i64 E]) g):∃ f,g= .tuple #[f,.int .i64 E]∧aq σ u f:=by
 cases h using aq.ind with
 |tuple a e ihz=>
  rename_i k;have c:=e 0 (by simp) (by rw[← a];simp);have d:=e 1 (by simp) (by rw[← a];simp);simp only[List.getElem_toArray,List.getElem_cons_zero,List.getElem_cons_succ] at c d;refine⟨k[0]'(by rw[← a];simp),?_,c⟩;have i:=Cw d rfl;congr 1;refine Array.ext (a.symm.trans rfl) fun b l j=>?_;have:b=0∨b=1:=by have:b<2:=j;omega
  rcases this with rfl|rfl
  ·rfl
  ·simpa using i
theorem I4{S:Nat→Prop}{c:Nat}{co:Array Bool}{ats:Array RO}{ty:RO}{vs:List aD}{own:Nat→Prop}{w:RD}{a0:TZ}{l0:List (Nat×RB)}{s:ByteArray}{k e cn:Int}{b1 b2 cb n cap I K ck y J ce col:Nat}(r:oe s k e cn vs)(a3:s.size≤R3)
 (x:Knows a0 47 l0) (am:l0.lookup 0=Ry (.chan (Ry c))) (C:a0.defers=[{target:=.builtin .close ats ty co,args:= #[.chan (Ry c)]}]) (ae:FU S own w) (ar:1≤w.heap.size)
 (o:Te) (q:(fI Tk)[19]? =Ry o) (z t:Nat) (u:Array Bool) (a:TZ) (E:b8 (fI Tk) (fun i=>decide (i<19)) a0 (fill a0 (Gs b1 b2 cn cb n cap I K ck y J ce col s k e)) u a) (G:19∈SI .any (fI Tk) u) (bd:DL u≤z+1) (p:∀ s'∈o.looksAt (fI Tk),aS a s'=aS (fill a0 (Gs b1 b2 cn cb n cap I K ck y J ce col s k e)) s'):
 ov (aa.of Rz) Rz S c own (vs.map aD.agg) (RN ((baseD 116).at a [.inRegion (fI Tk) (19 :: SJ .any (fI Tk) z t (u.setIfInBounds 19 RF) []),.code (vn Tk)]) [below Rz]) w:=by
 have ad:=j4 (aa.of Rz) Rz S c (vs.map aD.agg);cases(show Ry _=Ry o from q);have m:=x.fill (Gs b1 b2 cn cb n cap I K ck y J ce col s k e) rfl;have U:a.eval (.tmp 19)= .string s:=(p 19 (by decide)).trans (m.slot 19 _ rfl);have V:a.eval (.tmp 25)= .int .i64 k:=(p 25 (by decide)).trans (m.slot 25 _ rfl);have W:a.eval (.tmp 30)= .int .i64 e:=(p 30 (by decide)).trans (m.slot 30 _ rfl);have X:a.eval (.tmp 32)= .int .i64 cn:=(p 32 (by decide)).trans (m.slot 32 _ rfl);refine FY ad (by decide) q rfl rfl Tryz.func139 Mu rfl ?_;have al:(#[Operand.tmp 19,.tmp 25,.tmp 30,.tmp 32].map a.eval)=#[.string s,.int .i64 k,.int .i64 e,.int .i64 cn]:=by simp only[List.map_toArray,UP,List.map_nil,U,V,W,X]
 rw[al];have a7:aU (Oq Ki) #[.string s,.int .i64 k,.int .i64 e,.int .i64 cn] #[.string s,.int .i64 k,.int .i64 e,.int .i64 cn]:=by
  refine⟨rfl,fun i Z bb=>?_⟩;have:i=0∨i=1∨i=2∨i=3:=by have:i<4:=Z;omega
  rcases this with rfl|rfl|rfl|rfl
  ·exact .string _
  ·exact .int _ _
  ·exact .int _ _
  ·exact .int _ _
 refine Jr (R:=fun f g=>∃ L,QS s k e cn L f g) dY N4 DV rfl (jJ rfl rfl rfl).symm a7 (fun f g A=>?_) (os:=w.os) (fun ba=>(oA s k e cn _ a3).mono fun f g A=>⟨_,A⟩) ae ar fun bl v a9 bj Q g B H ab a4 N hrel=>?_
 ·obtain⟨L,_,⟨_,rfl⟩|⟨_,_,_,_,_,⟨_,_,rfl,_⟩|⟨rfl,_⟩⟩⟩:=A<;>exact⟨_,rfl⟩
 ·obtain⟨ba,R,L,bc,B⟩:=B;have a8:∃ d b,a9= .tuple #[d,.int .i64 b]∧((b≠0∧vs=[])∨(b=0∧JH Q g d vs)):=by
   rcases B with⟨P,j⟩|⟨bi,O,_,Y,_,⟨d,be,j,a5,D⟩|⟨j,D⟩⟩
   ·cases j;obtain⟨l,rfl,_⟩:=tN H;exact⟨l,_,rfl,.inl ⟨P,r.O0 P⟩⟩
   ·cases j;obtain⟨l,rfl,a6⟩:=tN H;have T:=r.Qh O Y D;subst T;exact⟨l,_,rfl,.inr ⟨rfl,NE a6 ab a4 a5⟩⟩
   ·cases j;obtain⟨l,rfl,_⟩:=tN H;exact⟨l,_,rfl,.inl ⟨by decide,r.Qg O D⟩⟩
  obtain⟨d,b,rfl,a1⟩:=a8;rw[UY,q];have ao:=E.F5 (l2:=LD d b) (JC:=fun _=>RF) (n:=47) (v:=.tuple #[d,.int .i64 b]) G q x.size Co rfl (fun _ _=>rfl) rfl MR (fun R C=>by cases C;rfl);have aw:sj S Q g:=fun M h=>by
   rcases h with h|h
   ·exact(N.sh M h).1
   ·exact N.bd M h
  refine Dj x am rfl C aw (R4 r.le (by decide)) rfl a1 z t _ _ ao (fM E G Kk (fun i F=>by
   have:i≤19:=by simpa using F
   show i<25;omega)) ?_
  obtain⟨_,_,F,a2,_⟩:=mem_ready G;have:=pW (by rw[E.size];exact F) a2;omega
end Cc
namespace Cc
open Go Go.Conc
open Ec (aD)
theorem Rg(v0 v1 v2 a:RB)(m:Nat)(f:4≤m):Knows ⟨#[v0,v1,v2,a] ++ SN (m - 4) SP,[]⟩ m [(0,v0),(1,v1),(2,v2),(3,a)]:=by
 have b:∀ c v,(#[v0,v1,v2,a]:Array RB)[c]? =Ry v→aS ⟨#[v0,v1,v2,a] ++ SN (m - 4) SP,[]⟩ c=v:=fun c v d=>by
  unfold aS;rw[Se,Array.getElem?_append_left (RH.1 d).1,d];rfl
 refine Knows.cons (Knows.cons (Knows.cons (Knows.cons (l:=[]) ⟨?_,fun s v e=>by simp at e⟩ (b 3 a rfl)) (b 2 v2 rfl)) (b 1 v1 rfl)) (b 0 v0 rfl);simp;omega
theorem Dk{S:Nat→Prop}{c:Nat}{co:Array Bool}{ats:Array RO}{ty:RO}{vs:List aD}{own:Nat→Prop}{w:RD}{a0:TZ}{s:ByteArray}{k e cn:Int}{b1 b2 cb n cap i l ck h j ce col:Nat}{x:RB}{l0:List (Nat×RB)}(J:oe s k e cn vs)(F:s.size≤R3)
 (o:Knows a0 47 ((0,.chan (Ry c)) :: (3,.int .i64 (col:Int)) :: (5,.pointer (Ry ⟨b1,0,RA⟩)) :: (6,.pointer (Ry ⟨b2,0,RA⟩)) :: l0)) (B:a0.defers=[{target:=.builtin .close ats ty co,args:= #[.chan (Ry c)]}]) (A:FU S own w) (D:1≤w.heap.size)
 (h1:own b1) (r:own b2) (K:w.heap[b1]? =Ry (.cells #[.int .i64 cn,.slice (Ry ⟨cb,0,RA⟩) n cap] 139 (0,0))) (L:w.heap[b2]? =Ry (.cells #[.slice (Ry ⟨i,0,RA⟩) l ck,.slice (Ry ⟨h,0,RA⟩) j ce,x] 105 (0,0))) (g:sq S w s k e cb n i l h j col):
 ov (aa.of Rz) Rz S c own (vs.map aD.agg) (RN ((baseD 116).at a0 [.code (.region 2 (fI Tk) RF),.code (vn Tk)]) [below Rz]) w:=by
 have t:=j4 (aa.of Rz) Rz S c (vs.map aD.agg);have p:∀ a v,(#[TW .i64 cn,.slice (Ry ⟨cb,0,RA⟩) n cap]:Array RB)[a]? =Ry v→w.cell? ⟨b1,a,RA⟩=Ry v:=fun a v m=>by unfold R2;simp only[K];exact m
 have q:∀ a v,(#[SS (Ry ⟨i,0,RA⟩) l ck,.slice (Ry ⟨h,0,RA⟩) j ce,x]:Array RB)[a]? =Ry v→w.cell? ⟨b2,a,RA⟩=Ry v:=fun a v m=>by unfold R2;simp only[L];exact m
 refine pq (Ph:=fun d=>decide (d<19)) (l:=Gs b1 b2 cn cb n cap i l ck h j ce col s k e) t pZ ?_;refine jN (u:=19) t (by decide) o Co ?_ ?_ ?_
 ·intro b d a H _ _ f;have O:d<19:=by simpa using H
  have:d=0∨d=1∨d=2∨d=3∨d=4∨d=5∨d=6∨d=7∨d=8∨d=9∨d=10∨d=11∨d=12∨d=13∨d=14∨d=15∨d=16∨d=17∨d=18:=by omega
  rcases this with rfl|rfl|rfl|rfl|rfl|rfl|rfl|rfl|rfl|rfl|rfl|rfl|rfl|rfl|rfl|rfl|rfl|rfl|rfl
  ·cases(show Ry _=Ry a from f);exact⟨_,rfl,.inl ⟨rfl,bV (cK rfl (b.of rfl) TI rfl Tryz.sizeOf137 rfl)⟩⟩
  ·cases(show Ry _=Ry a from f);exact⟨_,rfl,.inl ⟨rfl,bM rfl (b.of rfl) Tryz.isAgg137 (.inr h1) (p 1 _ rfl)⟩⟩
  ·cases(show Ry _=Ry a from f);exact⟨_,rfl,.inl ⟨rfl,bV (ay rfl (b.of rfl))⟩⟩
  ·cases(show Ry _=Ry a from f);exact⟨_,rfl,.inl ⟨rfl,bV (eM rfl (b.of rfl) (b.of rfl) Tryz.underlying137 Tryz.sizeOf143 g.n)⟩⟩
  ·cases(show Ry _=Ry a from f);exact⟨_,rfl,.inl ⟨rfl,bV (cK rfl (b.of rfl) Tryz.underlying143 rfl Tryz.sizeOf9 rfl)⟩⟩
  ·cases(show Ry _=Ry a from f);exact⟨_,rfl,.inl ⟨rfl,bM rfl (b.of rfl) Tryz.isAgg9 (.inl g.sc) g.cc⟩⟩
  ·cases(show Ry _=Ry a from f);exact⟨_,rfl,.inl ⟨rfl,bV (cK rfl (b.of rfl) Tryz.underlying105 rfl Tryz.sizeOf44 rfl)⟩⟩
  ·cases(show Ry _=Ry a from f);exact⟨_,rfl,.inl ⟨rfl,bM rfl (b.of rfl) Tryz.isAgg44 (.inr r) (q 0 _ rfl)⟩⟩
  ·cases(show Ry _=Ry a from f);exact⟨_,rfl,.inl ⟨rfl,bV (ay rfl (b.of rfl))⟩⟩
  ·cases(show Ry _=Ry a from f);exact⟨_,rfl,.inl ⟨rfl,bV (eM rfl (b.of rfl) (b.of rfl) Tryz.underlying44 Tryz.sizeOf63 g.nk)⟩⟩
  ·cases(show Ry _=Ry a from f);exact⟨_,rfl,.inl ⟨rfl,bV (cK rfl (b.of rfl) Tryz.underlying63 rfl Vi rfl)⟩⟩
  ·cases(show Ry _=Ry a from f);exact⟨_,rfl,.inl ⟨rfl,bM rfl (b.of rfl) VG (.inl g.sk) g.ck⟩⟩
  ·cases(show Ry _=Ry a from f);exact⟨_,rfl,.inl ⟨rfl,bV (cK rfl (b.of rfl) Tryz.underlying105 rfl Tryz.sizeOf22 rfl)⟩⟩
  ·cases(show Ry _=Ry a from f);exact⟨_,rfl,.inl ⟨rfl,bM rfl (b.of rfl) Tryz.isAgg22 (.inr r) (q 1 _ rfl)⟩⟩
  ·cases(show Ry _=Ry a from f);exact⟨_,rfl,.inl ⟨rfl,bV (ay rfl (b.of rfl))⟩⟩
  ·cases(show Ry _=Ry a from f);exact⟨_,rfl,.inl ⟨rfl,bV (eM rfl (b.of rfl) (b.of rfl) Tryz.underlying22 Vi g.ne)⟩⟩
  ·cases(show Ry _=Ry a from f);exact⟨_,rfl,.inl ⟨rfl,bM rfl (b.of rfl) VG (.inl g.se) g.ce⟩⟩
  ·cases(show Ry _=Ry a from f);exact⟨_,rfl,.inl ⟨rfl,bV (cK rfl (b.of rfl) TI rfl Vi rfl)⟩⟩
  ·cases(show Ry _=Ry a from f);exact⟨_,rfl,.inl ⟨rfl,bM rfl (b.of rfl) VG (.inr h1) (p 0 _ rfl)⟩⟩
 ·intro a f y N M u C I G E _;exact I4 J F o rfl B A D a f y N M u C I G E
 ·intro z;exact absurd (z 24 (by decide)) (by decide)
theorem LF{S:Nat→Prop}{c:Nat}{vs:List aD}{w:RD}{s:ByteArray}{k e cn:Int}{cb n cap h j ck g i ce col:Nat}{x:RB}(G:oe s k e cn vs)(E:s.size≤R3)(p:FU S (fun _=>False) w)(D:sq S w s k e cb n h j g i col):
 ov (aa.of Rz) Rz S c (fun _=>False) (vs.map aD.agg) (born Rz (dcall 116 #[.chan (Ry c),nY cn cb n cap,n7 h j ck g i ce x,.int .i64 (col:Int)])) w:=by
 have b:=j4 (aa.of Rz) Rz S c (vs.map aD.agg);refine Mo Tryz.func116 PT rfl ?_;have a:=Rg (.chan (Ry c)) (nY cn cb n cap) (n7 h j ck g i ce x) (.int .i64 (col:Int)) 47 (by decide);have q:sj S (fun _=>False) w:=fun d f=>f.elim (fun y=>(p.sh d y).1) Vt;refine aM b ?_;refine aX b [0,1] rfl ?_;refine kM b q (by decide) rfl rfl (.cells #[.int .i64 cn,.slice (Ry ⟨cb,0,RA⟩) n cap] 139) trivial (fun n=>.pointer (Ry ⟨n,0,RA⟩)) (sZ (v:=nY cn cb n cap) rfl (a.of rfl)) fun l J B H F z=>?_;replace a:=a.put (d:=5) (by decide) (.pointer (Ry ⟨l,0,RA⟩));have r:=q.new B H;refine kM b r (by decide) rfl rfl (.cells #[.slice (Ry ⟨h,0,RA⟩) j ck,.slice (Ry ⟨g,0,RA⟩) i ce,x] 105) trivial (fun n=>.pointer (Ry ⟨n,0,RA⟩)) (sZ (v:=n7 h j ck g i ce x) rfl (a.of rfl)) fun o K C I u A=>?_;replace a:=a.put (d:=6) (by decide) (.pointer (Ry ⟨o,0,RA⟩));have t:=r.new C I;refine aj b ?_;refine aM b ?_;refine aX b [0,1] rfl ?_;refine ak b (by decide) rfl rfl _ (ay rfl (a.of rfl)) ?_;replace a:=a.put (d:=12) (by decide) (.chan (Ry c));refine ME b (by decide) rfl rfl rfl (a.of rfl) fun v=>?_;refine aj b ?_;refine aM b ?_;refine Dk (b1:=l) (b2:=o) (cap:=cap) (ck:=ck) (ce:=ce) (l0:=[]) (col:=col) (x:=x) (ats:= #[212]) (ty:=0) (co:=v) G E ?_ (by simp only[put_defers];rfl) ?_ (by omega) (.inl (.inr rfl)) (.inr rfl) ?_ A (D.rel fun d f=>?_)
 ·exact(Knows.defer a _ SP).four rfl rfl rfl rfl
 ·refine⟨fun d f=>⟨t d (.inl f),fun m=>?_⟩,fun d f=>t d (.inr f)⟩;have:=(p.sh d f).1;rcases m with(m|rfl)|rfl
  ·exact m
  ·omega
  ·omega
 ·rw[u.at_ l (.inr (.inr rfl))];exact z
 ·rw[u.at_ d (.inl f),F.at_ d (.inl f)]
end Cc
namespace Cc
open Go Go.Conc
open Ec (aD aE)
theorem vC:∃ i,Rz.info? 59=Ry i∧i.zero=Ry (.agg #[.bool RE,.int .i64 0,.string ⟨#[]⟩])∧i.size=3∧i.bytes=32:=⟨Tryz.t59,by kernel_rfl,rfl,rfl,rfl⟩
theorem DY(w:RD):(TO 59).events Rz w #[]=#[]:=by
 obtain⟨e,b,d,_⟩:=vC;simp[TO,UE,b,d]
theorem eB(l:List aD)(x:aD):aE (l ++ [x])=aE l ++ [.bool x.null,.int .i64 x.n,.string x.s]:=by simp[aE]
structure Row(w:RD)(g N:Nat)(pre:List aD):Prop where
 ex:∃ cur,w.heap[g]? =Ry (.cells cur 59 (0,0))∧cur.size=N*3∧cur.toList.take (pre.length*3)=aE pre
 le:pre.length≤N
theorem Row.same{w w':RD}{g N:Nat}{pre:List aD}(h:Row w g N pre)(f:w'.heap[g]? =w.heap[g]?):Row w' g N pre:=by
 obtain⟨b,d,e⟩:=h.ex;exact⟨⟨b,f.trans d,e⟩,h.le⟩
def cO (fn:Uj):UR:=match fn.body with
 |some (.seq _ (.seq _ (.seq (.seq _ (.block _ (.loop c))) _)))=>c
 |_=>.skip
def gb (fn:Uj):UR:=match fn.body with
 |some (.seq _ (.seq _ (.seq _ c)))=>c
 |_=>.skip
structure Aq(S O:Nat→Prop)(c g N:Nat)(pre:List aD)(w:RD)(a:TZ):Prop where
 kn:Knows a 18 [(9,.chan (Ry c)),(5,.slice (Ry ⟨g,0,RA⟩) pre.length N)]
 df:a.defers=[]
 inr:sj S O w
 own:O g
 row:Row w g N pre
section
variable {Post:RB→RD→Prop}{S O:Nat→Prop}{μ:Nat→Option (List RB)}{c g N:Nat}{pre:List aD}{w:RD}{a:TZ}{cs:List RU}{b0:RU}{a0:TZ}{k0:List Uk}{AZ:Array Te}{i0:Nat}{zX:List Nat}{o0:Te}
theorem J6(h:Aq S O c g N pre w a)(k:μ c=Ry [])(j:AZ[i0]? =Ry o0)
 (i:jy (aa.of Rz) Rz Post S O (fy μ c RA) (RN (b0.at (a0.put o0.dst (.slice (Ry ⟨g,0,RA⟩) pre.length N)) (.inRegion AZ zX :: k0)) cs) w):
 jy (aa.of Rz) Rz Post S O μ (RN ((base 117).at a [.code (cO U6),.inLoop (cO U6),.inBlock 0,.code (gb U6)]) (b0.at a0 (.inRegion AZ (i0 :: zX) :: k0) :: cs)) w:=by
 obtain⟨d,f,m,l,n⟩:=h;have b:=dw (aa.of Rz) Rz Post S μ;refine aM b ?_;refine aX b [0,1] rfl ?_;refine OX (by decide) rfl rfl rfl Tryz.underlying215 Tryz.zeroValue59 DY (d.of rfl) k ?_;replace d:=d.put (d:=10) (by decide) (.tuple #[.agg #[.bool RE,.int .i64 0,.string ⟨#[]⟩],.bool RE]);have b:=dw (aa.of Rz) Rz Post S (fy μ c RA);refine ak b (by decide) rfl rfl _ (bT rfl (d.of rfl) rfl) ?_;replace d:=d.put (d:=11) (by decide) (.bool RE);refine aj b ?_;refine aM b ?_;refine cN b RE (d.of rfl) ?_;refine sH b (k':=[.code (gb U6)]) rfl ?_;refine aM b ?_;refine aX b [0,1] rfl ?_;refine ak b (by decide) rfl rfl _ (ay rfl (d.of rfl)) ?_;replace d:=d.put (d:=17) (by decide) (.slice (Ry ⟨g,0,RA⟩) pre.length N);refine ak b (by decide) rfl rfl _ (aG rfl (d.of rfl)) ?_;replace d:=d.put (d:=4) (by decide) (.slice (Ry ⟨g,0,RA⟩) pre.length N);refine aj b ?_;refine nZ b ?_;have e:=jl (P:=Rz) Tryz.results117 (d.slot 4 _ rfl);exact MG b rfl (by simp only[put_defers];exact f) Tryz.func117 e.1 e.2 j i
theorem Eo{x:aD}{r:List aD}(h:Aq S O c g N pre w a)(ar:μ c=Ry ((x :: r).map aD.agg))(M:pre.length<N)(P:N≤1000000)
 (Z:∀ o w' a',Aq S o c g N (pre ++ [x]) w' a'→(∀ b,O b→o b)→(∀ b,o b→O b∨w.heap.size≤b)→(∀ b,S b∨O b→b≠g→w'.heap[b]? =w.heap[b]?)→w.heap.size≤w'.heap.size→w'.tape=w.tape→w'.os=w.os→w'.output=w.output→jy (aa.of Rz) Rz Post S o (fy μ c (Ry (r.map aD.agg))) (RN ((base 117).at a' [.code (cO U6),.inLoop (cO U6),.inBlock 0,.code (gb U6)]) cs) w'):
 jy (aa.of Rz) Rz Post S O μ (RN ((base 117).at a [.code (cO U6),.inLoop (cO U6),.inBlock 0,.code (gb U6)]) cs) w:=by
 obtain⟨d,W,s,j,ad⟩:=h;obtain⟨⟨p,V,q,am⟩,a3⟩:=ad;obtain⟨H,E,G,n,U⟩:=vC;have e:=dw (aa.of Rz) Rz Post S μ;refine aM e ?_;refine aX e [0,1] rfl ?_;refine OW (v:=x.agg) (by decide) rfl rfl rfl Tryz.underlying215 Tryz.zeroValue59 DY (d.of rfl) ar ?_;replace d:=d.put (d:=10) (by decide) (.tuple #[.agg #[.bool x.null,.int .i64 x.n,.string x.s],.bool RF]);have e:=dw (aa.of Rz) Rz Post S (fy μ c (Ry (r.map aD.agg)));refine ak e (by decide) rfl rfl _ (bT rfl (d.of rfl) rfl) ?_;replace d:=d.put (d:=11) (by decide) (.bool RF);refine aj e ?_;refine aM e ?_;refine cN e RF (d.of rfl) ?_;refine gB e ?_;refine fG e ?_;refine aM e ?_;refine aX e [0,1,2] rfl ?_;refine ak e (by decide) rfl rfl _ (bT rfl (d.of rfl) rfl) ?_;replace d:=d.put (d:=12) (by decide) (.agg #[.bool x.null,.int .i64 x.n,.string x.s]);refine kM e s (by decide) rfl rfl (.cells #[.bool RE,.int .i64 0,.string ⟨#[]⟩] 59) trivial (fun y=>.pointer (Ry ⟨y,0,RA⟩)) (rK rfl Tryz.zeroValue59) fun I a6 F ae hrel Q=>?_;replace d:=d.put (d:=6) (by decide) (.pointer (Ry ⟨I,0,RA⟩));have B:=s.new F ae;refine qP e B (by decide) rfl rfl (.inr rfl) (.cells #[.bool x.null,.int .i64 x.n,.string x.s] 59) trivial (j8 (n:=I) (off:=0) (v:=.agg #[Ug x.null,.int .i64 x.n,.string x.s]) rfl (d.of rfl) (d.of rfl) lY (fun c m=>by simp[Ub] at m;rcases m with rfl|rfl|rfl<;>rfl) (Or.inr (Or.inr rfl)) Q (RG 3)) fun aw i=>?_;replace d:=d.none SP;have C:=B.set i;refine aj e ?_;refine aX e [0,1,2,3,4] rfl ?_;refine ak e (by decide) rfl rfl _ (ay rfl (d.of rfl)) ?_;replace d:=d.put (d:=13) (by decide) (.slice (Ry ⟨g,0,RA⟩) pre.length N);refine ej e (by decide) rfl rfl _ (eF (cs:=[Ug x.null,.int .i64 x.n,.string x.s]) rfl (d.of rfl) Tryz.underlying59 rfl lY (.inr (.inr rfl)) (fun t v ao=>by
  unfold R2;rw[i.set];simpa [Ub] using ao)) ?_
 replace d:=d.put (d:=14) (by decide) (.agg #[Ug x.null,.int .i64 x.n,.string x.s]);refine kM e C (by decide) rfl rfl (.cells #[.bool x.null,.int .i64 x.n,.string x.s] 59) trivial (fun y=>.slice (Ry ⟨y,0,RA⟩) 1 1) (Is (v0:=.bool x.null) (v1:=.int .i64 x.n) (v2:=.string x.s) rfl (d.of rfl) UX E G n) fun z A ab al l R=>?_;replace d:=d.put (d:=15) (by decide) (.slice (Ry ⟨z,0,RA⟩) 1 1);have D:=C.new ab al;have a2:=s g (.inr j);have K:aw.heap[g]? =Ry (.cells p 59 (0,0)):=by
  rw[i.at_ g (.inr (.inl j)) (by omega),hrel.at_ g (.inr j)];exact V
 have L:A.heap[g]? =Ry (.cells p 59 (0,0)):=(l.at_ g (.inr (.inl j))).trans K;refine OL e D (n:=g) (by decide) rfl rfl (.inl (.inl j)) (.cells (p.toList.take (pre.length*H.size) ++ [Ug x.null,.int .i64 x.n,.string x.s] ++ p.toList.drop (pre.length*H.size+3)).toArray 59 (0,0)) trivial (.slice (Ry ⟨g,0,RA⟩) (pre.length+1) N) (Ir (news:=[Ug x.null,.int .i64 x.n,.string x.s]) rfl (d.of rfl) (d.of rfl) UX E G L (.inr (.inl (.inl j))) (.inr (.inr rfl)) (by rw[n];rfl) (fun t a5 Y=>by
  have J:A.cell? (VN ⟨z,0,RA⟩ t)=A.cell? ⟨z,0+t,RA⟩:=by rw[U2]
  rw[J];unfold R2;rw[R,SA];simpa using Y) (fun t=>by rw[U2]) (fun c m=>by simp at m;rcases m with rfl|rfl|rfl<;>rfl) (by omega) (by rw[q,n]) P (by rw[U];decide)) fun a1 k=>?_
 replace d:=d.put (d:=16) (by decide) (.slice (Ry ⟨g,0,RA⟩) (pre.length+1) N);have X:=D.set k;refine ak e (by decide) rfl rfl _ (aG rfl (d.of rfl)) ?_;replace d:=d.put (d:=5) (by decide) (.slice (Ry ⟨g,0,RA⟩) (pre.length+1) N);refine aj e ?_;refine gP e ?_;refine j3 e ?_;have u:(pre ++ [x]).length=pre.length+1:=by simp
 refine Z _ a1 _ ⟨?_,by simp only[put_defers];exact W,X,.inl (.inl j),⟨⟨_,k.set,?_,?_⟩,by rw[u];exact M⟩⟩ (fun b f=>.inl (.inl f)) (fun b f=>?_) (fun b f T=>?_) ?_ ?_ ?_ ?_
 ·rw[u];exact(d.nil.cons (d.slot 5 _ rfl)).cons (d.slot 9 _ rfl)
 ·rw[n] at*;simp[q];omega
 ·rw[n,u,eB,← am,Nat.add_mul];rw[List.take_append_of_le_length (by simp[q];omega)];rw[SF (by simp[q];omega)]
 ·rcases f with(f|rfl)|rfl
  ·exact .inl f
  ·exact .inr F
  ·have:=i.size;have:=hrel.size;exact .inr (by omega)
 ·have a4:=s b f;rw[k.at_ b (f.imp (fun h=>h) (fun h=>.inl (.inl h))) T,l.at_ b (f.imp (fun h=>h) (fun h=>.inl h)),i.at_ b (f.imp (fun h=>h) (fun h=>.inl h)) (by omega),hrel.at_ b f]
 ·have:=hrel.size;have:=i.size;have:=l.size;have:=k.size;omega
 ·rw[k.tape,l.tape,i.tape,hrel.tape]
 ·rw[k.os,l.os,i.os,hrel.os]
 ·rw[k.output,l.output,i.output,hrel.output]
theorem Jo(μ:Nat→Option (List RB))(c:Nat)(x y:Option (List RB)):fy (fy μ c x) c y=fy μ c y:=by
 funext b;unfold fy
 split<;>rfl
structure Oy(S O O':Nat→Prop)(g:Nat)(w w':RD):Prop where
 sub:∀ b,O b→O' b
 new:∀ b,O' b→O b∨w.heap.size≤b
 at_:∀ b,S b∨O b→b≠g→w'.heap[b]? =w.heap[b]?
 size:w.heap.size≤w'.heap.size
 tape:w'.tape=w.tape
 os:w'.os=w.os
 output:w'.output=w.output
theorem G7(z:AZ[i0]? =Ry o0)(v:N≤1000000):∀ (r:List aD) (pre:List aD) (O:Nat→Prop) (w:RD) (a:TZ) (μ:Nat→Option (List RB)),Aq S O c g N pre w a→μ c=Ry (r.map aD.agg)→pre.length+r.length≤N→
 (∀ h w',Row w' g N (pre ++ r)→h g→sj S h w'→Oy S O h g w w'→jy (aa.of Rz) Rz Post S h (fy μ c RA) (RN (b0.at (a0.put o0.dst (.slice (Ry ⟨g,0,RA⟩) (pre ++ r).length N)) (.inRegion AZ zX :: k0)) cs) w')→
 jy (aa.of Rz) Rz Post S O μ (RN ((base 117).at a [.code (cO U6),.inLoop (cO U6),.inBlock 0,.code (gb U6)]) (b0.at a0 (.inRegion AZ (i0 :: zX) :: k0) :: cs)) w:=by
 intro r
 induction r with
 |nil=>
  intro pre O w a μ b j l i;refine J6 b j z ?_;have:=i O w (by rw[Ud];exact b.row) b.own b.inr ⟨fun _ b=>b,fun _ b=>.inl b,fun _ _ _=>rfl,RG _,rfl,rfl,rfl⟩;rw[Ud] at this;exact this
 |cons k r A=>
  intro pre O w a μ b j l i;simp only[TA] at l;refine Eo b j (by omega) v fun h w' s u o B C p D E F=>?_;refine A (pre ++ [k]) h w' s _ u (by unfold fy;simp) (by simp;omega) fun q G n x y f=>?_;rw[Jo];have t:pre ++ [k] ++ r=pre ++ k :: r:=by simp
  rw[t] at n ⊢;exact i q G n x y ⟨fun d e=>f.sub d (o d e),fun d e=>(f.new d e).elim (B d) (fun e=>.inr (R4 p e)),fun d e m=>(f.at_ d (e.imp (fun b=>b) (o d)) m).trans (C d e m),R4 p f.size,f.tape.trans D,f.os.trans E,f.output.trans F⟩
theorem QY(v0 v1:RB)(m:Nat)(h:2≤m):Knows ⟨#[v0,v1] ++ SN (m - 2) SP,[]⟩ m [(0,v0),(1,v1)]:=by
 have e:∀ b v,(#[v0,v1]:Array RB)[b]? =Ry v→aS ⟨#[v0,v1] ++ SN (m - 2) SP,[]⟩ b=v:=fun b v d=>by
  unfold aS;rw[Se,Array.getElem?_append_left (RH.1 d).1,d];rfl
 refine Knows.cons (Knows.cons (l:=[]) ⟨?_,fun s v f=>by simp at f⟩ (e 1 v1 rfl)) (e 0 v0 rfl);simp;omega
theorem J5{r:List aD}(v:AZ[i0]? =Ry o0)(k:sj S O w)(C:μ c=Ry (r.map aD.agg))(x:r.length≤N)(m:N≤1000000)
 (u:∀ j w' g,w.heap.size≤g→Row w' g N r→j g→JE S O j w w'→jy (aa.of Rz) Rz Post S j (fy μ c RA) (RN (b0.at (a0.put o0.dst (.slice (Ry ⟨g,0,RA⟩) r.length N)) (.inRegion AZ zX :: k0)) cs) w'):
 jy (aa.of Rz) Rz Post S O μ (RN (Sz Rz 117 #[.chan (Ry c),.int .i64 (N:Int)] .normal) (b0.at a0 (.inRegion AZ (i0 :: zX) :: k0) :: cs)) w:=by
 have d:=dw (aa.of Rz) Rz Post S μ;obtain⟨D,s,B,z,o⟩:=vC;rw[enter_at _ Tryz.func117 rfl];have b:=QY (.chan (Ry c)) (.int .i64 (N:Int)) 18 (by decide);refine aM d ?_;refine aX d [0] rfl ?_;refine ak d (by decide) rfl rfl _ (aG rfl rfl) ?_;replace b:=b.put (d:=4) (by decide) (.slice RA 0 0);refine aj d ?_;refine aM d ?_;refine aX d [0,1,2] rfl ?_;refine ak d (by decide) rfl rfl _ (ay rfl (b.of rfl)) ?_;replace b:=b.put (d:=7) (by decide) (.int .i64 (N:Int));refine kM d k (by decide) rfl rfl (.cells (madeCells (Value.agg #[.bool RE,.int .i64 0,.string ⟨#[]⟩]).cells (N*D.size)) 59) trivial (fun E=>.slice (Ry ⟨E,0,RA⟩) 0 N) (AY (L:=0) rfl rfl (b.of rfl) UX s B (Sk _) (by rw[o];omega) (by omega)) fun g F l A hrel n=>?_;replace b:=b.put (d:=8) (by decide) (.slice (Ry ⟨g,0,RA⟩) 0 N);refine ak d (by decide) rfl rfl _ (aG rfl (b.of rfl)) ?_;replace b:=b.put (d:=5) (by decide) (.slice (Ry ⟨g,0,RA⟩) 0 N);refine aj d ?_;refine aM d ?_;refine aM d ?_;refine aX d [0] rfl ?_;refine ak d (by decide) rfl rfl _ (ay rfl (b.of rfl)) ?_;replace b:=b.put (d:=9) (by decide) (.chan (Ry c));refine aj d ?_;refine fG d ?_;refine sI d ?_;have q:=k.new l A;refine G7 (g:=g) (N:=N) v m r [] _ F _ μ ⟨(b.nil.cons (b.slot 5 _ rfl)).cons (b.slot 9 _ rfl),by simp only[put_defers],q,.inr rfl,⟨⟨_,n,by rw[size_madeCells,z],rfl⟩,Sk _⟩⟩ C (by simpa using x) fun j w' y p t i=>?_;refine u j w' g l y p ⟨fun e f=>i.sub e (.inl f),fun e f=>?_,⟨fun e f=>?_,?_,i.tape.trans hrel.tape,i.os.trans hrel.os,i.output.trans hrel.output⟩,t⟩
 ·rcases i.new e f with(h|rfl)|h
  ·exact .inl h
  ·exact .inr l
  ·exact .inr (R4 hrel.size h)
 ·have:=k e f;rw[i.at_ e (f.imp (fun h=>h) (fun h=>.inl h)) (by omega),hrel.at_ e f]
 ·exact R4 hrel.size i.size
end
end Cc
namespace Cc
open Go Go.Conc
open Ec (aD aE)
open Go.RowKit (Below)
structure D2(S:Nat→Prop)(w0:RD)(s:Nat→ByteArray)(k e:Nat→Int)(N cb n kb nk eb ne wb:Nat)(ws:List Bool)(V:Nat→List aD):Prop where
 sz:∀ b,S b→b<w0.heap.size
 sin:∀ j,ws[j]? =Ry RF→sq S w0 (s j) (k j) (e j) cb n kb nk eb ne j∧(s j).size≤R3∧oe (s j) (k j) (e j) (N:Int) (V j)
 wl:wb<w0.heap.size
 wc:∀ j y,ws[j]? =Ry y→w0.cell? ⟨wb,0+j*1,RA⟩=Ry (.bool y)
 nn:N≤1000000
 mm:ws.length≤1000000
 pos:1≤w0.heap.size
def dX (ws:List Bool)(ch:Nat→Nat)(i:Nat):List RB:=(Sw ws.length).map fun b=>if b<i∧ws[b]? =Ry RF then .chan (Ry (ch b)) else .chan RA
theorem dm(ws:List Bool)(ch:Nat→Nat)(i:Nat):(dX ws ch i).length=ws.length:=by simp[dX]
theorem lE{ws:List Bool}{ch:Nat→Nat}{i j:Nat}(b:j<ws.length):(dX ws ch i)[j]? =Ry (if j<i∧ws[j]? =Ry RF then .chan (Ry (ch j)) else .chan RA):=by
 simp[dX,b]
structure p8(S O:Nat→Prop)(w0 w:RD)(N cb n cap kb nk ck eb ne ce:Nat)(x:RB)(bb fb:Nat):Prop where
 FX:Below w0.heap.size w0 w
 low:∀ b,b<w0.heap.size→S b∨O b
 inr:sj S O w
 qd:∀ b,S b→¬ O b
 ob:O bb
 of:O fb
 lb:w0.heap.size≤bb
 lf:w0.heap.size≤fb
 hb:w.heap[bb]? =Ry (.cells #[.int .i64 (N:Int),.slice (Ry ⟨cb,0,RA⟩) n cap] 139 (0,0))
 hf:w.heap[fb]? =Ry (.cells #[.slice (Ry ⟨kb,0,RA⟩) nk ck,.slice (Ry ⟨eb,0,RA⟩) ne ce,x] 105 (0,0))
structure PW(O:Nat→Prop)(w:RD)(ws:List Bool)(V:Nat→List aD)(ch:Nat→Nat)(p q:Nat)(μ:Nat→Option (List RB)):Prop where
 mu:∀ j,p≤j→j<q→ws[j]? =Ry RF→μ (ch j)=Ry ((V j).map aD.agg)
 no:∀ c,μ c≠RA→∃ j,p≤j∧j<q∧ws[j]? =Ry RF∧ch j=c
 inj:∀ j j',j<q→j'<q→ws[j]? =Ry RF→ws[j']? =Ry RF→ch j=ch j'→j=j'
 lt:∀ j,j<q→ws[j]? =Ry RF→ch j<w.heap.size
section
variable {S O:Nat→Prop}{w0 w w':RD}{s:Nat→ByteArray}{k e:Nat→Int}{N cb n cap kb nk ck eb ne ce wb fh:Nat}{x:RB}{ws:List Bool}{V:Nat→List aD}{ch:Nat→Nat}{bb fb ct i:Nat}{μ:Nat→Option (List RB)}{a:TZ}{Post:RB→RD→Prop}{cs:List RU}
theorem p8.rel(h:p8 S O w0 w N cb n cap kb nk ck eb ne ce x bb fb){d:Nat→Prop}(g:∀ b,S b∨O b→w0.heap.size≤b→(b=bb∨b=fb)→w'.heap[b]? =w.heap[b]?)(m:∀ b,b<w0.heap.size→w'.heap[b]? =w.heap[b]?)(q:w.heap.size≤w'.heap.size)(r:w'.tape=w.tape)(o:w'.os=w.os)(p:w'.output=w.output)(l:sj S d w')(f:∀ b,O b→b<w0.heap.size∨b=bb∨b=fb→d b)(j:∀ b,S b→¬ d b):p8 S d w0 w' N cb n cap kb nk ck eb ne ce x bb fb:=
 ⟨⟨o.trans h.FX.os,r.trans h.FX.tape,p.trans h.FX.output,R4 h.FX.size q,fun b c=>(m b c).trans (h.FX.block b c)⟩,fun b c=>(h.low b c).imp (fun h=>h) (fun h=>f b h (.inl c)),l,j,f bb h.ob (.inr (.inl rfl)),f fb h.of (.inr (.inr rfl)),h.lb,h.lf,(g bb (.inr h.ob) h.lb (.inl rfl)).trans h.hb,(g fb (.inr h.of) h.lf (.inr rfl)).trans h.hf⟩
theorem p8.new(h:p8 S O w0 w N cb n cap kb nk ck eb ne ce x bb fb){f:Nat}(g:w.heap.size≤f)(l:w'.heap.size=f+1)(d:RelB (fun b=>S b∨O b) w w'):p8 S (fun b=>O b∨b=f) w0 w' N cb n cap kb nk ck eb ne ce x bb fb:=
 h.rel (fun b c _ _=>d.at_ b c) (fun b c=>d.at_ b (h.low b c)) d.size d.tape d.os d.output (h.inr.new g l) (fun b c _=>.inl c) (fun b c j=>j.elim (h.qd b c) (fun e=>by have:=h.inr b (.inl c);omega))
theorem p8.set(h:p8 S O w0 w N cb n cap kb nk ck eb ne ce x bb fb){f:Nat}{l:UQ}(b:yC S O f l w w')(h1:f≠bb)(g:f≠fb)(m:w0.heap.size≤f):p8 S O w0 w' N cb n cap kb nk ck eb ne ce x bb fb:=
 h.rel (fun c d _ j=>b.at_ c d (by rcases j with rfl|rfl;exact fun e=>h1 e.symm;exact fun e=>g e.symm)) (fun c d=>b.at_ c (h.low c d) (by omega)) b.size b.tape b.os b.output (h.inr.set b) (fun c d _=>d) h.qd
end
def zE (fn:Uj):Array Te:=match cO fn with
 | .seq _ (.seq _ (.seq (.block _ (.seq _ (.seq _ (.cond _ (.seq _ (.region _ b _)) _)))) _))=>b
 |_=> #[]
def QV (ct fb bb i c N cb n cap kb nk ck eb ne ce m:Nat)(x:RB):List (Nat×RB):=
 [(29,.slice (Ry ⟨ct,0,RA⟩) m m),(30,.int .i64 (i:Int)),(31,.pointer (Ry ⟨ct,0+i*1,RA⟩)),(32,.chan (Ry c)),(33,nY (N:Int) cb n cap),(34,n7 kb nk ck eb ne ce x),(35,.int .i64 (i:Int))]
def QU:List Nat:=[29,30,31,32,33,34,35]
theorem F4:fK (zE SB) (fun i=>decide (i<7)) 7 73 QU=RF:=by kernel_rfl
theorem M1:((Sw (zE SB).size).all fun i=> !(fun i=>decide (i≤7)) i || i == 7 || (under (zE SB) (zE SB).size (match (zE SB)[7]? with
 |some o=>(o.after.toList.filter fun e=>S4 .any e).map (·.on)
 |none=>[])).contains i)=RF:=by kernel_rfl
theorem mR:(Rz.info? 139).map (·.size)=Ry 2:=by kernel_rfl
theorem zD:(Rz.info? 105).map (·.size)=Ry 3:=by kernel_rfl
theorem G4:(Rz.info? 193).map (·.size)=Ry 1:=by kernel_rfl
section
variable {S O:Nat→Prop}{w0 w w':RD}{s:Nat→ByteArray}{k e:Nat→Int}{N cb n cap kb nk ck eb ne ce wb fh:Nat}{x:RB}{ws:List Bool}{V:Nat→List aD}{ch:Nat→Nat}{bb fb ct i:Nat}{μ:Nat→Option (List RB)}{a:TZ}{Post:RB→RD→Prop}{cs:List RU}
structure GM(S O:Nat→Prop)(w0 w:RD)(N cb n cap kb nk ck eb ne ce:Nat)(x:RB)(wb fh:Nat)(ws:List Bool)(V:Nat→List aD)(ch:Nat→Nat)(bb fb ct i:Nat)(μ:Nat→Option (List RB))(a:TZ):Prop where
 kn:Knows a 73 [(16,.int .i64 (i:Int)),(15,.int .i64 (ws.length:Int)),(8,.slice (Ry ⟨ct,0,RA⟩) ws.length ws.length),(4,.pointer (Ry ⟨fb,0,RA⟩)),(3,.pointer (Ry ⟨bb,0,RA⟩)),(2,.slice (Ry ⟨wb,0,RA⟩) ws.length fh)]
 df:a.defers=[]
 own:p8 S O w0 w N cb n cap kb nk ck eb ne ce x bb fb
 oc:O ct
 lc:w0.heap.size≤ct
 cb:ct≠bb
 cf:ct≠fb
 hc:w.heap[ct]? =Ry (.cells (dX ws ch i).toArray 193 (0,0))
 Re:PW O w ws V ch 0 i μ
theorem AF(h:ws[i]? ≠Ry RF):dX ws ch (i+1)=dX ws ch i:=by
 unfold dX;refine List.map_congr_left fun b f=>?_;by_cases e:b=i
 ·subst e;simp[h]
 ·have:(b<i+1∧ws[b]? =Ry RF)↔(b<i∧ws[b]? =Ry RF):=by
   constructor
   ·rintro⟨d,c⟩;exact⟨by omega,c⟩
   ·rintro⟨d,c⟩;exact⟨by omega,c⟩
  simp only[this]
theorem Ce(h:ws[i]? =Ry RF)(c:Nat):(dX ws ch i).take i ++ [Value.chan (Ry c)] ++ (dX ws ch i).drop (i+1)=dX ws (fun j=>if j=i then c else ch j) (i+1):=by
 have m:i<ws.length:=(R8.1 h).1;apply List.ext_getElem?;intro j;rcases Ts j ws.length with b|b
 ·rw[lE b];rcases Nat.lt_trichotomy j i with d|d|d
  ·rw[R9,S7 (by simp[dm];omega),TJ,if_pos d,lE b];have e:(j<i+1∧ws[j]? =Ry RF)↔(j<i∧ws[j]? =Ry RF):=⟨fun h=>⟨d,h.2⟩,fun h=>⟨by omega,h.2⟩⟩;have f:¬ j=i:=by omega
   simp only[e,f,if_false]
  ·subst d;rw[R9,SX (by simp[dm];omega)];simp[dm,h,Nat.min_eq_left (Nat.le_of_lt b)]
  ·rw[SX (by simp[dm];omega)];have g:i+1+(j - (min i ws.length+1))=j:=by omega
   simp only[RI,Tb,dm,TA,List.length_nil,List.getElem?_drop,g,lE b];have f:¬ (j<i):=by omega
   have l:¬ (j<i+1):=by omega
   simp only[f,l,false_and,if_false]
 ·rw[List.getElem?_eq_none (by simp[dm];omega),List.getElem?_eq_none (by rw[dm];exact b)]
theorem go_skip(j:D2 S w0 s k e N cb n kb nk eb ne wb ws V)(h:GM S O w0 w N cb n cap kb nk ck eb ne ce x wb fh ws V ch bb fb ct i μ a)(o:ws[i]? =Ry RE)
 (G:∀ a',GM S O w0 w N cb n cap kb nk ck eb ne ce x wb fh ws V ch bb fb ct (i+1) μ a'→jy (aa.of Rz) Rz Post S O μ (RN ((base 78).at a' [.code (cO SB),.inLoop (cO SB),.inBlock 0,.code (gb SB)]) cs) w):
 jy (aa.of Rz) Rz Post S O μ (RN ((base 78).at a [.code (cO SB),.inLoop (cO SB),.inBlock 0,.code (gb SB)]) cs) w:=by
 obtain⟨b,D,p,J,H,B,C,F,l⟩:=h;have c:=dw (aa.of Rz) Rz Post S μ;have I:i<ws.length:=(R8.1 o).1;have L:=j.mm;refine aM c ?_;refine aX c [0] rfl ?_;refine ak c (by decide) rfl rfl (.bool RF) (iE rfl (b.of rfl) (b.of rfl) (by simp;omega)) ?_;replace b:=b.put (d:=17) (by decide) (.bool RF);refine aj c ?_;refine aM c ?_;refine cN c RF (b.of rfl) ?_;refine gB c ?_;refine aM c ?_;refine fG c ?_;refine aM c ?_;refine aX c [0,1] rfl ?_;refine ak c (by decide) rfl rfl _ (ay rfl (b.of rfl)) ?_;replace b:=b.put (d:=18) (by decide) (.int .i64 (i:Int));refine ak c (by decide) rfl rfl _ (aG rfl (b.of rfl)) ?_;replace b:=b.put (d:=9) (by decide) (.int .i64 (i:Int));refine aj c ?_;refine aM c ?_;refine aX c [0,1,2,3] rfl ?_;refine ak c (by decide) rfl rfl _ (ay rfl (b.of rfl)) ?_;replace b:=b.put (d:=19) (by decide) (.slice (Ry ⟨wb,0,RA⟩) ws.length fh);refine ak c (by decide) rfl rfl _ (ay rfl (b.of rfl)) ?_;replace b:=b.put (d:=20) (by decide) (.int .i64 (i:Int));refine ak c (by decide) rfl rfl _ (eM rfl (b.of rfl) (b.of rfl) Ua Tryz.sizeOf4 I) ?_;replace b:=b.put (d:=21) (by decide) (.pointer (Ry ⟨wb,0+i*1,RA⟩));refine ej c (by decide) rfl rfl _ (bM rfl (b.of rfl) Tryz.isAgg4 (p.low wb j.wl) ((p.FX.cell (p:=⟨wb,0+i*1,RA⟩) j.wl).trans (j.wc i _ o))) ?_;replace b:=b.put (d:=22) (by decide) (.bool RE);refine aj c ?_;refine cN c RE (b.of rfl) ?_;refine gB c ?_;refine gP c ?_;refine aX c [0,1] rfl ?_;refine ak c (by decide) rfl rfl _ (mJ (j:=1) rfl (b.of rfl) rfl (by omega)) ?_;replace b:=b.put (d:=36) (by decide) (.int .i64 ((i+1:Nat):Int));refine ak c (by decide) rfl rfl _ (ay rfl (b.of rfl)) ?_;replace b:=b.put (d:=16) (by decide) (.int .i64 ((i+1:Nat):Int));refine aj c ?_;refine j3 c ?_;have g:ws[i]? ≠Ry RF:=by rw[o];simp
 refine G _ ⟨(((((b.nil.cons (b.slot 2 _ rfl)).cons (b.slot 3 _ rfl)).cons (b.slot 4 _ rfl)).cons (b.slot 8 _ rfl)).cons (b.slot 15 _ rfl)).cons (b.slot 16 _ rfl),by simp only[put_defers];exact D,p,J,H,B,C,by rw[AF g];exact F,⟨fun d v q f=>?_,fun u A=>?_,fun d t q K f r E=>?_,fun d q f=>?_⟩⟩
 ·exact l.mu d v (by rcases Ts d i with h|h;exact h;have:d=i:=(by omega);subst this;exact absurd f g) f
 ·obtain⟨d,m,y,z⟩:=l.no u A;exact⟨d,m,by omega,z⟩
 ·have m:d≠i:=fun e=>g (e▸f);have y:t≠i:=fun e=>g (e▸r);exact l.inj d t (by omega) (by omega) f r E
 ·have m:d≠i:=fun e=>g (e▸f);exact l.lt d (by omega) f
end
section
variable {S O:Nat→Prop}{w0 w w':RD}{s:Nat→ByteArray}{k e:Nat→Int}{N cb n cap kb nk ck eb ne ce wb fh:Nat}{x:RB}{ws:List Bool}{V:Nat→List aD}{ch:Nat→Nat}{bb fb ct i:Nat}{μ:Nat→Option (List RB)}{a:TZ}{Post:RB→RD→Prop}{cs:List RU}{kk:List Uk}
theorem go_region{c:Nat}{l0:List (Nat×RB)}(t:D2 S w0 s k e N cb n kb nk eb ne wb ws V)(z:ws[i]? =Ry RF)
 (q:Knows a 73 ((9,.int .i64 (i:Int)) :: (8,.slice (Ry ⟨ct,0,RA⟩) ws.length ws.length) :: (4,.pointer (Ry ⟨fb,0,RA⟩)) :: (3,.pointer (Ry ⟨bb,0,RA⟩)) :: l0))
 (m:p8 S O w0 w N cb n cap kb nk ck eb ne ce x bb fb) (U:O ct) (L:O c) (M:w.cell? ⟨ct,0+i*1,RA⟩=Ry (.chan (Ry c))) (Y:μ c=RA) (P:w.heap[c]? =Ry (.chan N #[] RE 0 0 RE))
 (Q:∀ a',Knows a' 73 (QV ct fb bb i c N cb n cap kb nk ck eb ne ce ws.length x ++ ((9,.int .i64 (i:Int)) :: (8,.slice (Ry ⟨ct,0,RA⟩) ws.length ws.length) :: (4,.pointer (Ry ⟨fb,0,RA⟩)) :: (3,.pointer (Ry ⟨bb,0,RA⟩)) :: l0))→a'.defers=a.defers→
   jy (aa.of Rz) Rz Post S (fun b=>O b∧b≠c) (fy μ c (Ry ((V i).map aD.agg))) (RN ((base 78).at a' kk) cs) w):
 jy (aa.of Rz) Rz Post S O μ (RN ((base 78).at a (.code (.region 7 (zE SB) RF) :: kk)) cs) w:=by
 have u:=dw (aa.of Rz) Rz Post S μ;have R:i<ws.length:=(R8.1 z).1;have H:w.rangeAt bb 0 [TW .i64 (N:Int),.slice (Ry ⟨cb,0,RA⟩) n cap]:=fun d v l=>by unfold R2;simp only[m.hb];rw[SA];simpa using l
 have I:w.rangeAt fb 0 [SS (Ry ⟨kb,0,RA⟩) nk ck,.slice (Ry ⟨eb,0,RA⟩) ne ce,x]:=fun d v l=>by unfold R2;simp only[m.hf];rw[SA];simpa using l
 refine pq (Ph:=fun i=>decide (i<7)) (l:=QV ct fb bb i c N cb n cap kb nk ck eb ne ce ws.length x) u pZ ?_;refine jN (u:=7) u (by decide) q F4 ?_ ?_ ?_
 ·intro f d j W _ _ g;have l:d<7:=by simpa using W
  have:d=0∨d=1∨d=2∨d=3∨d=4∨d=5∨d=6:=by omega
  rcases this with rfl|rfl|rfl|rfl|rfl|rfl|rfl
  ·cases(show Ry _=Ry j from g);exact⟨_,rfl,.inl ⟨rfl,bV (ay rfl (f.of rfl))⟩⟩
  ·cases(show Ry _=Ry j from g);exact⟨_,rfl,.inl ⟨rfl,bV (ay rfl (f.of rfl))⟩⟩
  ·cases(show Ry _=Ry j from g);exact⟨_,rfl,.inl ⟨rfl,bV (eM rfl (f.of rfl) (f.of rfl) Tryz.underlying192 Tryz.sizeOf193 R)⟩⟩
  ·cases(show Ry _=Ry j from g);exact⟨_,rfl,.inl ⟨rfl,bM rfl (f.of rfl) Tryz.isAgg193 (.inr U) M⟩⟩
  ·cases(show Ry _=Ry j from g);exact⟨_,rfl,.inl ⟨rfl,eF (cs:=[TW .i64 (N:Int),.slice (Ry ⟨cb,0,RA⟩) n cap]) rfl (f.of rfl) TI rfl mR (.inr m.ob) H⟩⟩
  ·cases(show Ry _=Ry j from g);exact⟨_,rfl,.inl ⟨rfl,eF (cs:=[SS (Ry ⟨kb,0,RA⟩) nk ck,.slice (Ry ⟨eb,0,RA⟩) ne ce,x]) rfl (f.of rfl) Tryz.underlying105 rfl zD (.inr m.of) I⟩⟩
  ·cases(show Ry _=Ry j from g);exact⟨_,rfl,.inl ⟨rfl,bV (ay rfl (f.of rfl))⟩⟩
 ·intro j g Z ae ad b y A ab p _;have f:=q.fill (QV ct fb bb i c N cb n cap kb nk ck eb ne ce ws.length x) rfl;have r:=fM (Dn:=fun i=>decide (i≤7)) y A M1 (fun d l=>by
   have:d≤7:=by simpa using l
   show d<8;omega)
  cases(show Ry _=Ry j from g);obtain⟨J,K⟩:=mV y A rfl q.size F4 (fun d l=>r d (by
   have:d<8:=l;simp;omega))
  have D:b.eval (.tmp 32)= .chan (Ry c):=(p 32 (by decide)).trans (f.slot 32 _ rfl);have E:b.eval (.tmp 33)=nY (N:Int) cb n cap:=(p 33 (by decide)).trans (f.slot 33 _ rfl);have F:b.eval (.tmp 34)=n7 kb nk ck eb ne ce x:=(p 34 (by decide)).trans (f.slot 34 _ rfl);have G:b.eval (.tmp 35)= .int .i64 (i:Int):=(p 35 (by decide)).trans (f.slot 35 _ rfl);obtain⟨X,T,C⟩:=t.sin i z;refine Nc (args:= #[.chan (Ry c),nY (N:Int) cb n cap,n7 kb nk ck eb ne ce x,.int .i64 (i:Int)]) (vs:=(V i).map aD.agg) (cap:=N) (by decide) g rfl rfl (by simp only[List.map_toArray,UP,List.map_nil,D,E,F,G]) L ?_ Y P (fun al B=>?_) ?_
  ·rw[Sy];rcases C.len with h|h
   ·omega
   ·rw[h];exact Sk _
  ·refine LF C T ⟨fun b o=>⟨RK (m.inr b (.inl o)) B.size,fun h=>h⟩,fun b h=>h.elim⟩ (X.rel fun b o=>?_);rw[B.at_ b (.inl o)];exact m.FX.block b (t.sz b o)
  ·rw[K];show jy _ _ Post S _ _ (RN ((base 78).at b _) cs) w;rw[J];exact aj (dw (aa.of Rz) Rz Post S _) (Q _ f (dR _ _))
 ·intro r;exact absurd (r 7 (by decide)) (by decide)
theorem go_round(r:D2 S w0 s k e N cb n kb nk eb ne wb ws V)(h:GM S O w0 w N cb n cap kb nk ck eb ne ce x wb fh ws V ch bb fb ct i μ a)(t:ws[i]? =Ry RF)
 (aw:∀ F w' a' T R,GM S F w0 w' N cb n cap kb nk ck eb ne ce x wb fh ws V T bb fb ct (i+1) R a'→jy (aa.of Rz) Rz Post S F R (RN ((base 78).at a' [.code (cO SB),.inLoop (cO SB),.inBlock 0,.code (gb SB)]) cs) w'):
 jy (aa.of Rz) Rz Post S O μ (RN ((base 78).at a [.code (cO SB),.inLoop (cO SB),.inBlock 0,.code (gb SB)]) cs) w:=by
 obtain⟨b,al,j,u,K,H,I,ao,l⟩:=h;have c:=dw (aa.of Rz) Rz Post S μ;have D:i<ws.length:=(R8.1 t).1;have bd:=r.mm;have be:=r.nn;obtain⟨bj,ar,_,_,ad⟩:=vC;refine aM c ?_;refine aX c [0] rfl ?_;refine ak c (by decide) rfl rfl (.bool RF) (iE rfl (b.of rfl) (b.of rfl) (by simp;omega)) ?_;replace b:=b.put (d:=17) (by decide) (.bool RF);refine aj c ?_;refine aM c ?_;refine cN c RF (b.of rfl) ?_;refine gB c ?_;refine aM c ?_;refine fG c ?_;refine aM c ?_;refine aX c [0,1] rfl ?_;refine ak c (by decide) rfl rfl _ (ay rfl (b.of rfl)) ?_;replace b:=b.put (d:=18) (by decide) (.int .i64 (i:Int));refine ak c (by decide) rfl rfl _ (aG rfl (b.of rfl)) ?_;replace b:=b.put (d:=9) (by decide) (.int .i64 (i:Int));refine aj c ?_;refine aM c ?_;refine aX c [0,1,2,3] rfl ?_;refine ak c (by decide) rfl rfl _ (ay rfl (b.of rfl)) ?_;replace b:=b.put (d:=19) (by decide) (.slice (Ry ⟨wb,0,RA⟩) ws.length fh);refine ak c (by decide) rfl rfl _ (ay rfl (b.of rfl)) ?_;replace b:=b.put (d:=20) (by decide) (.int .i64 (i:Int));refine ak c (by decide) rfl rfl _ (eM rfl (b.of rfl) (b.of rfl) Ua Tryz.sizeOf4 D) ?_;replace b:=b.put (d:=21) (by decide) (.pointer (Ry ⟨wb,0+i*1,RA⟩));refine ej c (by decide) rfl rfl _ (bM rfl (b.of rfl) Tryz.isAgg4 (j.low wb r.wl) ((j.FX.cell (p:=⟨wb,0+i*1,RA⟩) r.wl).trans (r.wc i _ t))) ?_;replace b:=b.put (d:=22) (by decide) (.bool RF);refine aj c ?_;refine cN c RF (b.of rfl) ?_;refine aM c ?_;refine aX c [0,1,2,3,4,5,6] rfl ?_;refine ak c (by decide) rfl rfl _ (ay rfl (b.of rfl)) ?_;replace b:=b.put (d:=23) (by decide) (.slice (Ry ⟨ct,0,RA⟩) ws.length ws.length);refine ak c (by decide) rfl rfl _ (ay rfl (b.of rfl)) ?_;replace b:=b.put (d:=24) (by decide) (.int .i64 (i:Int));refine ak c (by decide) rfl rfl _ (cK (off':=0) rfl (b.of rfl) TI rfl Vi rfl) ?_;replace b:=b.put (d:=25) (by decide) (.pointer (Ry ⟨bb,0,RA⟩));refine ej c (by decide) rfl rfl (.int .i64 (N:Int)) (bM rfl (b.of rfl) VG (.inr j.ob) (by unfold R2;simp only[j.hb];rfl)) ?_;replace b:=b.put (d:=26) (by decide) (.int .i64 (N:Int));refine kM c j.inr (by decide) rfl rfl (.chan N #[] RE 0 0 RE) trivial (fun n=>.chan (Ry n)) (CR rfl (b.of rfl) Tryz.underlying193 ar (by omega) (by rw[ad];omega)) fun f bo a1 a4 hrel ab=>?_;replace b:=b.put (d:=27) (by decide) (.chan (Ry f));have L:=j.new a1 a4 hrel;refine ak c (by decide) rfl rfl _ (eM rfl (b.of rfl) (b.of rfl) Tryz.underlying192 Tryz.sizeOf193 D) ?_;replace b:=b.put (d:=28) (by decide) (.pointer (Ry ⟨ct,0+i*1,RA⟩));have ba:=j.inr ct (.inr u);have J:f≠ct:=by omega
 have U:(dX ws ch i).toArray.toList.take (0+i*1) ++ (Value.chan (Ry f)).cells.toList ++ (dX ws ch i).toArray.toList.drop (0+i*1+(Value.chan (Ry f)).cells.size)=dX ws (fun d=>if d=i then f else ch d) (i+1):=by
  rw[← Ce t f];simp[Ub]
 refine qP c L.inr (n:=ct) (by decide) rfl rfl (.inl u) (.cells ((dX ws ch i).toArray.toList.take (0+i*1) ++ (Value.chan (Ry f)).cells.toList ++ (dX ws ch i).toArray.toList.drop (0+i*1+(Value.chan (Ry f)).cells.size)).toArray 193) trivial (j8 (n:=ct) (off:=0+i*1) (v:=.chan (Ry f)) rfl (b.of rfl) (b.of rfl) G4 (fun bm M=>by simp[Ub] at M;rw[M];rfl) (Or.inr (UD u)) ((hrel.at_ ct (.inr u)).trans ao) (by
  show 0+i*1+1≤(dX ws ch i).length;rw[dm];omega)) fun Q v=>?_
 rw[U] at v;replace b:=b.none SP;have A:=L.set v H I K;refine aj c ?_;have ae:Q.heap[f]? =Ry (.chan N #[] RE 0 0 RE):=(v.at_ f (.inr (.inr rfl)) J).trans ab;have a5:μ f=RA:=by
  cases a0:μ f with
  |none=>rfl
  |some bl=>
   obtain⟨d,_,z,m,y⟩:=l.no f (by rw[a0];simp);have:=l.lt d z m;omega
 have bi:=v.size;refine go_region (c:=f) (l0:=[(16,.int .i64 (i:Int)),(15,.int .i64 (ws.length:Int)),(2,.slice (Ry ⟨wb,0,RA⟩) ws.length fh)]) r t ((((((((b.nil.cons (b.slot 2 _ rfl)).cons (b.slot 15 _ rfl)).cons (b.slot 16 _ rfl)).cons (b.slot 3 _ rfl)).cons (b.slot 4 _ rfl)).cons (b.slot 8 _ rfl)).cons (b.slot 9 _ rfl))) A (.inl u) (.inr rfl) ?_ a5 ae fun a' g am=>?_
 ·unfold R2;rw[v.set];simp only[SA,Vs];have:=lE (ws:=ws) (ch:=fun d=>if d=i then f else ch d) (i:=i+1) D;simp[t] at this;simpa using this
 ·have c:=dw (aa.of Rz) Rz Post S (fy μ f (Ry ((V i).map aD.agg)));refine gP c ?_;refine aX c [0,1] rfl ?_;refine ak c (by decide) rfl rfl _ (mJ (j:=1) rfl (g.of rfl) rfl (by omega)) ?_;replace g:=g.put (d:=36) (by decide) (.int .i64 ((i+1:Nat):Int));refine ak c (by decide) rfl rfl _ (ay rfl (g.of rfl)) ?_;replace g:=g.put (d:=16) (by decide) (.int .i64 ((i+1:Nat):Int));refine aj c ?_;refine j3 c ?_;refine aw _ Q _ (fun d=>if d=i then f else ch d) _ ⟨(((((g.nil.cons (g.slot 2 _ rfl)).cons (g.slot 3 _ rfl)).cons (g.slot 4 _ rfl)).cons (g.slot 8 _ rfl)).cons (g.slot 15 _ rfl)).cons (g.slot 16 _ rfl),by simp only[put_defers];rw[am];simp only[put_defers];exact al,?_,⟨.inl u,fun e=>J e.symm⟩,K,H,I,v.set,⟨fun d W z m=>?_,fun G C=>?_,fun d E z bc m P y=>?_,fun d z m=>?_⟩⟩
  ·have a6:=j.inr bb (.inr j.ob);have a7:=j.inr fb (.inr j.of);have a8:=j.FX.size;exact A.rel (fun p o _ _=>rfl) (fun p o=>rfl) (RG _) rfl rfl rfl (fun p o=>A.inr p (o.imp (fun h=>h) (fun h=>h.1))) (fun p o h=>⟨o,by rcases h with h|rfl|rfl<;>omega⟩) (fun p o a3=>A.qd p o a3.1)
  ·by_cases e:d=i
   ·subst e;simp[fy]
   ·have:=l.lt d (by omega) m;have a2:ch d≠f:=by omega
    simp only[if_neg e,fy,a2,if_false];exact l.mu d W (by omega) m
  ·by_cases e:G=f
   ·subst e;exact⟨i,Sk _,by omega,t,by simp⟩
   ·unfold fy at C;rw[if_neg e] at C;obtain⟨d,X,a9,Y,Z⟩:=l.no G C;exact⟨d,X,by omega,Y,by rw[if_neg (by omega)];exact Z⟩
  ·by_cases q:d=i<;>by_cases B:E=i
   ·omega
   ·rw[if_pos q,if_neg B] at y;have:=l.lt E (by omega) P;omega
   ·rw[if_neg q,if_pos B] at y;have:=l.lt d (by omega) m;omega
   ·rw[if_neg q,if_neg B] at y;exact l.inj d E (by omega) (by omega) m P y
  ·by_cases q:d=i
   ·rw[if_pos q];omega
   ·rw[if_neg q];have:=l.lt d (by omega) m;omega
end
def eG (ws:List Bool)(g:Nat→Nat)(V:Nat→List aD)(N:Nat)(i:Nat):List RB:=(Sw ws.length).map fun a=>if a<i∧ws[a]? =Ry RF then .slice (Ry ⟨g a,0,RA⟩) (V a).length N else .slice RA 0 0
theorem dy(ws:List Bool)(g:Nat→Nat)(V:Nat→List aD)(N:Nat)(i:Nat):(eG ws g V N i).length=ws.length:=by simp[eG]
theorem lM{ws:List Bool}{g:Nat→Nat}{V:Nat→List aD}{N:Nat}{i j:Nat}(a:j<ws.length):(eG ws g V N i)[j]? =Ry (if j<i∧ws[j]? =Ry RF then .slice (Ry ⟨g j,0,RA⟩) (V j).length N else .slice RA 0 0):=by
 simp[eG,a]
section
variable {ws:List Bool}{g:Nat→Nat}{V:Nat→List aD}{N i:Nat}
theorem AV(h:ws[i]? ≠Ry RF):eG ws g V N (i+1)=eG ws g V N i:=by
 unfold eG;refine List.map_congr_left fun a e=>?_;by_cases c:a=i
 ·subst c;simp[h]
 ·have:(a<i+1∧ws[a]? =Ry RF)↔(a<i∧ws[a]? =Ry RF):=by
   constructor
   ·rintro⟨d,b⟩;exact⟨by omega,b⟩
   ·rintro⟨d,b⟩;exact⟨by omega,b⟩
  simp only[this]
theorem CF(h:ws[i]? =Ry RF)(c:Nat):(eG ws g V N i).take i ++ [SS (Ry ⟨c,0,RA⟩) (V i).length N] ++ (eG ws g V N i).drop (i+1)=eG ws (fun j=>if j=i then c else g j) V N (i+1):=by
 have l:i<ws.length:=(R8.1 h).1;apply List.ext_getElem?;intro j;rcases Ts j ws.length with a|a
 ·rw[lM a];rcases Nat.lt_trichotomy j i with b|b|b
  ·rw[R9,S7 (by simp[dy];omega),TJ,if_pos b,lM a];have e:(j<i+1∧ws[j]? =Ry RF)↔(j<i∧ws[j]? =Ry RF):=⟨fun h=>⟨b,h.2⟩,fun h=>⟨by omega,h.2⟩⟩;have d:¬ j=i:=by omega
   simp only[e,d,if_false]
  ·subst b;rw[R9,SX (by simp[dy];omega)];simp[dy,h,Nat.min_eq_left (Nat.le_of_lt a)]
  ·rw[SX (by simp[dy];omega)];have f:i+1+(j - (min i ws.length+1))=j:=by omega
   simp only[RI,Tb,dy,TA,List.length_nil,List.getElem?_drop,f,lM a];have d:¬ (j<i):=by omega
   have k:¬ (j<i+1):=by omega
   simp only[d,k,false_and,if_false]
 ·rw[List.getElem?_eq_none (by simp[dy];omega),List.getElem?_eq_none (by rw[dy];exact a)]
end
def mr (fn:Uj):UR:=match gb fn with
 | .seq _ (.seq _ (.seq (.seq _ (.block _ (.loop a))) _))=>a
 |_=>.skip
def Ez (fn:Uj):UR:=match gb fn with
 | .seq _ (.seq _ (.seq _ a))=>a
 |_=>.skip
def fH (fn:Uj):Array Te:=match mr fn with
 | .seq _ (.seq _ (.seq (.block _ (.seq _ (.seq _ (.cond _ (.seq (.region _ a _) _) _)))) _))=>a
 |_=> #[]
def wW (fn:Uj):Array Te:=match mr fn with
 | .seq _ (.seq _ (.seq (.block _ (.seq _ (.seq _ (.cond _ (.seq _ (.region _ a _)) _)))) _))=>a
 |_=> #[]
def J0:List Nat:=[49,50,51,52,53,54,55,56]
def zo (lb ct bb i c N m:Nat):List (Nat×RB):=[(49,.slice (Ry ⟨lb,0,RA⟩) m m),(50,.int .i64 (i:Int)),(51,.slice (Ry ⟨ct,0,RA⟩) m m),(52,.int .i64 (i:Int)),(53,.pointer (Ry ⟨ct,0+i*1,RA⟩)),(54,.chan (Ry c)),(55,.pointer (Ry ⟨bb,0,RA⟩)),(56,.int .i64 (N:Int))]
def B7 (lb gn len i N:Nat):List (Nat×RB):=[(57,.slice (Ry ⟨gn,0,RA⟩) len N),(58,.pointer (Ry ⟨lb,0+i*1,RA⟩))]
theorem zq:fK (fH SB) (fun i=>decide (i<8)) 8 73 J0=RF:=by kernel_rfl
theorem zu:fK (fH SB) (fun i=>decide (i<10)) 10 73 ([57,58] ++ J0)=RF:=by kernel_rfl
theorem J1:((Sw (fH SB).size).all fun i=> !(fun i=>decide (i<8)) i || match iQ (fH SB) i with|some d=> !([57,58]:List Nat).contains d|none=>RF)=RF:=by kernel_rfl
theorem Ej:((Sw (fH SB).size).all fun i=> !(fun i=>decide (2≤i∧i≤8)) i || i == 8 || (under (fH SB) (fH SB).size (match (fH SB)[8]? with
 |some o=>(o.after.toList.filter fun e=>S4 .any e).map (·.on)
 |none=>[])).contains i)=RF:=by kernel_rfl
theorem Ek:((Sw (fH SB).size).all fun i=> !(fun i=>decide (i≤10)) i || i == 10 || (under (fH SB) 3 (match (fH SB)[10]? with
 |some o=>(o.after.toList.filter fun e=>S4 .any e).map (·.on)
 |none=>[])).contains i)=RF:=by kernel_rfl
theorem Ju:(U6.name == "runtime.NumGoroutine")=RE:=by kernel_rfl
theorem Ii:(Rz.info? 43).map (·.size)=Ry 1:=by kernel_rfl
end Cc
end Go.Proofs.YtjidbonhhpkljaaGreat
