/- What the proof stands on, in short names. -/
import Derived.Test.YtjidbonhhpkljaaGreatMd

set_option linter.all false
open Array renaming getD_eq_getD_getElem? → Se, getElem?_eq_none → SZ, getElem?_eq_some_iff → RH, getElem?_push → Sp, getElem?_setIfInBounds → Ss, length_toList → TL, range → Vg, replicate → SN, size_push → Tx
open Bool renaming and_eq_true → R7, false → RE, false_eq_true → Sa, true → RF
open Classical renaming byContradiction → TE, choose → S0, choose_spec → RY
open False renaming elim → Vt
open Go renaming Act → TZ, Addr → Sl, Calls → Sc, Code → UR, Ending → Uw, Frame → RU, Func → Uj, FuncId → TH, Item → Uk, Oper → Te, Operand → SG, Program → RM, TypeId → RO, TypeInfo → Ur, Value → RB, World → RD, bodyPost → TV, execOp → Sd, heap_setCell_other → R6, heap_setCell_same → RZ, info_parts → S3, lt_of_block → RP, maxLen → R3, results → SD, sizeOf → VH, typeInfo → UE, undef → SP, wpList_append_fits → Tn, yielded → S2, zeroValue → TO
open Go.Addr renaming add → VN, add_mid → U2
open Go.Addr.mk renaming injEq → UO
open Go.Conc renaming G → RN
open Go.Ending.returned renaming inj → U0
open Go.Frame renaming enter → Sz, finish → TD, round → Up
open Go.Instr renaming buildSlice → Uq, fill → UZ
open Go.Lib renaming compareBytes → S8
open Go.Proofs.Tryz renaming f13 → Tz, f26 → VT, f53 → TU, f54 → Uy, f6 → VO, f78 → SB, f79 → T4, isAgg3 → VG, prog → Rz, sizeOf3 → Vi, underlying115 → T9, underlying139 → TI, underlying160 → Ua, underlying43 → UX
open Go.Region renaming binds → S4, wanted → Sn
open Go.Region.linearise renaming go → SJ
open Go.RowKit renaming Below → RQ, Hid → RJ, intOf → SC
open Go.RowKit.Below renaming heap_alloc → Sr, refl → R5
open Go.Sem renaming runT_eq → Vr
open Go.Value renaming cells → Ub, int → TW, ownBlock → Tf, slice → SS
open Go.Value.slice renaming injEq → T5
open Go.World renaming cell? → R2, frozen? → SH, ownsRow_nil → T6
open List renaming all_eq_true → Sf, append_assoc → R9, append_nil → Ud, drop_eq_getElem_cons → S6, eq_nil_of_length_eq_zero → Ta, getD_eq_getElem?_getD → RX, getElem?_append_left → S7, getElem?_append_right → SX, getElem?_eq_getElem → RS, getElem?_eq_some_iff → R8, getElem?_take → TJ, getElem_mem → RV, getElem_of_mem → To, getElem_take → Tj, length_append → RI, length_map → Sy, length_take → Tb, map_append → SQ, map_cons → UP, mem_append → SM, mem_cons → Tq, mem_map → S5, mem_of_getElem? → Td, mem_range → Tg, not_mem_nil → U7, range → Sw, range_succ → Vf, take_append_drop → Ul, take_of_length_le → SF, take_succ_eq_append_getElem → RR
open List.Sublist renaming refl → V8
open Nat renaming eq_zero_or_pos → UM, le_refl → RG, le_trans → R4, lt_of_lt_of_le → RK, lt_or_ge → Ts, mul_one → Vs, zero_add → SA, zero_le → Sk
open Option renaming map_some → TG, none → RA, some → Ry
open Option.some renaming inj → Vx, injEq → SY
open Prod renaming fst → Sb, snd → TK
set_option maxRecDepth 100000
set_option maxHeartbeats 8000000
namespace Go.Proofs.YtjidbonhhpkljaaGreat
namespace Cc
open Go Go.Conc
open Ec (aD aE)
open Go.RowKit (Below)
section
variable {S O:Nat→Prop}{w0 w w':RD}{s:Nat→ByteArray}{k e:Nat→Int}{N cb n cap kb nk ck eb ne ce wb fh:Nat}{x:RB}{ws:List Bool}{V:Nat→List aD}{ch:Nat→Nat}{bb fb ct lb i:Nat}{μ:Nat→Option (List RB)}{a:TZ}{Post:RB→RD→Prop}{cs:List RU}{kk:List Uk}
theorem p8.Qb(h:p8 S O w0 w N cb n cap kb nk ck eb ne ce x bb fb){f:Nat→Prop}(c:JE S O f w w'):p8 S f w0 w' N cb n cap kb nk ck eb ne ce x bb fb:=
 h.rel (fun b d _ _=>c.rel.at_ b d) (fun b d=>c.rel.at_ b (h.low b d)) c.rel.size c.rel.tape c.rel.os c.rel.output c.inr (fun b d _=>c.sub b d) (fun b d g=>(c.new b g).elim (h.qd b d) (fun e=>by have:=h.inr b (.inl d);omega))
theorem B8{c gn:Nat}{l0:List (Nat×RB)}{f:Array RB}(K:i<ws.length)
 (p:Knows a 73 ((10,.int .i64 (i:Int)) :: (8,.slice (Ry ⟨ct,0,RA⟩) ws.length ws.length) :: (6,.slice (Ry ⟨lb,0,RA⟩) ws.length ws.length) :: (3,.pointer (Ry ⟨bb,0,RA⟩)) :: l0))
 (H:sj S O w) (z:O lb) (J:w.heap[lb]? =Ry (.cells f 43 (0,0))) (G:f.size=ws.length) (len:Nat)
 (m t:Nat) (j:Array Bool) (b:TZ) (o:b8 (fH SB) (fun i=>decide (i<10)) a (fill a (B7 lb gn len i N ++ zo lb ct bb i c N ws.length)) j b) (u:∀ i,(fun i=>decide (2≤i∧i≤8)) i=RF→j.getD i RE=RF) (y:DL j≤m)
 (I:∀ w' a',yC S O lb (.cells (f.toList.take i ++ [SS (Ry ⟨gn,0,RA⟩) len N] ++ f.toList.drop (i+1)).toArray 43) w w'→Knows a' 73 (B7 lb gn len i N ++ zo lb ct bb i c N ws.length ++ ((10,.int .i64 (i:Int)) :: (8,.slice (Ry ⟨ct,0,RA⟩) ws.length ws.length) :: (6,.slice (Ry ⟨lb,0,RA⟩) ws.length ws.length) :: (3,.pointer (Ry ⟨bb,0,RA⟩)) :: l0))→a'.defers=a.defers→
   jy (aa.of Rz) Rz Post S O μ (RN ((base 78).at a' kk) cs) w'):
 jy (aa.of Rz) Rz Post S O μ (RN ((base 78).at b (.inRegion (fH SB) (SJ .any (fH SB) m t j []) :: kk)) cs) w:=by
 have q:=dw (aa.of Rz) Rz Post S μ;refine jN (Dn:=fun i=>decide (2≤i∧i≤8)) (u:=10) q (by decide) p zu ?_ ?_ ?_ m t j b o u y
 ·intro g d l L u R h;have P:d<10:=by simpa using L
  have Q:¬ (2≤d∧d≤8):=by simpa using u
  have:d=0∨d=1∨d=9:=by omega
  rcases this with rfl|rfl|rfl
  ·cases(show Ry _=Ry l from h);exact⟨_,rfl,.inl ⟨rfl,bV (ay rfl (g.of rfl))⟩⟩
  ·cases(show Ry _=Ry l from h);exact⟨_,rfl,.inl ⟨rfl,bV (ay rfl (g.of rfl))⟩⟩
  ·cases(show Ry _=Ry l from h);exact⟨_,rfl,.inl ⟨rfl,bV (eM rfl (g.of rfl) (g.of rfl) Tryz.underlying26 Tryz.sizeOf43 K)⟩⟩
 ·intro l h m t j b o A y T _;have g:=p.fill (B7 lb gn len i N ++ zo lb ct bb i c N ws.length) rfl;have r:=fM (Dn:=fun i=>decide (i≤10)) o A Ek (fun d v=>by
   have:d≤10:=by simpa using v
   show d<11;omega)
  cases(show Ry _=Ry l from h);obtain⟨E,F⟩:=mV o A rfl p.size zu (fun d v=>r d (by
   have:d<11:=v;simp;omega))
  rw[F];subst E;refine qP q H (n:=lb) (by decide) h rfl z (.cells (f.toList.take (0+i*1) ++ (SS (Ry ⟨gn,0,RA⟩) len N).cells.toList ++ f.toList.drop (0+i*1+(SS (Ry ⟨gn,0,RA⟩) len N).cells.size)).toArray 43) trivial (j8 (n:=lb) (off:=0+i*1) (v:=.slice (Ry ⟨gn,0,RA⟩) len N) rfl (g.of rfl) (g.of rfl) Ii (fun U C=>by simp[Ub] at C;rw[C];rfl) (Or.inr z) J (by
   show 0+i*1+1≤f.size;rw[G];omega)) fun M B=>?_
  refine aj q (I M _ ?_ (g.none SP) (by rw[put_defers];exact dR _ _));have D:f.toList.take (0+i*1) ++ (SS (Ry ⟨gn,0,RA⟩) len N).cells.toList ++ f.toList.drop (0+i*1+(SS (Ry ⟨gn,0,RA⟩) len N).cells.size)=f.toList.take i ++ [SS (Ry ⟨gn,0,RA⟩) len N] ++ f.toList.drop (i+1):=by simp[Ub]
  rw[D] at B;exact B
 ·intro r;exact absurd (r 10 (by decide)) (by decide)
theorem B9{c:Nat}{l0:List (Nat×RB)}{o:Array RB}(z:D2 S w0 s k e N cb n kb nk eb ne wb ws V)(A:ws[i]? =Ry RF)
 (m:Knows a 73 ((10,.int .i64 (i:Int)) :: (8,.slice (Ry ⟨ct,0,RA⟩) ws.length ws.length) :: (6,.slice (Ry ⟨lb,0,RA⟩) ws.length ws.length) :: (3,.pointer (Ry ⟨bb,0,RA⟩)) :: l0))
 (v:p8 S O w0 w N cb n cap kb nk ck eb ne ce x bb fb) (ab:O ct) (L:w.cell? ⟨ct,0+i*1,RA⟩=Ry (.chan (Ry c))) (ao:μ c=Ry ((V i).map aD.agg)) (D:O lb) (Z:w.heap[lb]? =Ry (.cells o 43 (0,0))) (M:o.size=ws.length)
 (X:∀ j l w' gn a',w.heap.size≤gn→Row l gn N (V i)→j gn→JE S O j w l→yC S j lb (.cells (o.toList.take i ++ [SS (Ry ⟨gn,0,RA⟩) (V i).length N] ++ o.toList.drop (i+1)).toArray 43) l w'→Knows a' 73 (B7 lb gn (V i).length i N ++ zo lb ct bb i c N ws.length ++ ((10,.int .i64 (i:Int)) :: (8,.slice (Ry ⟨ct,0,RA⟩) ws.length ws.length) :: (6,.slice (Ry ⟨lb,0,RA⟩) ws.length ws.length) :: (3,.pointer (Ry ⟨bb,0,RA⟩)) :: l0))→a'.defers=a.defers→
   jy (aa.of Rz) Rz Post S j (fy μ c RA) (RN ((base 78).at a' kk) cs) w'):
 jy (aa.of Rz) Rz Post S O μ (RN ((base 78).at a (.code (.region 15 (fH SB) RF) :: kk)) cs) w:=by
 have t:=dw (aa.of Rz) Rz Post S μ;have C:i<ws.length:=(R8.1 A).1;obtain⟨_,_,al⟩:=z.sin i A;refine pq (Ph:=fun i=>decide (i<8)) (l:=zo lb ct bb i c N ws.length) t pZ ?_;refine jN (u:=8) t (by decide) m zq ?_ ?_ ?_
 ·intro f b g ad _ _ d;have q:b<8:=by simpa using ad
  have:b=0∨b=1∨b=2∨b=3∨b=4∨b=5∨b=6∨b=7:=by omega
  rcases this with rfl|rfl|rfl|rfl|rfl|rfl|rfl|rfl
  ·cases(show Ry _=Ry g from d);exact⟨_,rfl,.inl ⟨rfl,bV (ay rfl (f.of rfl))⟩⟩
  ·cases(show Ry _=Ry g from d);exact⟨_,rfl,.inl ⟨rfl,bV (ay rfl (f.of rfl))⟩⟩
  ·cases(show Ry _=Ry g from d);exact⟨_,rfl,.inl ⟨rfl,bV (ay rfl (f.of rfl))⟩⟩
  ·cases(show Ry _=Ry g from d);exact⟨_,rfl,.inl ⟨rfl,bV (ay rfl (f.of rfl))⟩⟩
  ·cases(show Ry _=Ry g from d);exact⟨_,rfl,.inl ⟨rfl,bV (eM rfl (f.of rfl) (f.of rfl) Tryz.underlying192 Tryz.sizeOf193 C)⟩⟩
  ·cases(show Ry _=Ry g from d);exact⟨_,rfl,.inl ⟨rfl,bM rfl (f.of rfl) Tryz.isAgg193 (.inr ab) L⟩⟩
  ·cases(show Ry _=Ry g from d);exact⟨_,rfl,.inl ⟨rfl,bV (cK (off':=0) rfl (f.of rfl) TI rfl Vi rfl)⟩⟩
  ·cases(show Ry _=Ry g from d);exact⟨_,rfl,.inl ⟨rfl,bM rfl (f.of rfl) VG (.inr v.ob) (by unfold R2;simp only[v.hb];rfl)⟩⟩
 ·intro g d H ar a1 r u y a0 B _;have f:=m.fill (zo lb ct bb i c N ws.length) rfl;have R:=fM (Dn:=fun i=>decide (2≤i∧i≤8)) u y Ej (fun b q=>by
   have:2≤b∧b≤8:=by simpa using q
   show b<11;omega)
  cases(show Ry _=Ry g from d);have F:r.eval (.tmp 54)= .chan (Ry c):=(B 54 (by decide)).trans (f.slot 54 _ rfl);have G:r.eval (.tmp 56)= .int .i64 (N:Int):=(B 56 (by decide)).trans (f.slot 56 _ rfl);refine FY t (by decide) d rfl rfl Tryz.func117 Ju rfl ?_;have K:(#[Operand.tmp 54,.tmp 56].map r.eval)=#[.chan (Ry c),.int .i64 (N:Int)]:=by simp only[List.map_toArray,UP,List.map_nil,F,G]
  rw[K];refine J5 (r:=V i) d v.inr ao ?_ z.nn fun j l gn U ae I p=>?_
  ·rcases al.len with h|h
   ·omega
   ·rw[h];exact Sk _
  ·have T:=u.F5 (l2:=B7 lb gn (V i).length i N) (JC:=fun i=>decide (i<10)) (n:=73) (v:=.slice (Ry ⟨gn,0,RA⟩) (V i).length N) y d m.size zq rfl (fun b q=>by
    have:b<8:=by simpa using q
    simp;omega) rfl J1 (fun aw P=>by cases P;rfl)
   refine B8 (gn:=gn) (len:=(V i).length) (c:=c) C m p.inr (p.sub lb D) ((p.rel.at_ lb (.inr D)).trans Z) M H ar _ _ T R ?_ fun w' a' am E Q=>X j l w' gn a' U ae I p am E Q;obtain⟨_,_,W,Y,_⟩:=mem_ready y;have:=pW (by rw[u.size];exact W) Y;omega
 ·intro J;exact absurd (J 10 (by decide)) (by decide)
end
def O1:List Nat:=[59,60,61,62,63,64,65,66,67,68,69]
def QE (lb bb gn i len N m:Nat):List (Nat×RB):=[(59,.bool RF),(60,.bool RF),(61,.slice (Ry ⟨lb,0,RA⟩) m m),(62,.int .i64 (i:Int)),(63,.pointer (Ry ⟨lb,0+i*1,RA⟩)),(64,.slice (Ry ⟨gn,0,RA⟩) len N),(65,.int .i64 (len:Int)),(66,.pointer (Ry ⟨bb,0,RA⟩)),(67,.int .i64 (N:Int)),(68,.bool ((len:Int) == (N:Int))),(69,.bool ((len:Int) == (N:Int)))]
def okF:List (Nat×RB):=[(59,.bool RE),(60,.bool RE),(61,SP),(62,SP),(63,SP),(64,SP),(65,SP),(66,SP),(67,SP),(68,SP),(69,.bool RE)]
theorem vv:fK (wW SB) (fun i=>decide (i<11)) 11 73 O1=RF:=by kernel_rfl
theorem CO:((Sw (wW SB).size).all fun i=> !(fun i=>decide (i≤11)) i || i == 11 || (under (wW SB) 1 (match (wW SB)[11]? with
 |some o=>(o.after.toList.filter fun e=>S4 .any e).map (·.on)
 |none=>[])).contains i)=RF:=by kernel_rfl
section
variable {S O:Nat→Prop}{w0 w w':RD}{s:Nat→ByteArray}{k e:Nat→Int}{N cb n cap kb nk ck eb ne ce wb fh:Nat}{x:RB}{ws:List Bool}{V:Nat→List aD}{ch g:Nat→Nat}{bb fb ct lb i gn len:Nat}{μ:Nat→Option (List RB)}{a:TZ}{Post:RB→RD→Prop}{cs:List RU}{kk:List Uk}{js:Bool}
theorem CQ{l0:List (Nat×RB)}(F:i<ws.length)
 (o:Knows a 73 ((7,.bool js) :: (10,.int .i64 (i:Int)) :: (6,.slice (Ry ⟨lb,0,RA⟩) ws.length ws.length) :: (3,.pointer (Ry ⟨bb,0,RA⟩)) :: l0)) (L:sj S O w) (I:O lb) (H:O bb) (C:w.cell? ⟨lb,0+i*1,RA⟩=Ry (.slice (Ry ⟨gn,0,RA⟩) len N)) (D:w.cell? ⟨bb,0,RA⟩=Ry (.int .i64 (N:Int)))
 (y:∀ a' z,Knows a' 73 ((7,.bool (js && ((len:Int) == (N:Int)))) :: (z ++ ((7,.bool js) :: (10,.int .i64 (i:Int)) :: (6,.slice (Ry ⟨lb,0,RA⟩) ws.length ws.length) :: (3,.pointer (Ry ⟨bb,0,RA⟩)) :: l0)))→z.map (·.1)=O1→a'.defers=a.defers→
   jy (aa.of Rz) Rz Post S O μ (RN ((base 78).at a' kk) cs) w):
 jy (aa.of Rz) Rz Post S O μ (RN ((base 78).at a (.code (.region 16 (wW SB) RF) :: kk)) cs) w:=by
 have l:=dw (aa.of Rz) Rz Post S μ;cases js with
 |true=>
  refine pq (Ph:=fun i=>decide (i<11)) (l:=QE lb bb gn i len N ws.length) l pZ ?_;refine jN (u:=11) l (by decide) o vv ?_ ?_ ?_
  ·intro f b c v _ _ d;have j:b<11:=by simpa using v
   have h:∀ c:Te,c.guard=Ry (1,RF)→Sn c (S2 (wW SB) (fill a (QE lb bb gn i len N ws.length)).tmps)=RF:=fun c u=>nU (d:=60) (b:=RF) u rfl (f.slot 60 _ rfl) (by rw[f.size];decide);have:b=0∨b=1∨b=2∨b=3∨b=4∨b=5∨b=6∨b=7∨b=8∨b=9∨b=10:=by omega
   rcases this with rfl|rfl|rfl|rfl|rfl|rfl|rfl|rfl|rfl|rfl|rfl
   ·cases(show Ry _=Ry c from d);exact⟨_,rfl,.inl ⟨rfl,bV (ay rfl (f.of rfl))⟩⟩
   ·cases(show Ry _=Ry c from d);exact⟨_,rfl,.inl ⟨rfl,bV (ay rfl (f.of rfl))⟩⟩
   ·cases(show Ry _=Ry c from d);exact⟨_,rfl,.inl ⟨h _ rfl,bV (ay rfl (f.of rfl))⟩⟩
   ·cases(show Ry _=Ry c from d);exact⟨_,rfl,.inl ⟨h _ rfl,bV (ay rfl (f.of rfl))⟩⟩
   ·cases(show Ry _=Ry c from d);exact⟨_,rfl,.inl ⟨h _ rfl,bV (eM rfl (f.of rfl) (f.of rfl) Tryz.underlying26 Tryz.sizeOf43 F)⟩⟩
   ·cases(show Ry _=Ry c from d);exact⟨_,rfl,.inl ⟨h _ rfl,bM rfl (f.of rfl) Tryz.isAgg43 (.inr I) C⟩⟩
   ·cases(show Ry _=Ry c from d);exact⟨_,rfl,.inl ⟨h _ rfl,bV (qS rfl (f.of rfl) UX)⟩⟩
   ·cases(show Ry _=Ry c from d);exact⟨_,rfl,.inl ⟨h _ rfl,bV (cK (off':=0) rfl (f.of rfl) TI rfl Vi rfl)⟩⟩
   ·cases(show Ry _=Ry c from d);exact⟨_,rfl,.inl ⟨h _ rfl,bM rfl (f.of rfl) VG (.inr H) D⟩⟩
   ·cases(show Ry _=Ry c from d);exact⟨_,rfl,.inl ⟨h _ rfl,bV (O4 rfl (f.of rfl) (f.of rfl))⟩⟩
   ·cases(show Ry _=Ry c from d);exact⟨_,rfl,.inl ⟨rfl,bV (xa rfl (f.of rfl) (f.of rfl))⟩⟩
  ·intro c d B K J A p q G E _;have f:=o.fill (QE lb bb gn i len N ws.length) rfl;have m:=fM (Dn:=fun i=>decide (i≤11)) p q CO (fun b j=>by
    have:b≤11:=by simpa using j
    show b<12;omega)
   cases(show Ry _=Ry c from d);obtain⟨r,t⟩:=mV p q rfl o.size vv (fun b j=>m b (by
    have:b<12:=j;simp;omega))
   rw[t];subst r;refine ak l (by decide) d rfl _ (aG rfl (f.of rfl)) ?_;refine aj l (y _ (QE lb bb gn i len N ws.length) ?_ rfl (by rw[put_defers];exact dR _ _));exact f.put (d:=7) (by decide) (.bool ((len:Int) == (N:Int)))
  ·intro m;exact absurd (m 11 (by decide)) (by decide)
 |false=>
  refine pq (Ph:=fun i=>decide (i<11)) (l:=okF) l pZ ?_;refine jN (u:=11) l (by decide) o vv ?_ ?_ ?_
  ·intro f b c v _ _ d;have j:b<11:=by simpa using v
   have h:∀ c:Te,c.guard=Ry (1,RF)→Sn c (S2 (wW SB) (fill a okF).tmps)=RE:=fun c u=>nU (d:=60) (b:=RE) u rfl (f.slot 60 _ rfl) (by rw[f.size];decide);have:b=0∨b=1∨b=2∨b=3∨b=4∨b=5∨b=6∨b=7∨b=8∨b=9∨b=10:=by omega
   rcases this with rfl|rfl|rfl|rfl|rfl|rfl|rfl|rfl|rfl|rfl|rfl
   ·cases(show Ry _=Ry c from d);exact⟨_,rfl,.inl ⟨rfl,bV (ay rfl (f.of rfl))⟩⟩
   ·cases(show Ry _=Ry c from d);exact⟨_,rfl,.inl ⟨rfl,bV (ay rfl (f.of rfl))⟩⟩
   ·cases(show Ry _=Ry c from d);exact⟨_,rfl,.inr ⟨h _ rfl,rfl⟩⟩
   ·cases(show Ry _=Ry c from d);exact⟨_,rfl,.inr ⟨h _ rfl,rfl⟩⟩
   ·cases(show Ry _=Ry c from d);exact⟨_,rfl,.inr ⟨h _ rfl,rfl⟩⟩
   ·cases(show Ry _=Ry c from d);exact⟨_,rfl,.inr ⟨h _ rfl,rfl⟩⟩
   ·cases(show Ry _=Ry c from d);exact⟨_,rfl,.inr ⟨h _ rfl,rfl⟩⟩
   ·cases(show Ry _=Ry c from d);exact⟨_,rfl,.inr ⟨h _ rfl,rfl⟩⟩
   ·cases(show Ry _=Ry c from d);exact⟨_,rfl,.inr ⟨h _ rfl,rfl⟩⟩
   ·cases(show Ry _=Ry c from d);exact⟨_,rfl,.inr ⟨h _ rfl,rfl⟩⟩
   ·cases(show Ry _=Ry c from d);exact⟨_,rfl,.inl ⟨rfl,bV (wZ rfl (f.of rfl) rfl)⟩⟩
  ·intro c d B K J A p q G E _;have f:=o.fill okF rfl;have m:=fM (Dn:=fun i=>decide (i≤11)) p q CO (fun b j=>by
    have:b≤11:=by simpa using j
    show b<12;omega)
   cases(show Ry _=Ry c from d);obtain⟨r,t⟩:=mV p q rfl o.size vv (fun b j=>m b (by
    have:b<12:=j;simp;omega))
   rw[t];subst r;refine ak l (by decide) d rfl _ (aG rfl (f.of rfl)) ?_;refine aj l (y _ okF ?_ rfl (by rw[put_defers];exact dR _ _));exact f.put (d:=7) (by decide) (.bool RE)
  ·intro m;exact absurd (m 11 (by decide)) (by decide)
end
structure yz(S O:Nat→Prop)(w0 w:RD)(N cb n cap kb nk ck eb ne ce:Nat)(x:RB)(wb fh:Nat)(ws:List Bool)(V:Nat→List aD)(ch g:Nat→Nat)(bb fb ct lb i:Nat)(js:Bool)(μ:Nat→Option (List RB))(a:TZ):Prop where
 kn:Knows a 73 [(42,.int .i64 (i:Int)),(41,.int .i64 (ws.length:Int)),(8,.slice (Ry ⟨ct,0,RA⟩) ws.length ws.length),(7,.bool js),(6,.slice (Ry ⟨lb,0,RA⟩) ws.length ws.length),(3,.pointer (Ry ⟨bb,0,RA⟩)),(2,.slice (Ry ⟨wb,0,RA⟩) ws.length fh)]
 df:a.defers=[]
 own:p8 S O w0 w N cb n cap kb nk ck eb ne ce x bb fb
 oc:O ct
 hc:w.heap[ct]? =Ry (.cells (dX ws ch ws.length).toArray 193 (0,0))
 ol:O lb
 ll:w0.heap.size≤lb
 nb:lb≠bb
 nf:lb≠fb
 nc:lb≠ct
 hl:w.heap[lb]? =Ry (.cells (eG ws g V N i).toArray 43 (0,0))
 rows:∀ j,j<i→ws[j]? =Ry RF→Row w (g j) N (V j)∧O (g j)∧g j≠lb∧w0.heap.size≤g j
 Re:PW O w ws V ch i ws.length μ
 ok:js=RF↔∀ j,j<i→ws[j]? =Ry RF→(V j).length=N
section
variable {S O:Nat→Prop}{w0 w w':RD}{s:Nat→ByteArray}{k e:Nat→Int}{N cb n cap kb nk ck eb ne ce wb fh:Nat}{x:RB}{ws:List Bool}{V:Nat→List aD}{ch g:Nat→Nat}{bb fb ct lb i:Nat}{μ:Nat→Option (List RB)}{a:TZ}{Post:RB→RD→Prop}{cs:List RU}{js:Bool}
theorem Jj(l:D2 S w0 s k e N cb n kb nk eb ne wb ws V)(h:yz S O w0 w N cb n cap kb nk ck eb ne ce x wb fh ws V ch g bb fb ct lb i js μ a)(p:ws[i]? =Ry RE)
 (E:∀ a',yz S O w0 w N cb n cap kb nk ck eb ne ce x wb fh ws V ch g bb fb ct lb (i+1) js μ a'→jy (aa.of Rz) Rz Post S O μ (RN ((base 78).at a' [.code (mr SB),.inLoop (mr SB),.inBlock 2,.code (Ez SB)]) cs) w):
 jy (aa.of Rz) Rz Post S O μ (RN ((base 78).at a [.code (mr SB),.inLoop (mr SB),.inBlock 2,.code (Ez SB)]) cs) w:=by
 obtain⟨b,B,r,J,C,L,F,G,I,H,D,M,m,K⟩:=h;have c:=dw (aa.of Rz) Rz Post S μ;have o:i<ws.length:=(R8.1 p).1;have Q:=l.mm;refine aM c ?_;refine aX c [0] rfl ?_;refine ak c (by decide) rfl rfl (.bool RF) (iE rfl (b.of rfl) (b.of rfl) (by simp;omega)) ?_;replace b:=b.put (d:=43) (by decide) (.bool RF);refine aj c ?_;refine aM c ?_;refine cN c RF (b.of rfl) ?_;refine gB c ?_;refine aM c ?_;refine fG c ?_;refine aM c ?_;refine aX c [0,1] rfl ?_;refine ak c (by decide) rfl rfl _ (ay rfl (b.of rfl)) ?_;replace b:=b.put (d:=44) (by decide) (.int .i64 (i:Int));refine ak c (by decide) rfl rfl _ (aG rfl (b.of rfl)) ?_;replace b:=b.put (d:=10) (by decide) (.int .i64 (i:Int));refine aj c ?_;refine aM c ?_;refine aX c [0,1,2,3] rfl ?_;refine ak c (by decide) rfl rfl _ (ay rfl (b.of rfl)) ?_;replace b:=b.put (d:=45) (by decide) (.slice (Ry ⟨wb,0,RA⟩) ws.length fh);refine ak c (by decide) rfl rfl _ (ay rfl (b.of rfl)) ?_;replace b:=b.put (d:=46) (by decide) (.int .i64 (i:Int));refine ak c (by decide) rfl rfl _ (eM rfl (b.of rfl) (b.of rfl) Ua Tryz.sizeOf4 o) ?_;replace b:=b.put (d:=47) (by decide) (.pointer (Ry ⟨wb,0+i*1,RA⟩));refine ej c (by decide) rfl rfl _ (bM rfl (b.of rfl) Tryz.isAgg4 (r.low wb l.wl) ((r.FX.cell (p:=⟨wb,0+i*1,RA⟩) l.wl).trans (l.wc i _ p))) ?_;replace b:=b.put (d:=48) (by decide) (.bool RE);refine aj c ?_;refine cN c RE (b.of rfl) ?_;refine gB c ?_;refine gP c ?_;refine aX c [0,1] rfl ?_;refine ak c (by decide) rfl rfl _ (mJ (j:=1) rfl (b.of rfl) rfl (by omega)) ?_;replace b:=b.put (d:=70) (by decide) (.int .i64 ((i+1:Nat):Int));refine ak c (by decide) rfl rfl _ (ay rfl (b.of rfl)) ?_;replace b:=b.put (d:=42) (by decide) (.int .i64 ((i+1:Nat):Int));refine aj c ?_;refine j3 c ?_;have v:ws[i]? ≠Ry RF:=by rw[p];simp
 have q:∀ d,ws[d]? =Ry RF→d≠i:=fun d j e=>v (e▸j);refine E _ ⟨((((((b.nil.cons (b.slot 2 _ rfl)).cons (b.slot 3 _ rfl)).cons (b.slot 6 _ rfl)).cons (b.slot 7 _ rfl)).cons (b.slot 8 _ rfl)).cons (b.slot 41 _ rfl)).cons (b.slot 42 _ rfl),by simp only[put_defers];exact B,r,J,C,L,F,G,I,H,by rw[AV v];exact D,fun d o j=>M d (by have:=q d j;omega) j,⟨fun d P o j=>m.mu d (by omega) o j,fun y A=>?_,m.inj,m.lt⟩,?_⟩
 ·obtain⟨d,t,f,u,z⟩:=m.no y A;exact⟨d,by have:=q d u;omega,f,u,z⟩
 ·rw[K];constructor
  ·intro h d t f;exact h d (by have:=q d f;omega) f
  ·intro h d t f;exact h d (by omega) f
theorem FD(B:D2 S w0 s k e N cb n kb nk eb ne wb ws V)(h:yz S O w0 w N cb n cap kb nk ck eb ne ce x wb fh ws V ch g bb fb ct lb i js μ a)(p:ws[i]? =Ry RF)
 (a6:∀ D w' a' g' bj am,yz S D w0 w' N cb n cap kb nk ck eb ne ce x wb fh ws V ch g' bb fb ct lb (i+1) bj am a'→jy (aa.of Rz) Rz Post S D am (RN ((base 78).at a' [.code (mr SB),.inLoop (mr SB),.inBlock 2,.code (Ez SB)]) cs) w'):
 jy (aa.of Rz) Rz Post S O μ (RN ((base 78).at a [.code (mr SB),.inLoop (mr SB),.inBlock 2,.code (Ez SB)]) cs) w:=by
 obtain⟨b,a2,z,F,T,G,W,X,Z,Y,a5,bc,v,a8⟩:=h;have c:=dw (aa.of Rz) Rz Post S μ;have t:i<ws.length:=(R8.1 p).1;have bt:=B.mm;refine aM c ?_;refine aX c [0] rfl ?_;refine ak c (by decide) rfl rfl (.bool RF) (iE rfl (b.of rfl) (b.of rfl) (by simp;omega)) ?_;replace b:=b.put (d:=43) (by decide) (.bool RF);refine aj c ?_;refine aM c ?_;refine cN c RF (b.of rfl) ?_;refine gB c ?_;refine aM c ?_;refine fG c ?_;refine aM c ?_;refine aX c [0,1] rfl ?_;refine ak c (by decide) rfl rfl _ (ay rfl (b.of rfl)) ?_;replace b:=b.put (d:=44) (by decide) (.int .i64 (i:Int));refine ak c (by decide) rfl rfl _ (aG rfl (b.of rfl)) ?_;replace b:=b.put (d:=10) (by decide) (.int .i64 (i:Int));refine aj c ?_;refine aM c ?_;refine aX c [0,1,2,3] rfl ?_;refine ak c (by decide) rfl rfl _ (ay rfl (b.of rfl)) ?_;replace b:=b.put (d:=45) (by decide) (.slice (Ry ⟨wb,0,RA⟩) ws.length fh);refine ak c (by decide) rfl rfl _ (ay rfl (b.of rfl)) ?_;replace b:=b.put (d:=46) (by decide) (.int .i64 (i:Int));refine ak c (by decide) rfl rfl _ (eM rfl (b.of rfl) (b.of rfl) Ua Tryz.sizeOf4 t) ?_;replace b:=b.put (d:=47) (by decide) (.pointer (Ry ⟨wb,0+i*1,RA⟩));refine ej c (by decide) rfl rfl _ (bM rfl (b.of rfl) Tryz.isAgg4 (z.low wb B.wl) ((z.FX.cell (p:=⟨wb,0+i*1,RA⟩) B.wl).trans (B.wc i _ p))) ?_;replace b:=b.put (d:=48) (by decide) (.bool RF);refine aj c ?_;refine cN c RF (b.of rfl) ?_;refine aM c ?_;have bi:=v.mu i (RG _) t p;have a1:w.cell? ⟨ct,0+i*1,RA⟩=Ry (.chan (Ry (ch i))):=by
  unfold R2;simp only[T,SA,Vs];have:=lE (ws:=ws) (ch:=ch) (i:=ws.length) t;rw[if_pos ⟨t,p⟩] at this;simpa using this
 refine B9 (c:=ch i) (l0:=[(42,.int .i64 (i:Int)),(41,.int .i64 (ws.length:Int)),(7,.bool js),(2,.slice (Ry ⟨wb,0,RA⟩) ws.length fh)]) B p ((((((((b.nil.cons (b.slot 2 _ rfl)).cons (b.slot 7 _ rfl)).cons (b.slot 41 _ rfl)).cons (b.slot 42 _ rfl)).cons (b.slot 3 _ rfl)).cons (b.slot 6 _ rfl)).cons (b.slot 8 _ rfl)).cons (b.slot 10 _ rfl)) z F a1 bi G a5 (by simp[dy]) fun D bu al q a' br ba Q l u j a3=>?_;have c:=dw (aa.of Rz) Rz Post S (fy μ (ch i) RA);have a9:=z.Qb l;have H:=a9.set u X Z W;have bs:=z.inr lb (.inr G);have ar:(eG ws g V N i).toArray.toList.take i ++ [SS (Ry ⟨q,0,RA⟩) (V i).length N] ++ (eG ws g V N i).toArray.toList.drop (i+1)=eG ws (fun d=>if d=i then q else g d) V N (i+1):=by
  rw[← CF p q]
 rw[ar] at u;have U:=u.set;have a0:al.cell? ⟨lb,0+i*1,RA⟩=Ry (.slice (Ry ⟨q,0,RA⟩) (V i).length N):=by
  unfold R2;simp only[U,SA,Vs];have:=lM (ws:=ws) (g:=fun d=>if d=i then q else g d) (V:=V) (N:=N) (i:=i+1) t;simp[p] at this;simpa using this
 have be:=u.size;have bd:=l.rel.size;refine CQ (l0:=[(42,.int .i64 (i:Int)),(41,.int .i64 (ws.length:Int)),(8,.slice (Ry ⟨ct,0,RA⟩) ws.length ws.length),(2,.slice (Ry ⟨wb,0,RA⟩) ws.length fh)]) t ((((((((j.nil.cons (j.slot 2 _ rfl)).cons (j.slot 8 _ rfl)).cons (j.slot 41 _ rfl)).cons (j.slot 42 _ rfl)).cons (j.slot 3 _ rfl)).cons (j.slot 6 _ rfl)).cons (j.slot 10 _ rfl)).cons (j.slot 7 _ rfl)) H.inr (l.sub lb G) H.ob a0 (by unfold R2;simp only[H.hb];rfl) fun ao ad o a7 a4=>?_;have y:∀ C,O1.contains C=RE→∀ J,(ad ++ J).lookup C=J.lookup C:=fun C ab J=>by
  rw[List.lookup_append];cases e:ad.lookup C with
  |none=>rfl
  |some bv=>
   have:=fX e;rw[a7] at this;have:=List.contains_iff_mem.2 this;rw[this] at ab;cases ab
 have f:Knows ao 73 [(42,.int .i64 (i:Int)),(41,.int .i64 (ws.length:Int)),(8,.slice (Ry ⟨ct,0,RA⟩) ws.length ws.length),(7,.bool (js && (((V i).length:Int) == (N:Int)))),(6,.slice (Ry ⟨lb,0,RA⟩) ws.length ws.length),(3,.pointer (Ry ⟨bb,0,RA⟩)),(2,.slice (Ry ⟨wb,0,RA⟩) ws.length fh)]:=
  ((((((o.nil.cons (o.slot 2 _ (y 2 rfl _))).cons (o.slot 3 _ (y 3 rfl _))).cons (o.slot 6 _ (y 6 rfl _))).cons (o.slot 7 _ rfl)).cons (o.slot 8 _ (y 8 rfl _))).cons (o.slot 41 _ (y 41 rfl _))).cons (o.slot 42 _ (y 42 rfl _))
 clear o j b;refine gP c ?_;refine aX c [0,1] rfl ?_;refine ak c (by decide) rfl rfl _ (mJ (j:=1) rfl (f.of rfl) rfl (by omega)) ?_;replace f:=f.put (d:=70) (by decide) (.int .i64 ((i+1:Nat):Int));refine ak c (by decide) rfl rfl _ (ay rfl (f.of rfl)) ?_;replace f:=f.put (d:=42) (by decide) (.int .i64 ((i+1:Nat):Int));refine aj c ?_;refine j3 c ?_;have R:q≠lb:=by omega
 refine a6 D al _ (fun d=>if d=i then q else g d) _ _ ⟨((((((f.nil.cons (f.slot 2 _ rfl)).cons (f.slot 3 _ rfl)).cons (f.slot 6 _ rfl)).cons (f.slot 7 _ rfl)).cons (f.slot 8 _ rfl)).cons (f.slot 41 _ rfl)).cons (f.slot 42 _ rfl),by simp only[put_defers];rw[a4,a3];simp only[put_defers];exact a2,H,l.sub ct F,?_,l.sub lb G,W,X,Z,Y,U,fun d r m=>?_,⟨fun d bo r m=>?_,fun L I=>?_,v.inj,fun d r m=>?_⟩,?_⟩
 ·rw[u.at_ ct (.inr (l.sub ct F)) (fun e=>Y e.symm),l.rel.at_ ct (.inr F)];exact T
 ·by_cases e:d=i
  ·subst e;simp only[if_true];have:=z.FX.size;exact⟨ba.same (u.at_ q (.inr Q) R),Q,R,by omega⟩
  ·obtain⟨bl,K,ae,bm⟩:=bc d (by omega) m;simp only[if_neg e];exact⟨(bl.same (l.rel.at_ _ (.inr K))).same (u.at_ _ (.inr (l.sub _ K)) ae),l.sub _ K,ae,bm⟩
 ·have E:ch d≠ch i:=fun e=>by have:=v.inj d i r t m p e;omega
  simp only[fy,E,if_false];exact v.mu d (by omega) r m
 ·have E:L≠ch i:=fun e=>I (by simp[fy,e]);simp only[fy,E,if_false] at I;obtain⟨d,A,M,aw,P⟩:=v.no L I;exact⟨d,by rcases Ts i d with h|h;exact h;have:d=i:=(by omega);subst this;exact absurd P.symm E,M,aw,P⟩
 ·exact RK (v.lt d r m) (R4 bd be)
 ·rw[R7,a8,beq_iff_eq];constructor
  ·rintro⟨A,M⟩ d r m;by_cases e:d=i
   ·subst e;omega
   ·exact A d (by omega) m
  ·intro A;exact⟨fun d r m=>A d (by omega) m,by have:=A i (by omega) p;omega⟩
end
theorem AG(ws:List Bool)(ch:Nat→Nat):(dX ws ch 0).toArray=madeCells #[.chan RA] (ws.length*1):=by
 apply Array.toList_inj.1;rw[toList_madeCells_one,Vs];refine List.ext_getElem (by simp[dm]) fun f b d=>?_;simp[dX]
theorem AW(ws:List Bool)(g:Nat→Nat)(V:Nat→List aD)(N:Nat):(eG ws g V N 0).toArray=madeCells #[.slice RA 0 0] (ws.length*1):=by
 apply Array.toList_inj.1;rw[toList_madeCells_one,Vs];refine List.ext_getElem (by simp[dy]) fun f b d=>?_;simp[eG]
theorem lI{P0:RM}{c:RU}(h:ei P0 c [])(v:RB):ei P0 (c.finish v) []:=⟨(eJ h.top v).1,fun f b=>by simp at b,(eJ h.top v).2.trans h.bot⟩
theorem gA{P0 P:RM}{S:Nat→Prop}{m:Bool}{d:(Nat→Prop)→RU→List RU→RD→Prop}{own:Nat→Prop}{cs:List RU}{w:RD}{b:RU}{a:TZ}(f:pg P0 P S m d){fn:Uj}{todo:List Uk}{c:RU}{v:RB}(p:b.kind= .normal)(h:a.defers=[])(l:P.funcs[b.fn]? =Ry fn)(q:∀ w,(SD fn a.tmps).run P w= .ok v w)(j:∀ w,(SD fn a.tmps).events P w #[]=#[])
 (o:d own (c.finish v) cs w):d own {b.at a todo with mode:=.returning} (c :: cs) w:=jZ f (fun w=>stepG_leave p h l (q w) (j w)) o
theorem Rf(v0 v1 v2:RB)(m:Nat)(j:3≤m):Knows ⟨#[v0,v1,v2] ++ SN (m - 3) SP,[]⟩ m [(0,v0),(1,v1),(2,v2)]:=by
 have b:∀ d v,(#[v0,v1,v2]:Array RB)[d]? =Ry v→aS ⟨#[v0,v1,v2] ++ SN (m - 3) SP,[]⟩ d=v:=fun d v f=>by
  unfold aS;rw[Se,Array.getElem?_append_left (RH.1 f).1,f];rfl
 refine Knows.cons (Knows.cons (Knows.cons (l:=[]) ⟨?_,fun s v h=>by simp at h⟩ (b 2 v2 rfl)) (b 1 v1 rfl)) (b 0 v0 rfl);simp;omega
theorem PI:∃ i,Rz.info? 193=Ry i∧i.zero=Ry (.chan RA)∧i.size=1∧i.bytes=8:=⟨Tryz.t193,by kernel_rfl,rfl,rfl,rfl⟩
theorem Mw:∃ i,Rz.info? 43=Ry i∧i.zero=Ry (.slice RA 0 0)∧i.size=1∧i.bytes=24:=⟨Tryz.t43,by kernel_rfl,rfl,rfl,rfl⟩
section
variable {S O:Nat→Prop}{w0 w w':RD}{s:Nat→ByteArray}{k e:Nat→Int}{N cb n cap kb nk ck eb ne ce wb fh:Nat}{x:RB}{ws:List Bool}{V:Nat→List aD}{ch g:Nat→Nat}{bb fb ct lb i:Nat}{μ:Nat→Option (List RB)}{a:TZ}{Post:RB→RD→Prop}{cs:List RU}{js:Bool}{c:RU}
theorem L3(h:yz S O w0 w N cb n cap kb nk ck eb ne ce x wb fh ws V ch g bb fb ct lb ws.length js μ a)
 (j:jy (aa.of Rz) Rz Post S O μ (RN (c.finish (.tuple #[.slice (Ry ⟨lb,0,RA⟩) ws.length ws.length,.bool js])) cs) w):
 jy (aa.of Rz) Rz Post S O μ (RN ((base 78).at a [.code (mr SB),.inLoop (mr SB),.inBlock 2,.code (Ez SB)]) (c :: cs)) w:=by
 have b:=h.kn;have d:=dw (aa.of Rz) Rz Post S μ;refine aM d ?_;refine aX d [0] rfl ?_;refine ak d (by decide) rfl rfl (.bool RE) (iE rfl (b.of rfl) (b.of rfl) (by simp)) ?_;replace b:=b.put (d:=43) (by decide) (.bool RE);refine aj d ?_;refine aM d ?_;refine cN d RE (b.of rfl) ?_;refine sH d (k':=[.code (Ez SB)]) rfl ?_;refine aM d ?_;refine aX d [0,1,2,3] rfl ?_;refine ak d (by decide) rfl rfl _ (ay rfl (b.of rfl)) ?_;replace b:=b.put (d:=71) (by decide) (.slice (Ry ⟨lb,0,RA⟩) ws.length ws.length);refine ak d (by decide) rfl rfl _ (ay rfl (b.of rfl)) ?_;replace b:=b.put (d:=72) (by decide) (.bool js);refine ak d (by decide) rfl rfl _ (aG rfl (b.of rfl)) ?_;replace b:=b.put (d:=6) (by decide) (.slice (Ry ⟨lb,0,RA⟩) ws.length ws.length);refine ak d (by decide) rfl rfl _ (aG rfl (b.of rfl)) ?_;replace b:=b.put (d:=7) (by decide) (.bool js);refine aj d ?_;refine nZ d ?_;have f:=fO (P:=Rz) Tryz.results78 (b.slot 6 _ rfl) (b.slot 7 _ rfl);exact gA d rfl (by simp only[put_defers];exact h.df) Tryz.func78 f.1 f.2 j
theorem Ji(j:D2 S w0 s k e N cb n kb nk eb ne wb ws V)(t:∀ O w a g js μ,yz S O w0 w N cb n cap kb nk ck eb ne ce x wb fh ws V ch g bb fb ct lb ws.length js μ a→jy (aa.of Rz) Rz Post S O μ (RN (c.finish (.tuple #[.slice (Ry ⟨lb,0,RA⟩) ws.length ws.length,.bool js])) cs) w):
 ∀ (d i:Nat),i+d=ws.length→∀ O w a g js μ,yz S O w0 w N cb n cap kb nk ck eb ne ce x wb fh ws V ch g bb fb ct lb i js μ a→
 jy (aa.of Rz) Rz Post S O μ (RN ((base 78).at a [.code (mr SB),.inLoop (mr SB),.inBlock 2,.code (Ez SB)]) (c :: cs)) w:=by
 intro d
 induction d with
 |zero=>
  intro i r O w a g js μ b;have:i=ws.length:=by omega
  subst this;exact L3 b (t O w a g js μ b)
 |succ d o=>
  intro i r O w a g js μ b;have u:i<ws.length:=by omega
  have m:ws[i]? =Ry ws[i]:=RS u;cases l:ws[i] with
  |true=>exact FD j b (by rw[m,l]) fun p w' f q v y h=>o (i+1) (by omega) p w' f q v y h
  |false=>exact Jj j b (by rw[m,l]) fun f h=>o (i+1) (by omega) O w f g js μ h
theorem OQ(q:D2 S w0 s k e N cb n kb nk eb ne wb ws V)(h:GM S O w0 w N cb n cap kb nk ck eb ne ce x wb fh ws V ch bb fb ct ws.length μ a)
 (A:∀ lb O w a g js μ,yz S O w0 w N cb n cap kb nk ck eb ne ce x wb fh ws V ch g bb fb ct lb ws.length js μ a→jy (aa.of Rz) Rz Post S O μ (RN (c.finish (.tuple #[.slice (Ry ⟨lb,0,RA⟩) ws.length ws.length,.bool js])) cs) w):
 jy (aa.of Rz) Rz Post S O μ (RN ((base 78).at a [.code (cO SB),.inLoop (cO SB),.inBlock 0,.code (gb SB)]) (c :: cs)) w:=by
 obtain⟨b,v,f,o,K,I,J,y,m⟩:=h;have d:=dw (aa.of Rz) Rz Post S μ;obtain⟨G,z,F,D,u⟩:=Mw;have L:=q.mm;refine aM d ?_;refine aX d [0] rfl ?_;refine ak d (by decide) rfl rfl (.bool RE) (iE rfl (b.of rfl) (b.of rfl) (by simp)) ?_;replace b:=b.put (d:=17) (by decide) (.bool RE);refine aj d ?_;refine aM d ?_;refine cN d RE (b.of rfl) ?_;refine sH d (k':=[.code (gb SB)]) rfl ?_;refine aM d ?_;refine aX d [0,1,2,3] rfl ?_;refine ak d (by decide) rfl rfl _ (ay rfl (b.of rfl)) ?_;replace b:=b.put (d:=37) (by decide) (.slice (Ry ⟨wb,0,RA⟩) ws.length fh);refine ak d (by decide) rfl rfl _ (qS rfl (b.of rfl) Ua) ?_;replace b:=b.put (d:=38) (by decide) (.int .i64 (ws.length:Int));refine kM d f.inr (by decide) rfl rfl (.cells (madeCells (SS RA 0 0).cells (ws.length*G.size)) 43) trivial (fun n=>.slice (Ry ⟨n,0,RA⟩) ws.length ws.length) (AY rfl (b.of rfl) (b.of rfl) Tryz.underlying26 z F (RG _) (by rw[u];omega) (by omega)) fun lb H B E hrel t=>?_;replace b:=b.put (d:=39) (by decide) (.slice (Ry ⟨lb,0,RA⟩) ws.length ws.length);refine ak d (by decide) rfl rfl _ (aG rfl (b.of rfl)) ?_;replace b:=b.put (d:=6) (by decide) (.slice (Ry ⟨lb,0,RA⟩) ws.length ws.length);refine aj d ?_;refine aM d ?_;refine aX d [0] rfl ?_;refine ak d (by decide) rfl rfl (.bool RF) (aG rfl rfl) ?_;replace b:=b.put (d:=7) (by decide) (.bool RF);refine aj d ?_;refine aM d ?_;refine aM d ?_;refine aX d [0,1,2] rfl ?_;refine ak d (by decide) rfl rfl _ (ay rfl (b.of rfl)) ?_;replace b:=b.put (d:=40) (by decide) (.slice (Ry ⟨wb,0,RA⟩) ws.length fh);refine ak d (by decide) rfl rfl _ (qS rfl (b.of rfl) Ua) ?_;replace b:=b.put (d:=41) (by decide) (.int .i64 (ws.length:Int));refine ak d (by decide) rfl rfl (.int .i64 ((0:Nat):Int)) (ay rfl rfl) ?_;replace b:=b.put (d:=42) (by decide) (.int .i64 ((0:Nat):Int));refine aj d ?_;refine fG d ?_;refine sI d ?_;have C:=f.new B E hrel;have M:=f.inr bb (.inr f.ob);have P:=f.inr fb (.inr f.of);have Q:=f.inr ct (.inr o);have R:=f.FX.size;refine Ji (lb:=lb) (ch:=ch) q (fun O w a g js μ h=>A lb O w a g js μ h) ws.length 0 (by omega) _ H _ (fun _=>0) RF μ ⟨((((((b.nil.cons (b.slot 2 _ rfl)).cons (b.slot 3 _ rfl)).cons (b.slot 6 _ rfl)).cons (b.slot 7 _ rfl)).cons (b.slot 8 _ rfl)).cons (b.slot 41 _ rfl)).cons (b.slot 42 _ rfl),by simp only[put_defers];exact v,C,.inl o,(hrel.at_ ct (.inr o)).trans y,.inr rfl,by omega,by omega,by omega,by omega,?_,fun l j=>absurd j (by omega),⟨fun l r j p=>m.mu l r j p,m.no,m.inj,fun l j p=>RK (m.lt l j p) hrel.size⟩,⟨fun _ l j=>absurd j (by omega),fun _=>rfl⟩⟩;rw[AW,← D];exact t
theorem go_loop(j:D2 S w0 s k e N cb n kb nk eb ne wb ws V)(t:∀ ch lb O w a g js μ,yz S O w0 w N cb n cap kb nk ck eb ne ce x wb fh ws V ch g bb fb ct lb ws.length js μ a→jy (aa.of Rz) Rz Post S O μ (RN (c.finish (.tuple #[.slice (Ry ⟨lb,0,RA⟩) ws.length ws.length,.bool js])) cs) w):
 ∀ (d i:Nat),i+d=ws.length→∀ O w a ch μ,GM S O w0 w N cb n cap kb nk ck eb ne ce x wb fh ws V ch bb fb ct i μ a→
 jy (aa.of Rz) Rz Post S O μ (RN ((base 78).at a [.code (cO SB),.inLoop (cO SB),.inBlock 0,.code (gb SB)]) (c :: cs)) w:=by
 intro d
 induction d with
 |zero=>
  intro i r O w a ch μ b;have:i=ws.length:=by omega
  subst this;exact OQ j b (fun lb O w a g js μ b=>t ch lb O w a g js μ b)
 |succ d o=>
  intro i r O w a ch μ b;have u:i<ws.length:=by omega
  have m:ws[i]? =Ry ws[i]:=RS u;cases l:ws[i] with
  |true=>exact go_round j b (by rw[m,l]) fun p w' f q v h=>o (i+1) (by omega) p w' f q v h
  |false=>exact go_skip j b (by rw[m,l]) fun f h=>o (i+1) (by omega) O w f ch μ h
theorem JQ(p:D2 S w0 s k e N cb n kb nk eb ne wb ws V)
 (K:∀ bb fb ct ch lb O w a g js μ,yz S O w0 w N cb n cap kb nk ck eb ne ce x wb fh ws V ch g bb fb ct lb ws.length js μ a→jy (aa.of Rz) Rz Post S O μ (RN (c.finish (.tuple #[.slice (Ry ⟨lb,0,RA⟩) ws.length ws.length,.bool js])) cs) w):
 jy (aa.of Rz) Rz Post S (fun b=>b<w0.heap.size∧¬ S b) (fun _=>RA) (RN (Sz Rz 78 #[nY (N:Int) cb n cap,n7 kb nk ck eb ne ce x,.slice (Ry ⟨wb,0,RA⟩) ws.length fh] .normal) (c :: cs)) w0:=by
 have f:=dw (aa.of Rz) Rz Post S (fun _=>RA);obtain⟨T,J,R,L,G⟩:=PI;have W:=p.mm;rw[enter_at _ Tryz.func78 rfl];have d:=Rf (nY (N:Int) cb n cap) (n7 kb nk ck eb ne ce x) (.slice (Ry ⟨wb,0,RA⟩) ws.length fh) 73 (by decide);have v:sj S (fun b=>b<w0.heap.size∧¬ S b) w0:=fun b j=>j.elim (p.sz b) (fun h=>h.1);refine aM f ?_;refine aX f [0,1,2,3] rfl ?_;refine kM f v (by decide) rfl rfl (.cells #[.int .i64 (N:Int),.slice (Ry ⟨cb,0,RA⟩) n cap] 139) trivial (fun n=>.pointer (Ry ⟨n,0,RA⟩)) (sZ (v:=nY (N:Int) cb n cap) rfl (d.of rfl)) fun bb X u M r B=>?_;replace d:=d.put (d:=3) (by decide) (.pointer (Ry ⟨bb,0,RA⟩));have y:=v.new u M;refine kM f y (by decide) rfl rfl (.cells #[.slice (Ry ⟨kb,0,RA⟩) nk ck,.slice (Ry ⟨eb,0,RA⟩) ne ce,x] 105) trivial (fun n=>.pointer (Ry ⟨n,0,RA⟩)) (sZ (v:=n7 kb nk ck eb ne ce x) rfl (d.of rfl)) fun fb Y E P o C=>?_;replace d:=d.put (d:=4) (by decide) (.pointer (Ry ⟨fb,0,RA⟩));have z:=y.new E P;refine ak f (by decide) rfl rfl _ (aG rfl rfl) ?_;replace d:=d.put (d:=6) (by decide) (.slice RA 0 0);refine ak f (by decide) rfl rfl _ (aG rfl rfl) ?_;replace d:=d.put (d:=7) (by decide) (.bool RE);refine aj f ?_;refine aM f ?_;refine aX f [0,1,2,3] rfl ?_;refine ak f (by decide) rfl rfl _ (ay rfl (d.of rfl)) ?_;replace d:=d.put (d:=11) (by decide) (.slice (Ry ⟨wb,0,RA⟩) ws.length fh);refine ak f (by decide) rfl rfl _ (qS rfl (d.of rfl) Ua) ?_;replace d:=d.put (d:=12) (by decide) (.int .i64 (ws.length:Int));refine kM f z (by decide) rfl rfl (.cells (madeCells (Value.chan RA).cells (ws.length*T.size)) 193) trivial (fun n=>.slice (Ry ⟨n,0,RA⟩) ws.length ws.length) (AY rfl (d.of rfl) (d.of rfl) Tryz.underlying192 J R (RG _) (by rw[G];omega) (by omega)) fun ct U F Q l D=>?_;replace d:=d.put (d:=13) (by decide) (.slice (Ry ⟨ct,0,RA⟩) ws.length ws.length);have I:=z.new F Q;refine ak f (by decide) rfl rfl _ (aG rfl (d.of rfl)) ?_;replace d:=d.put (d:=8) (by decide) (.slice (Ry ⟨ct,0,RA⟩) ws.length ws.length);refine aj f ?_;refine aM f ?_;refine aM f ?_;refine aX f [0,1,2] rfl ?_;refine ak f (by decide) rfl rfl _ (ay rfl (d.of rfl)) ?_;replace d:=d.put (d:=14) (by decide) (.slice (Ry ⟨wb,0,RA⟩) ws.length fh);refine ak f (by decide) rfl rfl _ (qS rfl (d.of rfl) Ua) ?_;replace d:=d.put (d:=15) (by decide) (.int .i64 (ws.length:Int));refine ak f (by decide) rfl rfl (.int .i64 ((0:Nat):Int)) (ay rfl rfl) ?_;replace d:=d.put (d:=16) (by decide) (.int .i64 ((0:Nat):Int));refine aj f ?_;refine fG f ?_;refine sI f ?_;have q:∀ b,b<w0.heap.size→S b∨(b<w0.heap.size∧¬ S b):=fun b j=>by
  rcases Classical.em (S b) with h|h
  ·exact .inl h
  ·exact .inr ⟨j,h⟩
 refine go_loop (bb:=bb) (fb:=fb) (ct:=ct) p (fun ch lb O w a g js μ h=>K bb fb ct ch lb O w a g js μ h) ws.length 0 (by omega) _ U _ (fun _=>0) _ ⟨(((((d.nil.cons (d.slot 2 _ rfl)).cons (d.slot 3 _ rfl)).cons (d.slot 4 _ rfl)).cons (d.slot 8 _ rfl)).cons (d.slot 15 _ rfl)).cons (d.slot 16 _ rfl),by simp only[put_defers],⟨⟨?_,?_,?_,?_,fun b j=>?_⟩,fun b j=>?_,I,fun b j t=>?_,.inl (.inl (.inr rfl)),.inl (.inr rfl),u,by omega,?_,?_⟩,.inr rfl,by omega,by omega,by omega,?_,⟨fun A _ m=>absurd m (by omega),fun c H=>absurd rfl H,fun A _ m=>absurd m (by omega),fun A m=>absurd m (by omega)⟩⟩
 ·rw[l.os,o.os,r.os]
 ·rw[l.tape,o.tape,r.tape]
 ·rw[l.output,o.output,r.output]
 ·omega
 ·rw[l.at_ b ((q b j).imp (fun h=>h) (fun h=>.inl (.inl h))),o.at_ b ((q b j).imp (fun h=>h) (fun h=>.inl h)),r.at_ b (q b j)]
 ·exact(q b j).imp (fun h=>h) (fun h=>.inl (.inl (.inl h)))
 ·have:=p.sz b j;rcases t with((t|rfl)|rfl)|rfl
  ·exact t.2 j
  ·omega
  ·omega
  ·omega
 ·rw[l.at_ bb (.inr (.inl (.inr rfl))),o.at_ bb (.inr (.inr rfl))];exact B
 ·rw[l.at_ fb (.inr (.inr rfl))];exact C
 ·rw[AG,← L];exact D
def Oa (w:RD)(N:Nat)(ws:List Bool)(V:Nat→List aD)(f:Uw)(w':RD):Prop:=
 ∃ lb js g,f= .returned (.tuple #[.slice (Ry ⟨lb,0,RA⟩) ws.length ws.length,.bool js])∧Below w.heap.size w w'∧w.heap.size≤lb∧w'.heap[lb]? =Ry (.cells (eG ws g V N ws.length).toArray 43 (0,0))∧(∀ b,ws[b]? =Ry RF→Row w' (g b) N (V b)∧w.heap.size≤g b)∧(js=RF↔∀ b,ws[b]? =Ry RF→(V b).length=N)
theorem D2.at(b:D2 S w s k e N cb n kb nk eb ne wb ws V)(d:Nat):D2 S (w.at d) s k e N cb n kb nk eb ne wb ws V:=
 ⟨b.sz,fun h f=>⟨(b.sin h f).1.rel fun _ _=>rfl,(b.sin h f).2⟩,b.wl,fun h j f=>b.wc h j f,b.nn,b.mm,b.pos⟩
theorem D8(p:D2 S w s k e N cb n kb nk eb ne wb ws V):kA (aa.of Rz) Rz Post 78 #[nY (N:Int) cb n cap,n7 kb nk ck eb ne ce x,.slice (Ry ⟨wb,0,RA⟩) ws.length fh] w (Oa w N ws V):=by
 intro c cs u G F t;refine Ip S (fun d=>d<w.heap.size∧¬ S d) (fun d b=>⟨p.sz d b,fun h=>h.2 b⟩) (fun d b=>b.1) fun I A=>?_;obtain⟨o,rfl⟩:=A;refine JQ (w0:=w.at o) (p.at o) fun bb fb ct ch lb O w' a g js μ h=>?_;refine KT (fun c=>?_) fun r f z=>?_
 ·cases y:μ c with
  |none=>rfl
  |some H=>
   obtain⟨l,m,E,_⟩:=h.Re.no c (by rw[y];simp);omega
 ·have b:=h.own.FX;have v:∀ d,d<w.heap.size→r.heap[d]? =w.heap[d]? :=fun d q=>(f.at_ d (h.own.low d q)).trans (b.block d q);refine t (.returned (.tuple #[.slice (Ry ⟨lb,0,RA⟩) ws.length ws.length,.bool js])) r ⟨lb,js,g,rfl,⟨f.os.trans b.os,f.tape.trans b.tape,f.output.trans b.output,R4 b.size f.size,v⟩,h.ll,(f.at_ lb (.inr h.ol)).trans h.hl,fun l j=>?_,?_⟩ z ⟨f.tape.trans b.tape,f.os.trans b.os,f.output.trans b.output,R4 b.size f.size⟩ (lI u _)
  ·obtain⟨B,C,_,D⟩:=h.rows l (R8.1 j).1 j;exact⟨B.same (f.at_ _ (.inr C)),D⟩
  ·rw[h.ok];exact⟨fun m l j=>m l (R8.1 j).1 j,fun m l _ j=>m l j⟩
end
end Cc
namespace Cc
open Go Go.Conc
open Go.RowKit (Below)
open Ec (aD aE cj cY p9 ud qv)
def mq (rs:List cj)(val:Int→Nat→aD)(p:Nat):Bool:=rs.all fun b=>ud (val b.col p) b
theorem zK{rs:List cj}{val:Int→Nat→aD}{p:Nat}:mq rs val p=RF↔∀ i (h:i<rs.length),ud (val rs[i].col p) rs[i]=RF:=by
 unfold mq;rw[Sf];constructor
 ·intro h i b;exact h _ (RV b)
 ·intro h e d;obtain⟨i,b,rfl⟩:=List.mem_iff_getElem.1 d;exact h i b
theorem sS(Go:List cI→Bool)(pre:List cI)(x:cI)(b:List cI):feed Go pre (x :: b)=if Go (pre ++ [x]) then feed Go (pre ++ [x]) b else(pre ++ [x],RE):=rfl
section
variable {Post:RB→RD→Prop}{J:List cI→(Nat→Prop)→RD→Prop}{Go:List cI→Bool}{w0 w:RD}{M0 M own:Nat→Prop}{l first N p qb:Nat}{pre:List cI}{a:TZ}{cs:List RU}{ah:List Int}{rs:List cj}{co:Option Sl}{cb bk aF:Nat}{ro:Option Sl}{rb bq aI lb m mc:Nat}{val:Int→Nat→aD}{a0 b0 c0:RB}{sk:Bool}{c:RU}
theorem KB(h:D3 J w0 w M0 M own #[a0,b0,c0,.slice co ah.length aF,.slice ro rs.length aI,.bool sk] (.slice (Ry ⟨lb,0,RA⟩) m mc) l first N N qb pre a)(f:Xe (aa.of Rz) Rz Post own (c.finish (.bool RF)) cs w):
 Xe (aa.of Rz) Rz Post own ((base 79).at a [.code (gF T4),.inLoop (gF T4),.inBlock 0,.code (px T4)]) (c :: cs) w:=by
 have b:=fZ (aa.of Rz) Rz Post;have d:=h.kn;refine aM b ?_;refine aX b [0] rfl ?_;refine ak b (by decide) rfl rfl (.bool RE) (iE rfl (d.of rfl) (d.of rfl) (by simp)) ?_;replace d:=d.put (d:=14) (by decide) (.bool RE);refine aj b ?_;refine aM b ?_;refine cN b RE (d.of rfl) ?_;refine sH b (k':=[.code (px T4)]) rfl ?_;refine aM b ?_;refine aX b [0] rfl ?_;refine ak b (by decide) rfl rfl (.bool RF) (aG rfl rfl) ?_;replace d:=d.put (d:=10) (by decide) (.bool RF);refine aj b ?_;refine nZ b ?_;have e:=jl (P:=Rz) Tryz.results79 (d.slot 10 _ rfl);exact gA b rfl (by simp only[put_defers];exact h.df) Tryz.func79 e.1 e.2 f
theorem oF{y:Bool}(b:Knows a 33 [(31,.bool y),(13,.int .i64 (p:Int)),(12,.int .i64 (N:Int)),(5,.pointer (Ry ⟨qb,0,RA⟩)),(4,.func (.yield l) #[] #[]),(2,.int .i64 (first:Int)),(1,.slice (Ry ⟨lb,0,RA⟩) m mc)])(e:a.defers=[])(i:p<N)(h:first+N≤1000000)
 (f:(y=RF→Xe (aa.of Rz) Rz Post own (c.finish (.bool RE)) cs w)∧(y=RE→∀ a',Knows a' 33 [(13,.int .i64 ((p+1:Nat):Int)),(12,.int .i64 (N:Int)),(5,.pointer (Ry ⟨qb,0,RA⟩)),(4,.func (.yield l) #[] #[]),(2,.int .i64 (first:Int)),(1,.slice (Ry ⟨lb,0,RA⟩) m mc)]→a'.defers=[]→Xe (aa.of Rz) Rz Post own ((base 79).at a' [.code (gF T4),.inLoop (gF T4),.inBlock 0,.code (px T4)]) (c :: cs) w)):
 Xe (aa.of Rz) Rz Post own ((base 79).at a (lK T4)) (c :: cs) w:=by
 have d:=fZ (aa.of Rz) Rz Post;cases y with
 |true=>
  refine cN d RF (b.of rfl) ?_;refine aM d ?_;refine aX d [0] rfl ?_;refine ak d (by decide) rfl rfl (.bool RE) (aG rfl rfl) ?_;replace b:=b.put (d:=10) (by decide) (.bool RE);refine aj d ?_;refine nZ d ?_;have g:=jl (P:=Rz) Tryz.results79 (b.slot 10 _ rfl);exact gA d rfl (by simp only[put_defers];exact e) Tryz.func79 g.1 g.2 (f.1 rfl)
 |false=>
  refine cN d RE (b.of rfl) ?_;refine gB d ?_;refine gP d ?_;refine aX d [0,1] rfl ?_;refine ak d (by decide) rfl rfl _ (mJ (j:=1) rfl (b.of rfl) rfl (by omega)) ?_;replace b:=b.put (d:=32) (by decide) (.int .i64 ((p+1:Nat):Int));refine ak d (by decide) rfl rfl _ (ay rfl (b.of rfl)) ?_;replace b:=b.put (d:=13) (by decide) (.int .i64 ((p+1:Nat):Int));refine aj d ?_;refine j3 d ?_;exact f.2 rfl _ ((((((b.nil.cons (b.slot 1 _ rfl)).cons (b.slot 2 _ rfl)).cons (b.slot 4 _ rfl)).cons (b.slot 5 _ rfl)).cons (b.slot 12 _ rfl)).cons (b.slot 13 _ rfl)) (by simp only[put_defers];exact e)
theorem Hw(h:D3 J w0 w M0 M own #[a0,b0,c0,.slice co ah.length aF,.slice ro rs.length aI,.bool sk] (.slice (Ry ⟨lb,0,RA⟩) m mc) l first N p qb pre a)(f:p<N)
 (e:∀ a',Knows a' 33 [(11,.int .i64 (p:Int)),(13,.int .i64 (p:Int)),(12,.int .i64 (N:Int)),(5,.pointer (Ry ⟨qb,0,RA⟩)),(4,.func (.yield l) #[] #[]),(2,.int .i64 (first:Int)),(1,.slice (Ry ⟨lb,0,RA⟩) m mc)]→a'.defers=[]→Xe (aa.of Rz) Rz Post own ((base 79).at a' (.code (.region 4 (vq T4) RE) :: lK T4)) cs w):
 Xe (aa.of Rz) Rz Post own ((base 79).at a [.code (gF T4),.inLoop (gF T4),.inBlock 0,.code (px T4)]) cs w:=by
 have d:=fZ (aa.of Rz) Rz Post;have b:=h.kn;refine aM d ?_;refine aX d [0] rfl ?_;refine ak d (by decide) rfl rfl (.bool RF) (iE rfl (b.of rfl) (b.of rfl) (by simp;omega)) ?_;replace b:=b.put (d:=14) (by decide) (.bool RF);refine aj d ?_;refine aM d ?_;refine cN d RF (b.of rfl) ?_;refine gB d ?_;refine aM d ?_;refine fG d ?_;refine aM d ?_;refine aX d [0,1] rfl ?_;refine ak d (by decide) rfl rfl _ (ay rfl (b.of rfl)) ?_;replace b:=b.put (d:=15) (by decide) (.int .i64 (p:Int));refine ak d (by decide) rfl rfl _ (aG rfl (b.of rfl)) ?_;replace b:=b.put (d:=11) (by decide) (.int .i64 (p:Int));refine aj d ?_;refine aM d ?_;exact e _ ((((((b.nil.cons (b.slot 1 _ rfl)).cons (b.slot 2 _ rfl)).cons (b.slot 4 _ rfl)).cons (b.slot 5 _ rfl)).cons (b.slot 12 _ rfl)).cons (b.slot 13 _ rfl) |>.cons (b.slot 11 _ rfl)) (by simp only[put_defers];exact h.df)
theorem Hx(C:Cons (aa.of Rz) Rz Post l J Go)(hF:∀ t,(∀ b,b<w0.heap.size→¬ M0 b→l9 t w0 b)→w0.heap.size≤t.heap.size→QB t ah rs co cb bk ro rb bq lb m N val)(i:first+N≤1000000)(hc:ah.length≤1000)(L:rs.length≤R3):∀ (n p:Nat),p+n=N→∀ pre own M w a,pre.length+n≤2000→
 D3 J w0 w M0 M own #[a0,b0,c0,.slice co ah.length aF,.slice ro rs.length aI,.bool sk] (.slice (Ry ⟨lb,0,RA⟩) m mc) l first N p qb pre a→
 (∀ own' g w',J (feed Go pre (ed (mq rs val) (fun p=>ah.map fun k=>val k p) first p n)).1 g w'→Kept w0 w' M0 g own'→(∀ b,own' b→b<w'.heap.size)→Xe (aa.of Rz) Rz Post own' (c.finish (.bool (feed Go pre (ed (mq rs val) (fun p=>ah.map fun k=>val k p) first p n)).2)) cs w')→
 Xe (aa.of Rz) Rz Post own ((base 79).at a [.code (gF T4),.inLoop (gF T4),.inBlock 0,.code (px T4)]) (c :: cs) w:=by
 intro n
 induction n with
 |zero=>
  intro p K pre own M w a G d e;have:p=N:=by omega
  subst this;exact KB d (e own M w d.j d.kept d.bd)
 |succ n A=>
  intro p K pre own M w a G d e;refine Hw d (by omega) fun Q B E=>?_;refine Cx (val:=val) C hF (by omega) (by omega) i hc L B E d.j d.kept d.bd d.oq d.nq d.lq d.hq (fun own' w' D H f o q r j x y=>?_) (fun own' g w' D P f o q r j x I y=>?_)
  ·have F:mq rs val p=RE:=by
    cases h:mq rs val p with
    |false=>rfl
    |true=>exact absurd (zK.1 h) H
   have h:ed (mq rs val) (fun p=>ah.map fun k=>val k p) first p (n+1)=ed (mq rs val) (fun p=>ah.map fun k=>val k p) first (p+1) n:=by
    simp[ed,F]
   rw[h] at e;refine oF f o (by omega) i ⟨fun d=>(by cases d),fun _ u s v=>?_⟩;exact A (p+1) (by omega) pre own' M w' u (by omega) ⟨s,v,q,r,j,x,d.nq,d.lq,y⟩ e
  ·have O:=zK.2 P;have h:ed (mq rs val) (fun p=>ah.map fun k=>val k p) first p (n+1)=(first+p,ah.map fun k=>val k p) :: ed (mq rs val) (fun p=>ah.map fun k=>val k p) first (p+1) n:=by
    simp[ed,O]
   rw[h] at e;rw[sS] at e;cases z:Go (pre ++ [(first+p,ah.map fun k=>val k p)]) with
   |true=>
    rw[z] at f e;simp only[if_true] at e;refine oF f o (by omega) i ⟨fun d=>(by cases d),fun _ u s v=>?_⟩;exact A (p+1) (by omega) _ own' g w' u (by simp;omega) ⟨s,v,q,r,j,x,I,d.lq,y⟩ e
   |false=>
    rw[z] at f e;simp only[Sa,if_false] at e;exact oF f o (by omega) i ⟨fun _=>e own' g w' q r j,fun d=>(by cases d)⟩
theorem Rr(v0 v1 v2 d e:RB)(m:Nat)(i:5≤m):Knows ⟨#[v0,v1,v2,d,e] ++ SN (m - 5) SP,[]⟩ m [(0,v0),(1,v1),(2,v2),(3,d),(4,e)]:=by
 have b:∀ f v,(#[v0,v1,v2,d,e]:Array RB)[f]? =Ry v→aS ⟨#[v0,v1,v2,d,e] ++ SN (m - 5) SP,[]⟩ f=v:=fun f v g=>by
  unfold aS;rw[Se,Array.getElem?_append_left (RH.1 g).1,g];rfl
 refine Knows.cons (Knows.cons (Knows.cons (Knows.cons (Knows.cons (l:=[]) ⟨?_,fun s v h=>by simp at h⟩ (b 4 e rfl)) (b 3 d rfl)) (b 2 v2 rfl)) (b 1 v1 rfl)) (b 0 v0 rfl);simp;omega
def Oc (J:List cI→(Nat→Prop)→RD→Prop)(M0:Nat→Prop)(w0:RD)(e:List cI×Bool)(f:Uw)(w':RD):Prop:=
 f= .returned (.bool e.2)∧∃ d,J e.1 d w'∧(∀ b,b<w0.heap.size→¬ M0 b→w'.heap[b]? =w0.heap[b]?)∧w0.heap.size≤w'.heap.size∧∀ b,d b→M0 b∨w0.heap.size≤b
theorem EF(C:Cons (aa.of Rz) Rz Post l J Go)(r:J pre M0 w0)(hF:∀ n,(∀ b,b<w0.heap.size→¬ M0 b→l9 n w0 b)→w0.heap.size≤n.heap.size→QB n ah rs co cb bk ro rb bq lb m N val)(u:first+N≤1000000)(hc:ah.length≤1000)(E:rs.length≤R3)(A:pre.length+N≤2000):
 kA (aa.of Rz) Rz Post 79 #[qv a0 b0 c0 (.slice co ah.length aF) (.slice ro rs.length aI) sk,.slice (Ry ⟨lb,0,RA⟩) m mc,.int .i64 (first:Int),.int .i64 (N:Int),.func (.yield l) #[] #[]] w0 (Oc J M0 w0 (feed Go pre (ed (mq rs val) (fun p=>ah.map fun k=>val k p) first 0 N))):=by
 intro c cs G O B t;have f:=fZ (aa.of Rz) Rz Post;refine Xe.go (own:=fun b=>b<w0.heap.size) ?_ (fun b i=>i) B;rw[enter_at _ Tryz.func79 rfl];have d:=Rr (qv a0 b0 c0 (.slice co ah.length aF) (.slice ro rs.length aI) sk) (.slice (Ry ⟨lb,0,RA⟩) m mc) (.int .i64 (first:Int)) (.int .i64 (N:Int)) (.func (.yield l) #[] #[]) 33 (by decide);have y:sj Il (fun b=>b<w0.heap.size) w0:=fun b e=>e.elim Vt (fun i=>i);refine aM f ?_;refine aX f [0,1] rfl ?_;refine kM f y (by decide) rfl rfl (.cells #[a0,b0,c0,.slice co ah.length aF,.slice ro rs.length aI,.bool sk] 115) trivial (fun H=>.pointer (Ry ⟨H,0,RA⟩)) (sZ (v:=qv a0 b0 c0 (.slice co ah.length aF) (.slice ro rs.length aI) sk) rfl (d.of rfl)) fun qb I x P F v=>?_;replace d:=d.put (d:=5) (by decide) (.pointer (Ry ⟨qb,0,RA⟩));refine ak f (by decide) rfl rfl _ (aG rfl rfl) ?_;replace d:=d.put (d:=10) (by decide) (.bool RE);refine aj f ?_;refine aM f ?_;refine aM f ?_;refine aX f [0,1] rfl ?_;refine ak f (by decide) rfl rfl _ (ay rfl (d.of rfl)) ?_;replace d:=d.put (d:=12) (by decide) (.int .i64 (N:Int));refine ak f (by decide) rfl rfl (.int .i64 ((0:Nat):Int)) (ay rfl rfl) ?_;replace d:=d.put (d:=13) (by decide) (.int .i64 ((0:Nat):Int));refine aj f ?_;refine fG f ?_;refine sI f ?_;have j:=EM F;have o:=C.bound _ _ _ r;refine Hx (w0:=w0) (M0:=M0) (val:=val) C hF u hc E N 0 (by omega) pre _ M0 I _ A ⟨((((((d.nil.cons (d.slot 1 _ rfl)).cons (d.slot 2 _ rfl)).cons (d.slot 4 _ rfl)).cons (d.slot 5 _ rfl)).cons (d.slot 12 _ rfl)).cons (d.slot 13 _ rfl)),by simp only[put_defers],C.jn _ _ _ _ r (fun b e=>j.at_ b (o b e)) j.size,⟨fun b e q=>⟨.inl e,j.at_ b e⟩,fun b e=>.inl e,fun b e=>.inl (o b e),j.size,j.tape,j.os,j.output⟩,fun b e=>e.elim (fun i=>by omega) (fun i=>by omega),.inr rfl,fun i=>by have:=o qb i;omega,x,v⟩ fun Q s R z g L=>?_;intro _ K h D;refine t _ K ⟨rfl,s,C.jn _ _ _ _ z (fun b e=>h.at_ b (g.qf b e)) h.size,fun b e q=>(h.at_ b (g.keep b e q).1).trans (g.keep b e q).2,R4 g.size h.size,g.ext⟩ D ⟨h.tape.trans g.tape,h.os.trans g.os,h.output.trans g.output,R4 g.size h.size⟩ (lI G _)
end
end Cc
namespace Cc
open Go Go.Conc
open Go.RowKit (Below)
open Ec (aD aE cj cY p9 vI ud qv bO Bd ju kL cH aP vS nT mG)
structure FM(W:RD)(l:List (bO×Int))(bs:List Bd)(ah:List Int)(rs:List cj)(kb eb:Nat)(dO:Option Sl)(db:Nat)(ct mj:Nat→Nat)(co:Option Sl)(cb bk:Nat)(ro:Option Sl)(rb bq:Nat):Prop where
 k:∀ j x,l[j]? =Ry x→W.cell? ⟨kb,0+j*2+1,RA⟩=Ry (.int .i64 x.1.kind)
 e:∀ j x,l[j]? =Ry x→W.cell? ⟨eb,0+j*1,RA⟩=Ry (.int .i64 x.2)
 d:∀ i b,bs[i]? =Ry b→W.rangeAt db (0+i*2) [.int .i64 (b.rows:Int),.slice (Ry ⟨ct i,0,RA⟩) l.length (mj i)]
 c:∀ i b,bs[i]? =Ry b→∀ j x,b.chunks[j]? =Ry x→∀ t u,(cH x)[t]? =Ry u→W.cell? ⟨ct i,j*8+t,RA⟩=Ry u
 lk:kb<W.heap.size
 le:eb<W.heap.size
 da:0<bs.length→dO=Ry ⟨db,0,RA⟩
 ld:0<bs.length→db<W.heap.size
 lc:∀ i,i<bs.length→ct i<W.heap.size
 ca:0<ah.length→co=Ry ⟨cb,bk,RA⟩
 cl:0<ah.length→cb<W.heap.size
 cc:∀ j,j<ah.length→W.cell? ⟨cb,bk+j,RA⟩=Ry (.int .i64 (ah.getD j 0))
 nr:cY W ro rb bq rs
structure FQ(l:List (bO×Int))(bs:List Bd)(ah:List Int)(rs:List cj)(V:Nat→Nat→List aD):Prop where
 len:∀ b∈bs,b.chunks.length=l.length
 m:l.length≤1000
 pos:0<l.length
 rows:∀ b∈bs,b.rows≤100
 tot:(bs.map (·.rows)).sum≤2000
 nb:bs.length≤100000
 cn:ah.length≤1000
 rn:rs.length≤R3
 ck:∀ k∈ah,0≤k∧k<(l.length:Int)
 rk:∀ r∈rs,0≤r.col∧r.col<(l.length:Int)
 dec:∀ (i:Nat) b,bs[i]? =Ry b→∀ (j:Nat) x y,b.chunks[j]? =Ry x→l[j]? =Ry y→x.text.size≤R3∧oe x.text y.1.kind y.2 (b.rows:Int) (V i j)
def wU:ju:=⟨⟨#[]⟩,Ec.bZ⟩
def rowsOf(bs:List Bd)(i:Nat):Nat:=(bs.map (·.rows)).getD i 0
def gd (bs:List Bd)(i:Nat):Nat:=((bs.take i).map (·.rows)).sum
def xd (bs:List Bd)(rs:List cj)(i:Nat):Bool:=rs.any fun a=>Ec.qT (((bs.getD i ⟨0,[]⟩).chunks.getD a.col.toNat wU).dU) a
def BG (V:Nat→Nat→List aD)(i:Nat)(k:Int)(p:Nat):aD:=(V i k.toNat).getD p ⟨RE,0,⟨#[]⟩⟩
def EN (bs:List Bd)(ws:List Bool)(V:Nat→Nat→List aD)(i:Nat):Bool:=(Sw ws.length).all fun a=> !ws.getD a RE || (V i a).length == rowsOf bs i
def ix (bs:List Bd)(ah:List Int)(rs:List cj)(V:Nat→Nat→List aD)(i:Nat):List cI:=ed (mq rs (BG V i)) (fun b=>ah.map fun a=>BG V i a b) (gd bs i) 0 (rowsOf bs i)
def fq (sk:Bool)(bs:List Bd)(ah:List Int)(rs:List cj)(ws:List Bool)(V:Nat→Nat→List aD)(Go:List cI→Bool):Nat→Nat→List cI→Nat→List cI×Nat×Nat
 |i,0,pre,a=>(pre,a,0)
 |i,b+1,pre,a=>if sk && xd bs rs i then fq sk bs ah rs ws V Go (i+1) b pre a else if EN bs ws V i then(if (feed Go pre (ix bs ah rs V i)).2 then fq sk bs ah rs ws V Go (i+1) b (feed Go pre (ix bs ah rs V i)).1 (a+1) else((feed Go pre (ix bs ah rs V i)).1,a+1,0)) else(pre,a+1,3)
theorem oa(nt:Nat→Bool)(a:Nat→List aD)(first:Nat):∀ (n p:Nat),(ed nt a first p n).length≤n
 |0,p=>RG _
 |n+1,p=>by
  have:=oa nt a first n (p+1)
  simp only[ed]
  split
  ·simp;omega
  ·omega
theorem tZ(Go:List cI→Bool):∀ (a pre:List cI),(feed Go pre a).1.length≤pre.length+a.length
 | [],pre=>RG _
 |x :: a,pre=>by
  rw[sS]
  split
  ·have:=tZ Go a (pre ++ [x]);simp at this ⊢;omega
  ·simp
theorem rB{bs:List Bd}{i:Nat}{b:Bd}(h:bs[i]? =Ry b):gd bs (i+1)=gd bs i+b.rows:=by
 obtain⟨a,rfl⟩:=R8.1 h;unfold gd;rw[RR a,SQ,List.sum_append];simp only[UP,List.map_nil,List.sum_cons,List.sum_nil,Nat.add_zero]
theorem wu(bs:List Bd):∀ i,gd bs i≤(bs.map (·.rows)).sum:=by
 intro i;have a:(bs.map (·.rows)).sum=((bs.take i).map (·.rows)).sum+((bs.drop i).map (·.rows)).sum:=by
  rw[← List.sum_append,← SQ,Ul]
 unfold gd;omega
theorem tB{bs:List Bd}{i:Nat}{b:Bd}(h:bs[i]? =Ry b):rowsOf bs i=b.rows:=by
 unfold rowsOf;simp[RX,h]
theorem PU:(Tryz.f76.name == "runtime.NumGoroutine")=RE:=by kernel_rfl
theorem Qx:(Tryz.f77.name == "runtime.NumGoroutine")=RE:=by kernel_rfl
theorem PG:(SB.name == "runtime.NumGoroutine")=RE:=by kernel_rfl
theorem PL:(T4.name == "runtime.NumGoroutine")=RE:=by kernel_rfl
section
variable {W:RD}{l:List (bO×Int)}{bs:List Bd}{ah:List Int}{rs:List cj}{kb eb db:Nat}{dO:Option Sl}{ct mj:Nat→Nat}{co:Option Sl}{cb bk:Nat}{ro:Option Sl}{rb bq:Nat}{V:Nat→Nat→List aD}
theorem FM.QX(h:FM W l bs ah rs kb eb dO db ct mj co cb bk ro rb bq)(q:FQ l bs ah rs V){i:Nat}{b:Bd}(d:bs[i]? =Ry b):∀ r∈rs,vI W (ct i) l.length r.col ((b.chunks.getD r.col.toNat wU).dU):=by
 intro r m;obtain⟨g,s⟩:=q.rk r m;obtain⟨c,e⟩:=Int.eq_ofNat_of_zero_le g;have t:=q.len b (Td d);have k:c<b.chunks.length:=by omega
 have f:b.chunks[c]? =Ry b.chunks[c]:=RS k;have j:b.chunks.getD r.col.toNat wU=b.chunks[c]:=by rw[e,RX];simp[f]
 rw[j];have a:=fun o p n=>h.c i b d c _ f o p n;refine⟨c,e,by omega,h.lc i (R8.1 d).1,a 1 _ rfl,a 2 _ rfl,a 3 _ rfl,a 4 _ rfl,a 5 _ rfl,a 6 _ rfl,a 7 _ rfl⟩
theorem CJ{n:Nat}{b:List Int}{j:Nat}:(aP n b)[j]? =Ry RF↔j<n∧(j:Int)∈b:=by
 unfold aP;rcases Ts j n with a|a
 ·simp[a,List.any_eq_true]
 ·simp[a];omega
theorem FM.bin(h:FM W l bs ah rs kb eb dO db ct mj co cb bk ro rb bq)(q:FQ l bs ah rs V){i:Nat}{b:Bd}(a:bs[i]? =Ry b){g:Nat}(k:W.heap[g]? =Ry (.cells (vS (aP l.length (ah ++ rs.map cj.col))).toArray 4 (0,0))):
 D2 (fun x=>x=ct i∨x=kb∨x=eb) W (fun j=>(b.chunks.getD j wU).text) (fun j=>(l.getD j (⟨⟨#[]⟩,0⟩,0)).1.kind) (fun j=>(l.getD j (⟨⟨#[]⟩,0⟩,0)).2) b.rows (ct i) l.length kb l.length eb l.length g (aP l.length (ah ++ rs.map cj.col)) (V i):=by
 have r:=q.len b (Td a);have p:g<W.heap.size:=(RH.1 k).1;refine⟨fun x d=>?_,fun j e=>?_,p,fun j s e=>?_,?_,?_,by omega⟩
 ·rcases d with rfl|rfl|rfl
  ·exact h.lc i (R8.1 a).1
  ·exact h.lk
  ·exact h.le
 ·have c:j<l.length:=(CJ.1 e).1;have d:b.chunks[j]? =Ry (b.chunks.getD j wU):=by
   have o:j<b.chunks.length:=by omega
   rw[RX,RS o];rfl
  have f:l[j]? =Ry (l.getD j (⟨⟨#[]⟩,0⟩,0)):=by rw[RX,RS c];rfl
  obtain⟨m,n⟩:=q.dec i b a j _ _ d f;refine⟨⟨.inl rfl,.inr (.inl rfl),.inr (.inr rfl),c,c,c,?_,h.k j _ f,h.e j _ f⟩,m,n⟩;have:=h.c i b a j _ d 0 _ rfl;rw[SA];exact this
 ·unfold R2;simp only[k,SA,Vs];simp[vS,e]
 ·have:=q.rows b (Td a);omega
 ·rw[Ec.jQ];have:=q.m;omega
end
def gJ (fn:Uj):UR:=match fn.body with
 |some (.seq _ (.seq _ (.seq _ (.seq (.seq _ (.block _ (.loop c))) _))))=>c
 |_=>.skip
def pQ (fn:Uj):UR:=match fn.body with
 |some (.seq _ (.seq _ (.seq _ (.seq _ c))))=>c
 |_=>.skip
def Db (fn:Uj):UR:=match gJ fn with
 | .seq _ (.seq _ (.seq (.block _ (.seq _ (.seq (.seq _ (.cond _ c _)) _))) _))=>c
 |_=>.skip
def rS (fn:Uj):List Uk:=match gJ fn with
 | .seq _ (.seq _ (.seq (.block _ (.seq _ (.seq _ c))) d))=>[.code c,.inBlock 1,.code d,.inLoop (gJ fn),.inBlock 0,.code (pQ fn)]
 |_=>[]
structure oo(J:List cI→(Nat→Prop)→RD→Prop)(w0 w:RD)(M0 M own:Nat→Prop)(q:Array RB)(l first n i nb qb wb m:Nat)(bsv:RB)(ws:List Bool)(pre:List cI)(a:TZ):Prop where
 kn:Knows a 59 [(18,.int .i64 (i:Int)),(17,.int .i64 (nb:Int)),(16,bsv),(7,.int .i64 (first:Int)),(6,.slice (Ry ⟨wb,0,RA⟩) m m),(4,.int .i64 (n:Int)),(2,.pointer (Ry ⟨qb,0,RA⟩)),(1,.func (.yield l) #[] #[])]
 df:a.defers=[]
 j:J pre M w
 kept:Kept w0 w M0 M own
 bd:∀ b,own b→b<w.heap.size
 oq:own qb
 nq:¬ M qb
 lq:w0.heap.size≤qb
 hq:w.heap[qb]? =Ry (.cells q 115 (0,0))
 ow:own wb
 nw:¬ M wb
 lw:w0.heap.size≤wb
 hw:w.heap[wb]? =Ry (.cells (vS ws).toArray 4 (0,0))
section
variable {Post:RB→RD→Prop}{J:List cI→(Nat→Prop)→RD→Prop}{Go:List cI→Bool}{w0 w:RD}{M0 M own:Nat→Prop}{lp first n i qb wb:Nat}{pre:List cI}{a:TZ}{cs:List RU}{l:List (bO×Int)}{bs:List Bd}{ah:List Int}{rs:List cj}{kb eb db:Nat}{dO:Option Sl}{ct mj:Nat→Nat}{co:Option Sl}{cb bk aF:Nat}{ro:Option Sl}{rb bq aI:Nat}{V:Nat→Nat→List aD}{a0 b0:RB}{cJ:Nat}{sk:Bool}{ws:List Bool}{b:Bd}
theorem nE{c:RD}{q:Array RB}{t:RO}{g:Nat}(h:c.heap[g]? =Ry (.cells q t (0,0))):c.rangeAt g 0 q.toList:=fun e v d=>by
 unfold R2;simp only[h];rw[SA];simpa using d
theorem jI{c:RD}{q:Array RB}{t:RO}{g o:Nat}{v:RB}(h:c.heap[g]? =Ry (.cells q t (0,0)))(d:q[o]? =Ry v):c.cell? ⟨g,o,RA⟩=Ry v:=by
 unfold R2;simp only[h];exact d
theorem IM(C:Cons (aa.of Rz) Rz Post lp J Go)(q:FQ l bs ah rs V)(hF:∀ g,(∀ b,b<w0.heap.size→¬ M0 b→l9 g w0 b)→w0.heap.size≤g.heap.size→FM g l bs ah rs kb eb dO db ct mj co cb bk ro rb bq)(f:bs[i]? =Ry b)(a5:0<bs.length→¬ M0 db)
 (h:oo J w0 w M0 M own #[a0,b0,.slice dO bs.length cJ,.slice co ah.length aF,.slice ro rs.length aI,.bool sk] lp first n i bs.length qb wb l.length (.slice dO bs.length cJ) ws pre a)
 (U:∀ own' w' a' e,oo J w0 w' M0 M own' #[a0,b0,.slice dO bs.length cJ,.slice co ah.length aF,.slice ro rs.length aI,.bool sk] lp first n i bs.length qb wb l.length (.slice dO bs.length cJ) ws pre a'→aS a' 9= .pointer (Ry ⟨e,0,RA⟩)→own' e→¬ M e→w0.heap.size≤e→e≠qb→e≠wb→w'.heap[e]? =Ry (.cells #[.int .i64 (b.rows:Int),.slice (Ry ⟨ct i,0,RA⟩) l.length (mj i)] 139 (0,0))→
   Xe (aa.of Rz) Rz Post own' ((base 54).at a' ((if !(sk && xd bs rs i) then[.code (Db Uy)] else[.code .skip]) ++ rS Uy)) cs w'):
 Xe (aa.of Rz) Rz Post own ((base 54).at a [.code (gJ Uy),.inLoop (gJ Uy),.inBlock 0,.code (pQ Uy)]) cs w:=by
 have d:=fZ (aa.of Rz) Rz Post;obtain⟨c,G,a2,r,t,k,ab,W,a8,y,ad,Y,bi⟩:=h;have H:i<bs.length:=(R8.1 f).1;have R:sj Il own w:=fun b f=>f.elim Vt (t b);have p:=r.same (fun b bA _ h _=>h) (RG _);have N:=hF w p.1 p.2;have a7:own db:=by
  have s:=hF w0 (fun _ _ _ _ h _=>h) (RG _);exact(r.keep db (s.ld (by omega)) (a5 (by omega))).1
 obtain rfl:=N.da (by omega);have bu:=q.nb;refine aM d ?_;refine aX d [0] rfl ?_;refine ak d (by decide) rfl rfl (.bool RF) (iE rfl (c.of rfl) (c.of rfl) (by simp;omega)) ?_;replace c:=c.put (d:=19) (by decide) (.bool RF);refine aj d ?_;refine aM d ?_;refine cN d RF (c.of rfl) ?_;refine gB d ?_;refine aM d ?_;refine fG d ?_;refine aM d ?_;refine aX d [0,1,2,3] rfl ?_;refine ak d (by decide) rfl rfl _ (eM rfl (c.of rfl) (c.of rfl) Tryz.underlying103 Tryz.sizeOf139 H) ?_;replace c:=c.put (d:=20) (by decide) (.pointer (Ry ⟨db,0+i*2,RA⟩));refine ej d (by decide) rfl rfl _ (eF (cs:=[.int .i64 (b.rows:Int),.slice (Ry ⟨ct i,0,RA⟩) l.length (mj i)]) rfl (c.of rfl) TI rfl mR (.inr a7) (N.d i b f)) ?_;replace c:=c.put (d:=21) (by decide) (.agg #[.int .i64 (b.rows:Int),.slice (Ry ⟨ct i,0,RA⟩) l.length (mj i)]);refine kM d R (by decide) rfl rfl (.cells #[.int .i64 0,.slice RA 0 0] 139) trivial (fun n=>.pointer (Ry ⟨n,0,RA⟩)) (rK rfl Tryz.zeroValue139) fun e b1 a6 bb hrel ar=>?_;replace c:=c.put (d:=9) (by decide) (.pointer (Ry ⟨e,0,RA⟩));have S:=R.new a6 bb;refine qP d S (by decide) rfl rfl (.inr rfl) (.cells #[.int .i64 (b.rows:Int),.slice (Ry ⟨ct i,0,RA⟩) l.length (mj i)] 139) trivial (j8 (n:=e) (off:=0) (v:=.agg #[.int .i64 (b.rows:Int),.slice (Ry ⟨ct i,0,RA⟩) l.length (mj i)]) rfl (c.of rfl) (c.of rfl) mR (fun bo Q=>by simp[Ub] at Q;rcases Q with rfl|rfl<;>rfl) (Or.inr (Or.inr rfl)) ar (RG 2)) fun E j=>?_;replace c:=c.none SP;have bv:=t qb k;have bx:=t wb y;have z:RelB own w E:=⟨fun b I=>(j.at_ b (.inr (.inl I)) (by have:=t b I;omega)).trans (hrel.at_ b (.inr I)),R4 hrel.size j.size,j.tape.trans hrel.tape,j.os.trans hrel.os,j.output.trans hrel.output⟩;have u:=r.rel (own':=fun b=>own b∨b=e) z (fun b h=>.inl h);have T:=C.jn _ _ _ E a2 (fun b f=>z.at_ b (r.qf b f)) z.size;have P:∀ b,own b∨b=e→b<E.heap.size:=fun b f=>(S.set j) b (.inr f);have D:=(z.at_ qb k).trans a8;have am:=(z.at_ wb y).trans bi;have al:∀ b,M b→b≠e:=fun b f F=>by have:=t b (r.qf b f);omega
 have X:w0.heap.size≤e:=by have:=r.size;omega
 refine aj d ?_;refine aM d ?_;refine aM d ?_;refine aX d [0,1,2,3,4,5,6,7,8] rfl ?_;refine ak d (by decide) rfl rfl _ (cK (off':=5) rfl (c.of rfl) T9 rfl Tryz.sizeOf4 rfl) ?_;replace c:=c.put (d:=22) (by decide) (.pointer (Ry ⟨qb,5,RA⟩));refine ej d (by decide) rfl rfl (.bool sk) (bM rfl (c.of rfl) Tryz.isAgg4 (.inr (.inl k)) (jI D rfl)) ?_;replace c:=c.put (d:=23) (by decide) (.bool sk);refine ak d (by decide) rfl rfl _ (wY rfl (c.of rfl)) ?_;replace c:=c.put (d:=24) (by decide) (.bool (!sk));refine ak d (by decide) rfl rfl _ (ay rfl (c.of rfl)) ?_;replace c:=c.put (d:=25) (by decide) (.bool (!sk));cases sk with
 |false=>
  refine cT d rfl (c.want (d:=25) (want:=RE) (b:=RF) rfl rfl rfl (by decide)) ?_;replace c:=c.put (d:=26) (by decide) SP;refine cT d rfl (c.want (d:=25) (want:=RE) (b:=RF) rfl rfl rfl (by decide)) ?_;replace c:=c.put (d:=27) (by decide) SP;refine cT d rfl (c.want (d:=25) (want:=RE) (b:=RF) rfl rfl rfl (by decide)) ?_;replace c:=c.put (d:=28) (by decide) SP;refine cT d rfl (c.want (d:=25) (want:=RE) (b:=RF) rfl rfl rfl (by decide)) ?_;replace c:=c.put (d:=29) (by decide) SP;refine ak d (by decide) rfl rfl (.bool RF) (xa rfl (c.of rfl) rfl) ?_;replace c:=c.put (d:=30) (by decide) (.bool RF);refine aj d ?_;refine cN d RF (c.of rfl) ?_;exact U _ E _ e ⟨(((((((c.nil.cons (c.slot 1 _ rfl)).cons (c.slot 2 _ rfl)).cons (c.slot 4 _ rfl)).cons (c.slot 6 _ rfl)).cons (c.slot 7 _ rfl)).cons (c.slot 16 _ rfl)).cons (c.slot 17 _ rfl)).cons (c.slot 18 _ rfl),by simp only[put_defers];exact G,T,u,P,.inl k,ab,W,D,.inl y,ad,Y,am⟩ (c.slot 9 _ rfl) (.inr rfl) (fun h=>al e h rfl) X (by omega) (by omega) j.set
 |true=>
  refine ej d (by decide) rfl (c.want (d:=25) (want:=RE) (b:=RE) rfl rfl rfl (by decide)) _ (eF (cs:=[a0,b0,.slice (Ry ⟨db,0,RA⟩) bs.length cJ,.slice co ah.length aF,.slice ro rs.length aI,.bool RF]) rfl (c.of rfl) T9 rfl tf (.inr (.inl k)) (nE D)) ?_;replace c:=c.put (d:=26) (by decide) (qv a0 b0 (.slice (Ry ⟨db,0,RA⟩) bs.length cJ) (.slice co ah.length aF) (.slice ro rs.length aI) RF);refine ej d (by decide) rfl (c.want (d:=25) (want:=RE) (b:=RE) rfl rfl rfl (by decide)) _ (eF (cs:=[.int .i64 (b.rows:Int),.slice (Ry ⟨ct i,0,RA⟩) l.length (mj i)]) rfl (c.of rfl) TI rfl mR (.inr (.inr rfl)) (nE j.set)) ?_;replace c:=c.put (d:=27) (by decide) (.agg #[.int .i64 (b.rows:Int),.slice (Ry ⟨ct i,0,RA⟩) l.length (mj i)]);refine BL (R:=fun g F L=>∃ o,F= .returned (.bool o)∧o=xd bs rs i) dY rfl rfl (c.want (d:=25) (want:=RE) (b:=RE) rfl rfl rfl (by decide)) rfl (vM (c.of rfl) (c.of rfl)) Tryz.func77 Qx rfl (jJ rfl rfl rfl).symm (ep rfl (by simp only[put_defers];exact G) (by kernel_rfl)) (fun g p K=>?_) fun v A g L p K br bd bt m=>?_
  ·have O:=hF g (u.same p K).1 (u.same p K).2;refine(mG rs (fun bl=>(b.chunks.getD bl.toNat wU).dU) (b.rows:Int) (ct i) l.length (mj i) a0 b0 (.slice (Ry ⟨db,0,RA⟩) bs.length cJ) (.slice co ah.length aF) ro rb bq aI RF g q.rn O.nr (O.QX q f)).mono fun F L h=>?_;obtain⟨o,rfl,s,ao⟩:=h;refine⟨ao,_,rfl,o,rfl,?_⟩;have a1:bs.getD i ⟨0,[]⟩=b:=by rw[RX,f];rfl
   unfold xd;rw[a1];cases B:o with
   |true=>
    symm
    rw[B] at s;apply TE;intro Z;simp only[Bool.not_eq_true,List.any_eq_false] at Z;have:∀ i (h:i<rs.length),Ec.qT ((b.chunks.getD rs[i].col.toNat wU).dU) rs[i]=RE:=fun i H=>by
     have:=Z rs[i] (RV H);simpa using this
    have:=s.2 this;cases this
   |false=>
    symm
    rw[List.any_eq_false];intro bB ba;obtain⟨bm,bc,rfl⟩:=List.mem_iff_getElem.1 ba;have:=(s.1 B) bm bc;simpa using this
  ·obtain⟨o,B,rfl⟩:=bd;cases B;have a4:=u.rel (own':=grown (fun b=>own b∨b=e) g.heap.size A.heap.size) m (fun b h=>.inl h);have a3:=C.jn _ _ _ A T (fun b f=>m.at_ b (u.qf b f)) m.size;have a9:=(m.at_ qb (.inl k)).trans D;have bj:=(m.at_ wb (.inl y)).trans am;have be:=(m.at_ e (.inr rfl)).trans j.set;have aw:∀ b,grown (fun b=>own b∨b=e) g.heap.size A.heap.size b→b<A.heap.size:=fun b f=>f.elim (fun h=>RK (P b h) m.size) (fun h=>h.2);replace c:=c.put (d:=28) (by decide) (.bool (xd bs rs i));refine ak d (by decide) rfl (c.want (d:=25) (want:=RE) (b:=RE) rfl rfl rfl (by decide)) _ (wY rfl (c.of rfl)) ?_;replace c:=c.put (d:=29) (by decide) (.bool (!xd bs rs i));refine ak d (by decide) rfl rfl _ (wZ rfl (c.of rfl) (c.of rfl)) ?_;replace c:=c.put (d:=30) (by decide) (.bool (!xd bs rs i));refine aj d ?_;refine cN d (!xd bs rs i) (c.of rfl) ?_;have x:=U _ A _ e ⟨(((((((c.nil.cons (c.slot 1 _ rfl)).cons (c.slot 2 _ rfl)).cons (c.slot 4 _ rfl)).cons (c.slot 6 _ rfl)).cons (c.slot 7 _ rfl)).cons (c.slot 16 _ rfl)).cons (c.slot 17 _ rfl)).cons (c.slot 18 _ rfl),by simp only[put_defers];exact G,a3,a4,aw,.inl (.inl k),ab,W,a9,.inl (.inl y),ad,Y,bj⟩ (c.slot 9 _ rfl) (.inl (.inr rfl)) (fun h=>al e h rfl) X (by omega) (by omega) be;rw[Bool.true_and] at x;cases ae:xd bs rs i with
   |true=>rw[ae] at x;exact x
   |false=>rw[ae] at x;exact x
end
end Cc
namespace Cc
open Go Go.Conc
open Go.RowKit (Below)
open Ec (aD aE cj cY p9 vI ud qv bO Bd ju kL cH aP vS)
def fL (kb g ck eb f ce:Nat)(dO:Option Sl)(d cJ:Nat)(co:Option Sl)(e aF:Nat)(ro:Option Sl)(h aI:Nat)(sk:Bool):Array RB:= #[.slice (Ry ⟨kb,0,RA⟩) g ck,.slice (Ry ⟨eb,0,RA⟩) f ce,.slice dO d cJ,.slice co e aF,.slice ro h aI,.bool sk]
section
variable {Post:RB→RD→Prop}{J:List cI→(Nat→Prop)→RD→Prop}{Go:List cI→Bool}{w0 w:RD}{M0 M own:Nat→Prop}{lp first n i qb wb vb:Nat}{pre:List cI}{a:TZ}{cs:List RU}{l:List (bO×Int)}{bs:List Bd}{ah:List Int}{rs:List cj}{kb ck eb ce db:Nat}{dO:Option Sl}{ct mj:Nat→Nat}{co:Option Sl}{cb bk aF:Nat}{ro:Option Sl}{rb bq aI:Nat}{V:Nat→Nat→List aD}{cJ:Nat}{sk:Bool}{b:Bd}{c:RU}
theorem Gg{ws:List Bool}(g:bs[i]? =Ry b):EN bs ws V i=RF↔∀ j,ws[j]? =Ry RF→(V i j).length=b.rows:=by
 unfold EN;rw[tB g,Sf];constructor
 ·intro f j d;have e:j<ws.length:=(R8.1 d).1;have:=f j (Tg.2 e);rw[RX,d] at this;simpa using this
 ·intro f j d;have e:=Tg.1 d;rw[RX,RS e];cases h:ws[j] with
  |false=>simp
  |true=>
   have:=f j (by rw[RS e,h]);simp[this]
theorem Nb{e w5:RD}{lb N:Nat}{g:Nat→Nat}(q:FQ l bs ah rs V)(f:FM e l bs ah rs kb eb dO db ct mj co cb bk ro rb bq)(u:e.heap[lb]? =Ry (.cells (eG (aP l.length (ah ++ rs.map cj.col)) g (V i) N (aP l.length (ah ++ rs.map cj.col)).length).toArray 43 (0,0)))(B:∀ j,(aP l.length (ah ++ rs.map cj.col))[j]? =Ry RF→Row e (g j) N (V i j))(A:∀ j,(aP l.length (ah ++ rs.map cj.col))[j]? =Ry RF→(V i j).length=N):
 QB e ah rs co cb bk ro rb bq lb l.length N (BG V i):=by
 refine⟨f.ca,f.cl,f.cc,f.nr,fun r I k h=>?_⟩;have y:(0≤k∧k<(l.length:Int))∧k∈ah ++ rs.map cj.col:=by
  rcases h with h|⟨v,d,rfl⟩
  ·exact⟨q.ck k h,List.mem_append_left _ h⟩
  ·exact⟨q.rk v d,List.mem_append_right _ (S5.2 ⟨v,d,rfl⟩)⟩
 obtain⟨⟨x,F⟩,z⟩:=y;obtain⟨j,rfl⟩:=Int.eq_ofNat_of_zero_le x;have m:j<l.length:=by omega
 have p:=CJ.2 ⟨m,z⟩;have H:=A j p;obtain⟨⟨E,s,G,C⟩,_⟩:=B j p;have o:r<(V i j).length:=by omega
 have d:=tA s C o;have D:BG V i (j:Int) r=(V i j)[r]:=by
  unfold BG;rw[Int.toNat_natCast,RX,RS o];rfl
 rw[D];refine⟨j,g j,(V i j).length,N,rfl,m,(RH.1 u).1,?_,o,(RH.1 s).1,?_,?_,?_⟩
 ·unfold R2;simp only[u];have t:j<(aP l.length (ah ++ rs.map cj.col)).length:=by rw[Ec.jQ];exact m
  have:=lM (ws:=aP l.length (ah ++ rs.map cj.col)) (g:=g) (V:=V i) (N:=N) (i:=(aP l.length (ah ++ rs.map cj.col)).length) t;rw[if_pos ⟨t,p⟩] at this;simpa using this
 ·have:=d 0 _ rfl;rw[SA,Nat.add_zero] at this;exact this
 ·have:=d 1 _ rfl;rw[SA] at this;exact this
 ·have:=d 2 _ rfl;rw[SA] at this;exact this
end
section
variable {Post:RB→RD→Prop}{J:List cI→(Nat→Prop)→RD→Prop}{Go:List cI→Bool}{w0 w:RD}{M0 M own:Nat→Prop}{lp first n i qb wb vb:Nat}{pre:List cI}{a:TZ}{cs:List RU}{l:List (bO×Int)}{bs:List Bd}{ah:List Int}{rs:List cj}{kb ck eb ce db:Nat}{dO:Option Sl}{ct mj:Nat→Nat}{co:Option Sl}{cb bk aF:Nat}{ro:Option Sl}{rb bq aI:Nat}{V:Nat→Nat→List aD}{cJ:Nat}{sk:Bool}{b:Bd}{c:RU}
theorem mO{a:TZ}{x:SG}{u:RB}(h1:a.eval x=u): #[x].map a.eval=#[u]:=by simp[h1]
theorem JM{a:TZ}{x y z u v:SG}{f g h d e:RB}(h1:a.eval x=f)(j:a.eval y=g)(k:a.eval z=h)(m:a.eval u=d)(o:a.eval v=e): #[x,y,z,u,v].map a.eval=#[f,g,h,d,e]:=by simp[h1,j,k,m,o]
theorem z5(q:FQ l bs ah rs V)(g:bs[i]? =Ry b)(C:first≤100000)(D:i<bs.length)
 (h:oo J w0 w M0 M own (fL kb l.length ck eb l.length ce dO bs.length cJ co ah.length aF ro rs.length aI sk) lp first n i bs.length qb wb l.length (.slice dO bs.length cJ) (aP l.length (ah ++ rs.map cj.col)) pre a) (f:aS a 9= .pointer (Ry ⟨vb,0,RA⟩)) (x:own vb) (A:w.heap[vb]? =Ry (.cells #[.int .i64 (b.rows:Int),.slice (Ry ⟨ct i,0,RA⟩) l.length (mj i)] 139 (0,0)))
 (o:∀ a',oo J w0 w M0 M own (fL kb l.length ck eb l.length ce dO bs.length cJ co ah.length aF ro rs.length aI sk) lp (first+b.rows) n (i+1) bs.length qb wb l.length (.slice dO bs.length cJ) (aP l.length (ah ++ rs.map cj.col)) pre a'→Xe (aa.of Rz) Rz Post own ((base 54).at a' [.code (gJ Uy),.inLoop (gJ Uy),.inBlock 0,.code (pQ Uy)]) cs w):
 Xe (aa.of Rz) Rz Post own ((base 54).at a (rS Uy)) cs w:=by
 have e:=fZ (aa.of Rz) Rz Post;obtain⟨d,k,m,p,j,v,t,r,z,y,u,s,B⟩:=h;have F:=q.rows b (Td g);have E:=q.nb;replace d:=d.cons f;refine aX e [0,1,2,3,4] rfl ?_;refine ak e (by decide) rfl rfl _ (ay rfl (d.of rfl)) ?_;replace d:=d.put (d:=53) (by decide) (.int .i64 (first:Int));refine ak e (by decide) rfl rfl _ (cK (off':=0) rfl (d.of rfl) TI rfl Vi rfl) ?_;replace d:=d.put (d:=54) (by decide) (.pointer (Ry ⟨vb,0,RA⟩));refine ej e (by decide) rfl rfl _ (bM rfl (d.of rfl) VG (.inr x) (jI A rfl)) ?_;replace d:=d.put (d:=55) (by decide) (.int .i64 (b.rows:Int));refine ak e (by decide) rfl rfl _ (mJ rfl (d.of rfl) (d.of rfl) (by omega)) ?_;replace d:=d.put (d:=56) (by decide) (.int .i64 ((first+b.rows:Nat):Int));refine ak e (by decide) rfl rfl _ (aG rfl (d.of rfl)) ?_;replace d:=d.put (d:=7) (by decide) (.int .i64 ((first+b.rows:Nat):Int));refine aj e ?_;refine gP e ?_;refine aX e [0,1] rfl ?_;refine ak e (by decide) rfl rfl _ (mJ (j:=1) rfl (d.of rfl) rfl (by omega)) ?_;replace d:=d.put (d:=57) (by decide) (.int .i64 ((i+1:Nat):Int));refine ak e (by decide) rfl rfl _ (ay rfl (d.of rfl)) ?_;replace d:=d.put (d:=18) (by decide) (.int .i64 ((i+1:Nat):Int));refine aj e ?_;refine j3 e ?_;exact o _ ⟨(((((((d.nil.cons (d.slot 1 _ rfl)).cons (d.slot 2 _ rfl)).cons (d.slot 4 _ rfl)).cons (d.slot 6 _ rfl)).cons (d.slot 7 _ rfl)).cons (d.slot 16 _ rfl)).cons (d.slot 17 _ rfl)).cons (d.slot 18 _ rfl),by simp only[put_defers];exact k,m,p,j,v,t,r,z,y,u,s,B⟩
theorem tC(C:Cons (aa.of Rz) Rz Post lp J Go)(q:FQ l bs ah rs V)(hF:∀ y,(∀ b,b<w0.heap.size→¬ M0 b→l9 y w0 b)→w0.heap.size≤y.heap.size→FM y l bs ah rs kb eb dO db ct mj co cb bk ro rb bq)(f:bs[i]? =Ry b)(bu:first=gd bs i)(c1:pre.length≤first)(c0:n≤100000)
 (h:oo J w0 w M0 M own (fL kb l.length ck eb l.length ce dO bs.length cJ co ah.length aF ro rs.length aI sk) lp first n i bs.length qb wb l.length (.slice dO bs.length cJ) (aP l.length (ah ++ rs.map cj.col)) pre a) (bm:aS a 9= .pointer (Ry ⟨vb,0,RA⟩)) (Y:own vb) (b4:¬ M vb) (cR:w0.heap.size≤vb) (bc:w.heap[vb]? =Ry (.cells #[.int .i64 (b.rows:Int),.slice (Ry ⟨ct i,0,RA⟩) l.length (mj i)] 139 (0,0)))
 (bt:EN bs (aP l.length (ah ++ rs.map cj.col)) V i=RE→∀ own' w',J pre M w'→Kept w0 w' M0 M own'→(∀ b,own' b→b<w'.heap.size)→Xe (aa.of Rz) Rz Post own' (c.finish (.tuple #[.int .i64 ((n+1:Nat):Int),.int .i64 3])) cs w')
 (ci:EN bs (aP l.length (ah ++ rs.map cj.col)) V i=RF→(feed Go pre (ix bs ah rs V i)).2=RE→∀ own' u w',J (feed Go pre (ix bs ah rs V i)).1 u w'→Kept w0 w' M0 u own'→(∀ b,own' b→b<w'.heap.size)→Xe (aa.of Rz) Rz Post own' (c.finish (.tuple #[.int .i64 ((n+1:Nat):Int),.int .i64 0])) cs w')
 (bA:EN bs (aP l.length (ah ++ rs.map cj.col)) V i=RF→(feed Go pre (ix bs ah rs V i)).2=RF→∀ own' u w' a',oo J w0 w' M0 u own' (fL kb l.length ck eb l.length ce dO bs.length cJ co ah.length aF ro rs.length aI sk) lp first (n+1) i bs.length qb wb l.length (.slice dO bs.length cJ) (aP l.length (ah ++ rs.map cj.col)) (feed Go pre (ix bs ah rs V i)).1 a'→aS a' 9= .pointer (Ry ⟨vb,0,RA⟩)→own' vb→w'.heap[vb]? =Ry (.cells #[.int .i64 (b.rows:Int),.slice (Ry ⟨ct i,0,RA⟩) l.length (mj i)] 139 (0,0))→Xe (aa.of Rz) Rz Post own' ((base 54).at a' (rS Uy)) (c :: cs) w'):
 Xe (aa.of Rz) Rz Post own ((base 54).at a (.code (Db Uy) :: rS Uy)) (c :: cs) w:=by
 have e:=fZ (aa.of Rz) Rz Post;obtain⟨d,G,x,p,A,X,a6,b2,a9,Z,a7,b3,bd⟩:=h;have c2:=q.rows b (Td f);have a2:(aP l.length (ah ++ rs.map cj.col)).length=l.length:=Ec.jQ _ _;have bv:gd bs (i+1)≤2000:=R4 (wu bs (i+1)) q.tot;rw[rB f] at bv;replace d:=d.cons bm;refine aM e ?_;refine aX e [0,1,2] rfl ?_;refine ak e (by decide) rfl rfl _ (ay rfl (d.of rfl)) ?_;replace d:=d.put (d:=31) (by decide) (.int .i64 (n:Int));refine ak e (by decide) rfl rfl _ (mJ (j:=1) rfl (d.of rfl) rfl (by omega)) ?_;replace d:=d.put (d:=32) (by decide) (.int .i64 ((n+1:Nat):Int));refine ak e (by decide) rfl rfl _ (aG rfl (d.of rfl)) ?_;replace d:=d.put (d:=4) (by decide) (.int .i64 ((n+1:Nat):Int));refine aj e ?_;refine aM e ?_;refine aX e [0,1,2,3,4,5,6,7,8,9] rfl ?_;refine ej e (by decide) rfl rfl _ (eF (cs:=[.int .i64 (b.rows:Int),.slice (Ry ⟨ct i,0,RA⟩) l.length (mj i)]) rfl (d.of rfl) TI rfl mR (.inr Y) (nE bc)) ?_;replace d:=d.put (d:=34) (by decide) (nY (b.rows:Int) (ct i) l.length (mj i));refine ak e (by decide) rfl rfl _ (cK (off':=0) rfl (d.of rfl) T9 rfl Tryz.sizeOf105 rfl) ?_;replace d:=d.put (d:=35) (by decide) (.pointer (Ry ⟨qb,0,RA⟩));refine ej e (by decide) rfl rfl _ (eF (cs:=[.slice (Ry ⟨kb,0,RA⟩) l.length ck,.slice (Ry ⟨eb,0,RA⟩) l.length ce,.slice dO bs.length cJ]) rfl (d.of rfl) Tryz.underlying105 rfl zD (.inr X) (fun F v x=>nE a9 F v (by
  rcases F with _|_|_|F
  ·exact x
  ·exact x
  ·exact x
  ·simp at x))) ?_
 replace d:=d.put (d:=36) (by decide) (n7 kb l.length ck eb l.length ce (.slice dO bs.length cJ));refine ak e (by decide) rfl rfl _ (ay rfl (d.of rfl)) ?_;replace d:=d.put (d:=37) (by decide) (.slice (Ry ⟨wb,0,RA⟩) l.length l.length);refine nV (R:=fun t=>Oa t b.rows (aP l.length (ah ++ rs.map cj.col)) (V i)) (vs:= #[nY (b.rows:Int) (ct i) l.length (mj i),n7 kb l.length ck eb l.length ce (.slice dO bs.length cJ),.slice (Ry ⟨wb,0,RA⟩) l.length l.length]) rfl rfl rfl rfl (Ay (d.of rfl) (d.of rfl) (d.of rfl)) Tryz.func78 PG rfl (ep rfl (by simp only[put_defers];exact G) (by kernel_rfl)) (fun t s=>?_) (fun t v g s L ab ca=>?_) (fun t bj w' ⟨_,_,_,o,_⟩=>by cases o) (fun t w' ⟨_,_,_,o,_⟩=>by cases o)
 ·have a0:=p.rel s (fun b h=>h);have Q:=hF t (a0.same (fun b N _ h _=>h) (RG _)).1 a0.size;have:=D8 (Post:=Post) (cap:=mj i) (ck:=ck) (ce:=ce) (x:=.slice dO bs.length cJ) (fh:=l.length) (Q.bin q f ((s.at_ wb Z).trans bd));rw[a2] at this;exact this
 ·obtain⟨B,js,m,o,al,b1,a3,cd,U⟩:=L;cases o;rw[a2];have W:EN bs (aP l.length (ah ++ rs.map cj.col)) V i=js:=by
   cases js with
   |true=>exact(Gg f).2 (U.1 rfl)
   |false=>
    cases o:EN bs (aP l.length (ah ++ rs.map cj.col)) V i with
    |false=>rfl
    |true=>exact absurd (U.2 ((Gg f).1 o)) (by decide)
  have H:∀ b,own b→g.heap[b]? =w.heap[b]? :=fun b a8=>(al.block b (RK (A b a8) s.size)).trans (s.at_ b a8);have E:w.heap.size≤g.heap.size:=R4 s.size al.size;have j:Kept w0 g M0 M (fun b=>b<g.heap.size):=⟨fun b f k=>⟨by have:=p.size;show b<g.heap.size;omega,(H b (p.keep b f k).1).trans (p.keep b f k).2⟩,p.ext,fun b f=>RK (A b (p.qf b f)) E,R4 p.size E,ab.tape.trans (s.tape.trans p.tape),ab.os.trans (s.os.trans p.os),ab.output.trans (s.output.trans p.output)⟩;have aw:=C.jn _ _ _ g x (fun b f=>H b (p.qf b f)) E;have ba:=(H qb X).trans a9;have cn:=(H wb Z).trans bd;have L:=(H vb Y).trans bc;have ae:qb<g.heap.size:=RK (A qb X) E;have bi:wb<g.heap.size:=RK (A wb Z) E;have be:vb<g.heap.size:=RK (A vb Y) E;refine Xe.go (own:=fun b=>b<g.heap.size) ?_ (fun b h=>h) ca;replace d:=d.put (d:=38) (by decide) (.tuple #[.slice (Ry ⟨B,0,RA⟩) l.length l.length,.bool js]);refine ak e (by decide) rfl rfl _ (ay rfl (d.of rfl)) ?_;replace d:=d.put (d:=33) (by decide) (.tuple #[.slice (Ry ⟨B,0,RA⟩) l.length l.length,.bool js]);refine ak e (by decide) rfl rfl _ (bT rfl (d.of rfl) rfl) ?_;replace d:=d.put (d:=39) (by decide) (.slice (Ry ⟨B,0,RA⟩) l.length l.length);refine ak e (by decide) rfl rfl _ (bT rfl (d.of rfl) rfl) ?_;replace d:=d.put (d:=40) (by decide) (.bool js);refine ak e (by decide) rfl rfl _ (aG rfl (d.of rfl)) ?_;replace d:=d.put (d:=10) (by decide) (.slice (Ry ⟨B,0,RA⟩) l.length l.length);refine ak e (by decide) rfl rfl _ (aG rfl (d.of rfl)) ?_;replace d:=d.put (d:=11) (by decide) (.bool js);refine aj e ?_;refine aM e ?_;refine aM e ?_;refine aX e [0,1] rfl ?_;refine ak e (by decide) rfl rfl _ (ay rfl (d.of rfl)) ?_;replace d:=d.put (d:=41) (by decide) (.bool js);refine ak e (by decide) rfl rfl _ (wY rfl (d.of rfl)) ?_;replace d:=d.put (d:=42) (by decide) (.bool (!js));refine aj e ?_;cases js with
  |false=>
   refine cN e RF (d.of rfl) ?_;refine aM e ?_;refine aX e [0,1,2] rfl ?_;refine ak e (by decide) rfl rfl _ (ay rfl (d.of rfl)) ?_;replace d:=d.put (d:=43) (by decide) (.int .i64 ((n+1:Nat):Int));refine ak e (by decide) rfl rfl _ (aG rfl (d.of rfl)) ?_;replace d:=d.put (d:=4) (by decide) (.int .i64 ((n+1:Nat):Int));refine ak e (by decide) rfl rfl _ (aG rfl rfl) ?_;replace d:=d.put (d:=5) (by decide) (.int .i64 3);refine aj e ?_;refine nZ e ?_;have I:=fO (P:=Rz) Tryz.results54 (d.slot 4 _ rfl) (d.slot 5 _ rfl);exact gA e rfl (by simp only[put_defers];exact G) Tryz.func54 I.1 I.2 (bt W _ g aw j (fun b h=>h))
  |true=>
   have br:=U.1 rfl;refine cN e RE (d.of rfl) ?_;refine gB e ?_;refine aM e ?_;refine aX e [0,1,2,3,4,5,6,7] rfl ?_;refine ej e (by decide) rfl rfl _ (eF (cs:=(fL kb l.length ck eb l.length ce dO bs.length cJ co ah.length aF ro rs.length aI sk).toList) rfl (d.of rfl) T9 rfl tf (.inr ae) (nE ba)) ?_;replace d:=d.put (d:=44) (by decide) (qv (.slice (Ry ⟨kb,0,RA⟩) l.length ck) (.slice (Ry ⟨eb,0,RA⟩) l.length ce) (.slice dO bs.length cJ) (.slice co ah.length aF) (.slice ro rs.length aI) sk);refine ak e (by decide) rfl rfl _ (ay rfl (d.of rfl)) ?_;replace d:=d.put (d:=45) (by decide) (.slice (Ry ⟨B,0,RA⟩) l.length l.length);refine ak e (by decide) rfl rfl _ (ay rfl (d.of rfl)) ?_;replace d:=d.put (d:=46) (by decide) (.int .i64 (first:Int));refine ak e (by decide) rfl rfl _ (cK (off':=0) rfl (d.of rfl) TI rfl Vi rfl) ?_;replace d:=d.put (d:=47) (by decide) (.pointer (Ry ⟨vb,0,RA⟩));refine ej e (by decide) rfl rfl _ (bM rfl (d.of rfl) VG (.inr be) (jI L rfl)) ?_;replace d:=d.put (d:=48) (by decide) (.int .i64 (b.rows:Int));refine ak e (by decide) rfl rfl _ (ay rfl (d.of rfl)) ?_;replace d:=d.put (d:=49) (by decide) (.func (.yield lp) #[] #[]);refine nV (R:=fun O=>Oc J M O (feed Go pre (ix bs ah rs V i))) (vs:= #[qv (.slice (Ry ⟨kb,0,RA⟩) l.length ck) (.slice (Ry ⟨eb,0,RA⟩) l.length ce) (.slice dO bs.length cJ) (.slice co ah.length aF) (.slice ro rs.length aI) sk,.slice (Ry ⟨B,0,RA⟩) l.length l.length,.int .i64 (first:Int),.int .i64 (b.rows:Int),.func (.yield lp) #[] #[]]) rfl rfl rfl rfl (JM (d.of rfl) (d.of rfl) (d.of rfl) (d.of rfl) (d.of rfl)) Tryz.func79 PL rfl (ep rfl (by simp only[put_defers];exact G) (by kernel_rfl)) (fun O r=>?_) (fun O v D r cl ad cc=>?_) (fun t bj w' ⟨o,_⟩=>by cases o) (fun t w' ⟨o,_⟩=>by cases o)
   ·have bB:=C.jn _ _ _ O aw (fun b f=>r.at_ b (j.qf b f)) r.size;have ar:ix bs ah rs V i=ed (mq rs (BG V i)) (fun cu=>ah.map fun cp=>BG V i cp cu) first 0 b.rows:=by
     unfold ix;rw[tB f,bu]
    rw[ar];refine EF (val:=BG V i) (cb:=cb) (bk:=bk) (rb:=rb) (bq:=bq) C bB (fun y bo cf=>?_) (by omega) q.cn q.rn (by omega);have z:∀ b,b<g.heap.size→¬ M b→l9 y g b:=fun b f k N T R=>bo b (RK f r.size) k N ((r.at_ b f).trans T) R;have am:∀ b,M b→b<t.heap.size:=fun b f=>RK (A b (p.qf b f)) s.size;have Q:=hF y (fun b f k N T R=>z b (j.keep b f k).1 (fun h=>(j.ext b h).elim k (fun h=>by omega)) N ((j.keep b f k).2.trans T) R) (R4 j.size (R4 r.size cf));have a4:∀ m,t.heap.size≤m→m<g.heap.size→l9 y g m:=fun m cx bl=>z m bl (fun h=>by have:=am m h;omega);refine Nb (g:=m) (w5:=g) q Q (a4 B b1 (RH.1 a3).1 _ a3 trivial) (fun F x=>?_) br;obtain⟨bb,bx⟩:=cd F x;obtain⟨cv,S,_⟩:=bb.ex;exact bb.same ((a4 (m F) bx (RH.1 S).1 _ S trivial).trans S.symm)
   ·obtain⟨o,u,P,b0,c3,ao⟩:=cl;cases o;have ch:=r.size;have z:∀ b,b<g.heap.size→¬ M b→D.heap[b]? =g.heap[b]? :=fun b f k=>(b0 b (RK f ch) k).trans (r.at_ b f);have am:∀ b,M b→b<w.heap.size:=fun b f=>A b (p.qf b f);have a1:Kept w0 D M0 u (fun b=>b<D.heap.size):=⟨fun b f k=>⟨by have:=j.size;show b<D.heap.size;omega,(z b (j.keep b f k).1 (fun h=>(j.ext b h).elim k (fun h=>by omega))).trans (j.keep b f k).2⟩,fun b f=>(ao b f).elim (j.ext b) (fun h=>.inr (by have:=j.size;omega)),fun b f=>C.bound _ _ _ P b f,by have:=j.size;omega,ad.tape.trans (r.tape.trans j.tape),ad.os.trans (r.os.trans j.os),ad.output.trans (r.output.trans j.output)⟩;have a5:∀ m,m<g.heap.size→¬ M m→¬ u m:=fun m ar k h=>(ao m h).elim k (fun h=>by omega);refine Xe.go (own:=fun b=>b<D.heap.size) ?_ (fun b h=>h) cc;replace d:=d.put (d:=50) (by decide) (.bool (feed Go pre (ix bs ah rs V i)).2);refine ak e (by decide) rfl rfl _ (wY rfl (d.of rfl)) ?_;replace d:=d.put (d:=51) (by decide) (.bool (!(feed Go pre (ix bs ah rs V i)).2));refine aj e ?_;cases K:(feed Go pre (ix bs ah rs V i)).2 with
    |false=>
     rw[K] at d;refine cN e RF (d.of rfl) ?_;refine aM e ?_;refine aX e [0,1,2] rfl ?_;refine ak e (by decide) rfl rfl _ (ay rfl (d.of rfl)) ?_;replace d:=d.put (d:=52) (by decide) (.int .i64 ((n+1:Nat):Int));refine ak e (by decide) rfl rfl _ (aG rfl (d.of rfl)) ?_;replace d:=d.put (d:=4) (by decide) (.int .i64 ((n+1:Nat):Int));refine ak e (by decide) rfl rfl _ (aG rfl rfl) ?_;replace d:=d.put (d:=5) (by decide) (.int .i64 0);refine aj e ?_;refine nZ e ?_;have I:=fO (P:=Rz) Tryz.results54 (d.slot 4 _ rfl) (d.slot 5 _ rfl);exact gA e rfl (by simp only[put_defers];exact G) Tryz.func54 I.1 I.2 (ci W K _ u D P a1 (fun b h=>h))
    |true=>
     rw[K] at d;refine cN e RE (d.of rfl) ?_;refine gB e ?_;exact bA W K _ u D _ ⟨(((((((d.nil.cons (d.slot 1 _ rfl)).cons (d.slot 2 _ rfl)).cons (d.slot 4 _ rfl)).cons (d.slot 6 _ rfl)).cons (d.slot 7 _ rfl)).cons (d.slot 16 _ rfl)).cons (d.slot 17 _ rfl)).cons (d.slot 18 _ rfl),by simp only[put_defers];exact G,P,a1,(fun b h=>h),by show qb<_;omega,a5 qb ae a6,b2,(z qb ae a6).trans ba,by show wb<_;omega,a5 wb bi a7,b3,(z wb bi a7).trans cn⟩ (d.slot 9 _ rfl) (by show vb<_;omega) ((z vb be b4).trans L)
end
end Cc
namespace Cc
open Go Go.Conc
open Go.RowKit (Below)
open Ec (aD aE cj cY p9 vI ud qv bO Bd ju kL cH aP vS nT)
section
variable {Post:RB→RD→Prop}{J:List cI→(Nat→Prop)→RD→Prop}{Go:List cI→Bool}{w0 w:RD}{M0 M own:Nat→Prop}{lp first n i qb wb vb:Nat}{pre:List cI}{a:TZ}{cs:List RU}{l:List (bO×Int)}{bs:List Bd}{ah:List Int}{rs:List cj}{kb ck eb ce db:Nat}{dO:Option Sl}{ct mj:Nat→Nat}{co:Option Sl}{cb bk aF:Nat}{ro:Option Sl}{rb bq aI:Nat}{V:Nat→Nat→List aD}{cJ:Nat}{sk:Bool}{b:Bd}{c:RU}
theorem Lr(h:oo J w0 w M0 M own (fL kb l.length ck eb l.length ce dO bs.length cJ co ah.length aF ro rs.length aI sk) lp first n bs.length bs.length qb wb l.length (.slice dO bs.length cJ) (aP l.length (ah ++ rs.map cj.col)) pre a)(g:Xe (aa.of Rz) Rz Post own (c.finish (.tuple #[.int .i64 (n:Int),.int .i64 0])) cs w):
 Xe (aa.of Rz) Rz Post own ((base 54).at a [.code (gJ Uy),.inLoop (gJ Uy),.inBlock 0,.code (pQ Uy)]) (c :: cs) w:=by
 have e:=fZ (aa.of Rz) Rz Post;have d:=h.kn;refine aM e ?_;refine aX e [0] rfl ?_;refine ak e (by decide) rfl rfl (.bool RE) (iE rfl (d.of rfl) (d.of rfl) (by simp)) ?_;replace d:=d.put (d:=19) (by decide) (.bool RE);refine aj e ?_;refine aM e ?_;refine cN e RE (d.of rfl) ?_;refine sH e (k':=[.code (pQ Uy)]) rfl ?_;refine aM e ?_;refine aX e [0,1,2] rfl ?_;refine ak e (by decide) rfl rfl _ (ay rfl (d.of rfl)) ?_;replace d:=d.put (d:=58) (by decide) (.int .i64 (n:Int));refine ak e (by decide) rfl rfl _ (aG rfl (d.of rfl)) ?_;replace d:=d.put (d:=4) (by decide) (.int .i64 (n:Int));refine ak e (by decide) rfl rfl _ (aG rfl rfl) ?_;replace d:=d.put (d:=5) (by decide) (.int .i64 0);refine aj e ?_;refine nZ e ?_;have f:=fO (P:=Rz) Tryz.results54 (d.slot 4 _ rfl) (d.slot 5 _ rfl);exact gA e rfl (by simp only[put_defers];exact h.df) Tryz.func54 f.1 f.2 g
theorem IN(C:Cons (aa.of Rz) Rz Post lp J Go)(q:FQ l bs ah rs V)(hF:∀ x,(∀ b,b<w0.heap.size→¬ M0 b→l9 x w0 b)→w0.heap.size≤x.heap.size→FM x l bs ah rs kb eb dO db ct mj co cb bk ro rb bq)(O:0<bs.length→¬ M0 db):
 ∀ (r i:Nat),i+r=bs.length→∀ (pre:List cI) (own M:Nat→Prop) (w:RD) (a:TZ) (n:Nat),n≤i→pre.length≤gd bs i→
 oo J w0 w M0 M own (fL kb l.length ck eb l.length ce dO bs.length cJ co ah.length aF ro rs.length aI sk) lp (gd bs i) n i bs.length qb wb l.length (.slice dO bs.length cJ) (aP l.length (ah ++ rs.map cj.col)) pre a→
 (∀ own' j w',J (fq sk bs ah rs (aP l.length (ah ++ rs.map cj.col)) V Go i r pre n).1 j w'→Kept w0 w' M0 j own'→(∀ b,own' b→b<w'.heap.size)→Xe (aa.of Rz) Rz Post own' (c.finish (.tuple #[.int .i64 ((fq sk bs ah rs (aP l.length (ah ++ rs.map cj.col)) V Go i r pre n).2.1:Int),.int .i64 ((fq sk bs ah rs (aP l.length (ah ++ rs.map cj.col)) V Go i r pre n).2.2:Int)])) cs w')→
 Xe (aa.of Rz) Rz Post own ((base 54).at a [.code (gJ Uy),.inLoop (gJ Uy),.inBlock 0,.code (pQ Uy)]) (c :: cs) w:=by
 intro r
 induction r with
 |zero=>
  intro i L pre own M w a n N t d e;have:i=bs.length:=by omega
  subst this;exact Lr d (e own M w d.j d.kept d.bd)
 |succ r H=>
  intro i L pre own M w a n N t d e;have D:i<bs.length:=by omega
  have f:bs[i]? =Ry bs[i]:=RS D;generalize bs[i]=b at f;have Z:=q.nb;have W:gd bs (i+1)≤2000:=R4 (wu bs (i+1)) q.tot;have G:=rB f;refine IM C q hF f O d fun R S U vb m o s F E ab ad v=>?_;cases u:(sk && xd bs rs i) with
  |true=>
   have g:fq sk bs ah rs (aP l.length (ah ++ rs.map cj.col)) V Go i (r+1) pre n=fq sk bs ah rs (aP l.length (ah ++ rs.map cj.col)) V Go (i+1) r pre n:=by simp only[fq,u,if_true]
   rw[g] at e;refine gB (fZ (aa.of Rz) Rz Post) ?_;refine z5 q f (by omega) D m o s v fun y k=>?_;rw[← G] at k;exact H (i+1) (by omega) pre R M S y n (by omega) (by omega) k e
  |false=>
   cases h:EN bs (aP l.length (ah ++ rs.map cj.col)) V i with
   |false=>
    have g:fq sk bs ah rs (aP l.length (ah ++ rs.map cj.col)) V Go i (r+1) pre n=(pre,n+1,3):=by simp only[fq,u,h,Sa,if_false]
    rw[g] at e;exact tC C q hF f rfl t (by omega) m o s F E v (fun _ own' w' A B z=>e own' M w' A B z) (fun d=>by rw[h] at d;cases d) (fun d=>by rw[h] at d;cases d)
   |true=>
    cases p:(feed Go pre (ix bs ah rs V i)).2 with
    |false=>
     have g:fq sk bs ah rs (aP l.length (ah ++ rs.map cj.col)) V Go i (r+1) pre n=((feed Go pre (ix bs ah rs V i)).1,n+1,0):=by simp only[fq,u,h,p,Sa,if_false,if_true]
     rw[g] at e;exact tC C q hF f rfl t (by omega) m o s F E v (fun d=>by rw[h] at d;cases d) (fun _ _ own' j w' A B z=>e own' j w' A B z) (fun _ d=>by rw[p] at d;cases d)
    |true=>
     have g:fq sk bs ah rs (aP l.length (ah ++ rs.map cj.col)) V Go i (r+1) pre n=fq sk bs ah rs (aP l.length (ah ++ rs.map cj.col)) V Go (i+1) r (feed Go pre (ix bs ah rs V i)).1 (n+1):=by simp only[fq,u,h,p,Sa,if_false,if_true]
     rw[g] at e;refine tC C q hF f rfl t (by omega) m o s F E v (fun d=>by rw[h] at d;cases d) (fun _ d=>by rw[p] at d;cases d) (fun _ _ own' j w' T I K P Q=>?_);refine z5 q f (by omega) D I K P Q fun y k=>?_;rw[← G] at k;have X:=tZ Go (ix bs ah rs V i) pre;have Y:(ix bs ah rs V i).length≤b.rows:=by
      unfold ix;rw[tB f];exact oa _ _ _ _ _
     exact H (i+1) (by omega) _ own' j w' y (n+1) (by omega) (by omega) k e
def Of (J:List cI→(Nat→Prop)→RD→Prop)(M0:Nat→Prop)(w0:RD)(d:List cI×Nat×Nat)(f:Uw)(w':RD):Prop:=
 f= .returned (.tuple #[.int .i64 (d.2.1:Int),.int .i64 (d.2.2:Int)])∧∃ e,J d.1 e w'∧(∀ b,b<w0.heap.size→¬ M0 b→w'.heap[b]? =w0.heap[b]?)∧w0.heap.size≤w'.heap.size∧∀ b,e b→M0 b∨w0.heap.size≤b
theorem E6(C:Cons (aa.of Rz) Rz Post lp J Go)(q:FQ l bs ah rs V)(F:J [] M0 w0)(hF:∀ h,(∀ b,b<w0.heap.size→¬ M0 b→l9 h w0 b)→w0.heap.size≤h.heap.size→FM h l bs ah rs kb eb dO db ct mj co cb bk ro rb bq)(ae:0<bs.length→¬ M0 db):
 kA (aa.of Rz) Rz Post 54 #[qv (.slice (Ry ⟨kb,0,RA⟩) l.length ck) (.slice (Ry ⟨eb,0,RA⟩) l.length ce) (.slice dO bs.length cJ) (.slice co ah.length aF) (.slice ro rs.length aI) sk,.func (.yield lp) #[] #[]] w0 (Of J M0 w0 (fq sk bs ah rs (aP l.length (ah ++ rs.map cj.col)) V Go 0 bs.length [] 0)):=by
 intro c cs aw a7 am P;have e:=fZ (aa.of Rz) Rz Post;refine Xe.go (own:=fun b=>b<w0.heap.size) ?_ (fun b f=>f) am;rw[enter_at _ Tryz.func54 rfl];have d:=QY (qv (.slice (Ry ⟨kb,0,RA⟩) l.length ck) (.slice (Ry ⟨eb,0,RA⟩) l.length ce) (.slice dO bs.length cJ) (.slice co ah.length aF) (.slice ro rs.length aI) sk) (.func (.yield lp) #[] #[]) 59 (by decide);have W:sj Il (fun b=>b<w0.heap.size) w0:=fun b g=>g.elim Vt (fun f=>f);have t:=C.bound _ _ _ F;have ad:Kept w0 w0 M0 M0 (fun b=>b<w0.heap.size):=⟨fun b g _=>⟨g,rfl⟩,fun b g=>.inl g,t,RG _,rfl,rfl,rfl⟩;refine aM e ?_;refine aX e [0,1,2] rfl ?_;refine kM e W (by decide) rfl rfl (.cells (fL kb l.length ck eb l.length ce dO bs.length cJ co ah.length aF ro rs.length aI sk) 115) trivial (fun n=>.pointer (Ry ⟨n,0,RA⟩)) (sZ (v:=qv (.slice (Ry ⟨kb,0,RA⟩) l.length ck) (.slice (Ry ⟨eb,0,RA⟩) l.length ce) (.slice dO bs.length cJ) (.slice co ah.length aF) (.slice ro rs.length aI) sk) rfl (d.of rfl)) fun qb I R a8 ar E=>?_;replace d:=d.put (d:=2) (by decide) (.pointer (Ry ⟨qb,0,RA⟩));refine ak e (by decide) rfl rfl _ (aG rfl rfl) ?_;replace d:=d.put (d:=4) (by decide) (.int .i64 ((0:Nat):Int));refine ak e (by decide) rfl rfl _ (aG rfl rfl) ?_;replace d:=d.put (d:=5) (by decide) (.int .i64 0);refine aj e ?_;have B:=EM ar;have u:=ad.rel (own':=fun b=>b<w0.heap.size∨b=qb) B (fun b f=>.inl f);have Y:=C.jn _ _ _ I F (fun b g=>B.at_ b (t b g)) B.size;have S:∀ b,(b<w0.heap.size∨b=qb)→b<I.heap.size:=fun b g=>by omega
 refine aM e ?_;refine aX e [0,1,2] rfl ?_;refine ej e (by decide) rfl rfl _ (eF (cs:=(fL kb l.length ck eb l.length ce dO bs.length cJ co ah.length aF ro rs.length aI sk).toList) rfl (d.of rfl) T9 rfl tf (.inr (.inr rfl)) (nE E)) ?_;replace d:=d.put (d:=12) (by decide) (qv (.slice (Ry ⟨kb,0,RA⟩) l.length ck) (.slice (Ry ⟨eb,0,RA⟩) l.length ce) (.slice dO bs.length cJ) (.slice co ah.length aF) (.slice ro rs.length aI) sk);refine BL (vs:= #[qv (.slice (Ry ⟨kb,0,RA⟩) l.length ck) (.slice (Ry ⟨eb,0,RA⟩) l.length ce) (.slice dO bs.length cJ) (.slice co ah.length aF) (.slice ro rs.length aI) sk]) (R:=fun h r y=>∃ o,r= .returned (.slice (Ry ⟨o,0,RA⟩) l.length l.length)∧h.heap.size≤o∧y.heap[o]? =Ry (.cells (vS (aP l.length (ah ++ rs.map cj.col))).toArray 4 (0,0))) dY rfl rfl rfl rfl (mO (d.of rfl)) Tryz.func76 PU rfl (jJ rfl rfl rfl).symm (ep rfl (by simp only[put_defers]) (by kernel_rfl)) (fun h z D=>?_) fun v m h y z D a4 a0 Q p=>?_
 ·have s:=hF h (u.same z D).1 (u.same z D).2;have A:=q.m;have a6:=q.cn;refine(nT l.length ah rs (Ry ⟨kb,0,RA⟩) ck (.slice (Ry ⟨eb,0,RA⟩) l.length ce) (.slice dO bs.length cJ) co cb bk aF ro rb bq aI sk h q.m (by unfold R3;omega) q.rn s.ca s.cl s.cc s.nr q.ck q.rk).mono fun r y f=>?_;obtain⟨L,o,rfl,N,O⟩:=f;exact⟨L,_,rfl,o,rfl,N,O⟩
 ·obtain⟨wb,r,a1,x⟩:=a0;cases r;have ab:=u.rel (own':=grown (fun b=>b<w0.heap.size∨b=qb) h.heap.size m.heap.size) p (fun b f=>.inl f);have Z:=C.jn _ _ _ m Y (fun b g=>p.at_ b (u.qf b g)) p.size;have H:=(p.at_ qb (.inr rfl)).trans E;have T:∀ b,grown (fun b=>b<w0.heap.size∨b=qb) h.heap.size m.heap.size b→b<m.heap.size:=fun b g=>g.elim (fun f=>RK (S b f) p.size) (fun f=>f.2);replace x:=Q.row.1 x;have a2:wb<m.heap.size:=(RH.1 x).1;have G:grown (fun b=>b<w0.heap.size∨b=qb) h.heap.size m.heap.size qb:=.inl (.inr rfl);have al:grown (fun b=>b<w0.heap.size∨b=qb) h.heap.size m.heap.size wb:=.inr ⟨a1,a2⟩;replace d:=d.put (d:=13) (by decide) (.slice (Ry ⟨wb,0,RA⟩) l.length l.length);refine ak e (by decide) rfl rfl _ (aG rfl (d.of rfl)) ?_;replace d:=d.put (d:=6) (by decide) (.slice (Ry ⟨wb,0,RA⟩) l.length l.length);refine aj e ?_;refine aM e ?_;refine aX e [0] rfl ?_;refine ak e (by decide) rfl rfl _ (aG rfl rfl) ?_;replace d:=d.put (d:=7) (by decide) (.int .i64 ((0:Nat):Int));refine aj e ?_;refine aM e ?_;refine aM e ?_;refine aX e [0,1,2,3,4] rfl ?_;refine ak e (by decide) rfl rfl _ (cK (off':=0) rfl (d.of rfl) T9 rfl Tryz.sizeOf105 rfl) ?_;replace d:=d.put (d:=14) (by decide) (.pointer (Ry ⟨qb,0,RA⟩));refine ak e (by decide) rfl rfl _ (cK (off':=2) rfl (d.of rfl) Tryz.underlying105 rfl Tryz.sizeOf103 rfl) ?_;replace d:=d.put (d:=15) (by decide) (.pointer (Ry ⟨qb,2,RA⟩));refine ej e (by decide) rfl rfl _ (bM rfl (d.of rfl) Tryz.isAgg103 (.inr G) (jI H rfl)) ?_;replace d:=d.put (d:=16) (by decide) (.slice dO bs.length cJ);refine ak e (by decide) rfl rfl _ (qS rfl (d.of rfl) Tryz.underlying103) ?_;replace d:=d.put (d:=17) (by decide) (.int .i64 (bs.length:Int));refine ak e (by decide) rfl rfl _ (ay rfl rfl) ?_;replace d:=d.put (d:=18) (by decide) (.int .i64 ((0:Nat):Int));refine aj e ?_;refine fG e ?_;refine sI e ?_;have U:gd bs 0=0:=by simp[gd]
  refine IN (w0:=w0) (M0:=M0) C q hF ae bs.length 0 (by omega) [] _ M0 m _ 0 (RG _) (Sk _) (by
   rw[U];exact⟨(((((((d.nil.cons (d.slot 1 _ rfl)).cons (d.slot 2 _ rfl)).cons (d.slot 4 _ rfl)).cons (d.slot 6 _ rfl)).cons (d.slot 7 _ rfl)).cons (d.slot 16 _ rfl)).cons (d.slot 17 _ rfl)).cons (d.slot 18 _ rfl),by simp only[put_defers],Z,ab,T,G,fun f=>by have:=t qb f;omega,R,H,al,fun f=>by have:=t wb f;omega,by omega,x⟩) fun a9 K ba X j a5=>?_
  intro _ a3 k ao;exact P _ a3 ⟨rfl,K,C.jn _ _ _ _ X (fun b g=>k.at_ b (j.qf b g)) k.size,fun b g A=>(k.at_ b (j.keep b g A).1).trans (j.keep b g A).2,R4 j.size k.size,j.ext⟩ ao ⟨k.tape.trans j.tape,k.os.trans j.os,k.output.trans j.output,R4 j.size k.size⟩ (lI aw _)
end
end Cc
namespace Cc
open Go Go.Conc
open Go.RowKit (Below)
open Ec (aD aE cj cY qv bO Bd aP)
theorem ER{P:RM}{a:TZ}{o:Te}{x:SG}{d:Sl}(f:o.op= .nilCheck x)(g:a.eval x= .pointer (Ry d)):∀ b,(Sd a.eval o).run P b= .ok (.value (.pointer (Ry d))) b∧(Sd a.eval o).events P b #[]=#[]:=fun b=>by
 unfold Sd;simp[f,g]
theorem It{P:RM}{S own:Nat→Prop}{a:TZ}{o:Te}{w:RD}{t:RO}{x:SG}{f off:Nat}{cs:List RB}{d:TypeDesc}{v:RB}(k:o.op= .load t x)(p:a.eval x= .pointer (Ry ⟨f,off,RA⟩))(l:P.underlying t=Ry d)(i:d.isRow=RF)(j:(P.info? t).map (·.size)=Ry cs.length)(h:S f∨own f)(hc:w.rangeAt f off cs)(m:.agg cs.toArray=v):∀ g,RelB (fun b=>S b∨own b) w g→(Sd a.eval o).run P g= .ok (.value v) g∧∀ e∈(Sd a.eval o).events P g #[],EvW S own e:=by
 subst m;exact eF k p l i j h hc
def dP (fn:Uj):Array Te:=match fn.body with
 |some (.region _ a _)=>a
 |_=> #[]
def Et (cu xb lp:Nat)(q:RB):List (Nat×RB):=[(4,.pointer (Ry ⟨cu,0,RA⟩)),(5,.pointer (Ry ⟨cu,0,RA⟩)),(6,.pointer (Ry ⟨cu,0,RA⟩)),(7,.pointer (Ry ⟨cu,0,RA⟩)),(8,.pointer (Ry ⟨cu,0,RA⟩)),(9,q),(10,.func (.yield lp) #[] #[])]
def G9 (cu:Nat)(n e:Nat):List (Nat×RB):=[(11,.tuple #[.int .i64 (n:Int),.int .i64 (e:Int)]),(3,.tuple #[.int .i64 (n:Int),.int .i64 (e:Int)]),(12,.int .i64 (n:Int)),(13,.int .i64 (e:Int)),(14,.pointer (Ry ⟨cu,0,RA⟩)),(15,.pointer (Ry ⟨cu,6,RA⟩))]
def MP (cu:Nat):List (Nat×RB):=[(16,.pointer (Ry ⟨cu,0,RA⟩)),(17,.pointer (Ry ⟨cu,7,RA⟩))]
def Kb:List Nat:=[4,5,6,7,8,9,10]
theorem Cj:fK (dP TU) (fun i=>decide (i<7)) 7 18 Kb=RF:=by kernel_rfl
theorem Ck:fK (dP TU) (fun i=>decide (i<13)) 13 18 ([11,3,12,13,14,15] ++ Kb)=RF:=by kernel_rfl
theorem Cl:fK (dP TU) (fun i=>decide (i<16)) 16 18 ([16,17] ++ ([11,3,12,13,14,15] ++ Kb))=RF:=by kernel_rfl
theorem Kc:((Sw (dP TU).size).all fun i=> !(fun i=>decide (i<7)) i || match iQ (dP TU) i with|some d=> !([11,3,12,13,14,15]:List Nat).contains d|none=>RF)=RF:=by kernel_rfl
theorem Ke:((Sw (dP TU).size).all fun i=> !(fun i=>decide (i<13)) i || match iQ (dP TU) i with|some d=> !([16,17]:List Nat).contains d|none=>RF)=RF:=by kernel_rfl
theorem Hf:((Sw (dP TU).size).all fun i=> !(fun i=>decide (2≤i∧i≤7)) i || i == 7 || (under (dP TU) 6 (match (dP TU)[7]? with
 |some o=>(o.after.toList.filter fun e=>S4 .any e).map (·.on)
 |none=>[])).contains i)=RF:=by kernel_rfl
theorem Hg:((Sw (dP TU).size).all fun i=> !(fun i=>decide (i≤13∧i≠1∧i≠10)) i || i == 13 || (under (dP TU) 2 (match (dP TU)[13]? with
 |some o=>(o.after.toList.filter fun e=>S4 .any e).map (·.on)
 |none=>[])).contains i)=RF:=by kernel_rfl
theorem Hh:((Sw (dP TU).size).all fun i=> !(fun i=>decide (i≤16)) i || i == 16 || (under (dP TU) 2 (match (dP TU)[16]? with
 |some o=>(o.after.toList.filter fun e=>S4 .any e).map (·.on)
 |none=>[])).contains i)=RF:=by kernel_rfl
theorem Kf:wM (aa.of Rz) (.inRegion (dP TU) [])=RF:=by kernel_rfl
theorem ON{a:TZ}{l:List Nat}(b:a.defers=[]):ei (aa.of Rz) ((base 53).at a [.inRegion (dP TU) l]) []:=
 ep rfl b (by rw[List.all_cons,List.all_nil,Bool.and_true];exact Kf)
theorem PR:(Uy.name == "runtime.NumGoroutine")=RE:=by kernel_rfl
theorem KF:(Rz.info? 3).map (·.size)=Ry 1:=by kernel_rfl
theorem EC:(Rz.info? 27).map (·.size)=Ry 1:=by kernel_rfl
theorem Bj{P:RM}{fn:Uj}{a:TZ}(b:fn.results=#[]):(∀ w,(SD fn a.tmps).run P w= .ok (.tuple #[]) w)∧∀ w,(SD fn a.tmps).events P w #[]=#[]:=by
 constructor<;>intro w<;>simp[SD,b]
def iI (q:Array RB)(n e:Nat):Array RB:=q ++ #[.int .i64 (n:Int),.int .i64 (e:Int)]
section
variable {Post:RB→RD→Prop}{own:Nat→Prop}{w:RD}{cu xb lp n e:Nat}{a0:TZ}{cs:List RU}{q:Array RB}{qa:RB}{c:RU}{n0 e0:Nat}
theorem Kg(m:Knows a0 18 [(0,.func (.yield lp) #[] #[]),(1,.pointer (Ry ⟨xb,0,RA⟩))])(E:a0.defers=[])(F:sj Il own w)(H:own xb)(u:own cu)(P:xb≠cu)(K:w.heap[xb]? =Ry (.cells #[.pointer (Ry ⟨cu,0,RA⟩)] 74 (0,0)))(v:q.size=6)(hc:w.heap[cu]? =Ry (.cells (iI q n e0) 119 (0,0)))
 (k t:Nat) (f:Array Bool) (b:TZ) (l:b8 (dP TU) (fun i=>decide (i<16)) a0 (fill a0 (MP cu ++ (G9 cu n e ++ Et cu xb lp qa))) f b) (p:∀ i,(fun i=>decide (i≤13∧i≠1∧i≠10)) i=RF→f.getD i RE=RF) (s:DL f≤k)
 (G:∀ w',yC Il own cu (.cells (iI q n e) 119 (0,0)) w w'→Xe (aa.of Rz) Rz Post own (c.finish (.tuple #[])) cs w'):
 Xe (aa.of Rz) Rz Post own ((base 53).at b [.inRegion (dP TU) (SJ .any (dP TU) k t f [])]) (c :: cs) w:=by
 have h:=fZ (aa.of Rz) Rz Post;refine jN (Dn:=fun i=>decide (i≤13∧i≠1∧i≠10)) (u:=16) h (by decide) m Cl ?_ ?_ ?_ k t f b l p s
 ·intro a i g I p _ d;have M:i<16:=by simpa using I
  have N:¬ (i≤13∧i≠1∧i≠10):=by simpa using p
  have:i=1∨i=10∨i=14∨i=15:=by omega
  rcases this with rfl|rfl|rfl|rfl
  ·cases(show Ry _=Ry g from d);exact⟨_,rfl,.inl ⟨rfl,bM rfl (a.of rfl) Tryz.isAgg74 (.inr H) (jI K rfl)⟩⟩
  ·cases(show Ry _=Ry g from d);exact⟨_,rfl,.inl ⟨rfl,bV (bT rfl (a.of rfl) rfl)⟩⟩
  ·cases(show Ry _=Ry g from d);exact⟨_,rfl,.inl ⟨rfl,bV (ER rfl (a.of rfl))⟩⟩
  ·cases(show Ry _=Ry g from d);exact⟨_,rfl,.inl ⟨rfl,bV (cK (off':=7) rfl (a.of rfl) Tryz.underlying119 rfl Tryz.sizeOf27 rfl)⟩⟩
 ·intro g d k t f b l x s O _;have a:=m.fill (MP cu ++ (G9 cu n e ++ Et cu xb lp qa)) rfl;have o:=fM (Dn:=fun i=>decide (i≤16)) l x Hh (fun j r=>by
   have:j≤16:=by simpa using r
   show j<17;omega)
  cases(show Ry _=Ry g from d);obtain⟨C,D⟩:=mV l x rfl m.size Cl (fun j r=>o j (by
   have:j<17:=r;simp;omega))
  rw[D];subst C;refine qP h F (n:=cu) (by decide) d rfl u (.cells ((iI q n e0).toList.take 7 ++ (TW .i64 (e:Int)).cells.toList ++ (iI q n e0).toList.drop (7+(TW .i64 (e:Int)).cells.size)).toArray 119) trivial (j8 (n:=cu) (off:=7) (v:=.int .i64 (e:Int)) rfl (a.of rfl) (a.of rfl) EC (fun Q A=>by simp[Ub] at A;rw[A];rfl) (Or.inr u) hc (by
   show 7+1≤(iI q n e0).size;simp[iI,v])) fun L z=>?_
  refine aj h ?_;refine JX h ?_;have y:=Bj (P:=Rz) (fn:=TU) (a:=(fill a0 (MP cu ++ (G9 cu n e ++ Et cu xb lp qa))).put (dP TU)[16].dst SP) Tryz.results53;refine gA h rfl (by rw[put_defers,dR];exact E) Tryz.func53 y.1 y.2 (G L ?_);have B:((iI q n e0).toList.take 7 ++ (TW .i64 (e:Int)).cells.toList ++ (iI q n e0).toList.drop (7+(TW .i64 (e:Int)).cells.size)).toArray=iI q n e:=by
   apply Array.toList_inj.1;have J:q.toList.length=6:=by simpa using v
   simp[iI,Ub,List.take_append,List.drop_append,J];rw[SF (by omega),List.drop_eq_nil_of_le (by omega)]
  rw[B] at z;exact z
 ·intro o;exact absurd (o 16 (by decide)) (by decide)
theorem Eu(m:Knows a0 18 [(0,.func (.yield lp) #[] #[]),(1,.pointer (Ry ⟨xb,0,RA⟩))])(r:a0.defers=[])(B:sj Il own w)(o:own xb)(v:own cu)(F:xb≠cu)(z:w.heap[xb]? =Ry (.cells #[.pointer (Ry ⟨cu,0,RA⟩)] 74 (0,0)))(x:q.size=6)(hc:w.heap[cu]? =Ry (.cells (iI q n0 e0) 119 (0,0)))
 (j t:Nat) (h:Array Bool) (b:TZ) (k:b8 (dP TU) (fun i=>decide (i<13)) a0 (fill a0 (G9 cu n e ++ Et cu xb lp qa)) h b) (s:∀ i,(fun i=>decide (2≤i∧i≤7)) i=RF→h.getD i RE=RF) (D:DL h≤j)
 (M:∀ G w',yC Il own cu (.cells (iI q n e0) 119 (0,0)) w G→yC Il own cu (.cells (iI q n e) 119 (0,0)) G w'→Xe (aa.of Rz) Rz Post own (c.finish (.tuple #[])) cs w'):
 Xe (aa.of Rz) Rz Post own ((base 53).at b [.inRegion (dP TU) (SJ .any (dP TU) j t h [])]) (c :: cs) w:=by
 have A:=fZ (aa.of Rz) Rz Post;refine jN (Dn:=fun i=>decide (2≤i∧i≤7)) (u:=13) A (by decide) m Ck ?_ ?_ ?_ j t h b k s D
 ·intro d i f O s _ a;have T:i<13:=by simpa using O
  have U:¬ (2≤i∧i≤7):=by simpa using s
  have:i=0∨i=1∨i=8∨i=9∨i=10∨i=11∨i=12:=by omega
  rcases this with rfl|rfl|rfl|rfl|rfl|rfl|rfl
  ·cases(show Ry _=Ry f from a);exact⟨_,rfl,.inl ⟨rfl,bM rfl (d.of rfl) Tryz.isAgg74 (.inr o) (jI z rfl)⟩⟩
  ·cases(show Ry _=Ry f from a);exact⟨_,rfl,.inl ⟨rfl,bM rfl (d.of rfl) Tryz.isAgg74 (.inr o) (jI z rfl)⟩⟩
  ·cases(show Ry _=Ry f from a);exact⟨_,rfl,.inl ⟨rfl,bV (ay rfl (d.of rfl))⟩⟩
  ·cases(show Ry _=Ry f from a);exact⟨_,rfl,.inl ⟨rfl,bV (bT rfl (d.of rfl) rfl)⟩⟩
  ·cases(show Ry _=Ry f from a);exact⟨_,rfl,.inl ⟨rfl,bV (bT rfl (d.of rfl) rfl)⟩⟩
  ·cases(show Ry _=Ry f from a);exact⟨_,rfl,.inl ⟨rfl,bV (ER rfl (d.of rfl))⟩⟩
  ·cases(show Ry _=Ry f from a);exact⟨_,rfl,.inl ⟨rfl,bV (cK (off':=6) rfl (d.of rfl) Tryz.underlying119 rfl Vi rfl)⟩⟩
 ·intro f a j t h b k y D C _;have d:=m.fill (G9 cu n e ++ Et cu xb lp qa) rfl;have p:=fM (Dn:=fun i=>decide (i≤13∧i≠1∧i≠10)) k y Hg (fun g u=>by
   have:g≤13∧g≠1∧g≠10:=by simpa using u
   show g<17;omega)
  cases(show Ry _=Ry f from a);have I:b.eval (.tmp 15)= .pointer (Ry ⟨cu,6,RA⟩):=(C 15 (by decide)).trans (d.slot 15 _ rfl);have H:b.eval (.tmp 12)= .int .i64 (n:Int):=(C 12 (by decide)).trans (d.slot 12 _ rfl);refine qP A B (n:=cu) (by decide) a rfl v (.cells ((iI q n0 e0).toList.take 6 ++ (TW .i64 (n:Int)).cells.toList ++ (iI q n0 e0).toList.drop (6+(TW .i64 (n:Int)).cells.size)).toArray 119) trivial (j8 (n:=cu) (off:=6) (v:=.int .i64 (n:Int)) rfl I H KF (fun V E=>by simp[Ub] at E;rw[E];rfl) (Or.inr v) hc (by
   show 6+1≤(iI q n0 e0).size;simp[iI,x])) fun R l=>?_
  have J:((iI q n0 e0).toList.take 6 ++ (TW .i64 (n:Int)).cells.toList ++ (iI q n0 e0).toList.drop (6+(TW .i64 (n:Int)).cells.size)).toArray=iI q n e0:=by
   apply Array.toList_inj.1;have P:q.toList.length=6:=by simpa using x
   simp[iI,Ub,List.take_append,List.drop_append,P]
  rw[J] at l;have K:=k.F5 (l2:=MP cu) (JC:=fun i=>decide (i<16)) (n:=18) (v:=SP) y a m.size Ck rfl (fun g u=>by
   have:g<13:=by simpa using u
   simp;omega) rfl Ke (fun S r=>by cases r)
  refine Kg (n:=n) (e:=e) (e0:=e0) (qa:=qa) m r (B.set l) o v F ((l.at_ xb (.inr o) F).trans z) x l.set j t _ _ K p ?_ fun w' Q=>M R w' l Q;obtain⟨_,_,L,N,_⟩:=mem_ready y;have:=pW (by rw[k.size];exact L) N;omega
 ·intro p;exact absurd (p 13 (by decide)) (by decide)
end
def QJ (J:List cI→(Nat→Prop)→RD→Prop)(M0:Nat→Prop)(w0:RD)(cu:Nat)(q:Array RB)(b:List cI×Nat×Nat)(f:Uw)(w':RD):Prop:=
 f= .returned (.tuple #[])∧(∃ c,J b.1 c w'∧∀ a,c a→M0 a∨w0.heap.size≤a)∧(∀ a,a<w0.heap.size→¬ M0 a→a≠cu→w'.heap[a]? =w0.heap[a]?)∧w'.heap[cu]? =Ry (.cells (iI q b.2.1 b.2.2) 119 (0,0))∧w0.heap.size≤w'.heap.size
section
variable {Post:RB→RD→Prop}{J:List cI→(Nat→Prop)→RD→Prop}{Go:List cI→Bool}{w0:RD}{M0:Nat→Prop}{lp cu xb:Nat}{l:List (bO×Int)}{bs:List Bd}{ah:List Int}{rs:List cj}{kb ck eb ce db:Nat}{dO:Option Sl}{ct mj:Nat→Nat}{co:Option Sl}{cb bk aF:Nat}{ro:Option Sl}{rb bq aI:Nat}{V:Nat→Nat→List aD}{cJ n0 e0:Nat}{sk:Bool}
theorem He(C:Cons (aa.of Rz) Rz Post lp J Go)(q:FQ l bs ah rs V)(i:J [] M0 w0)(hF:∀ t,(∀ b,b<w0.heap.size→¬ M0 b→b≠cu→l9 t w0 b)→w0.heap.size≤t.heap.size→FM t l bs ah rs kb eb dO db ct mj co cb bk ro rb bq)(a6:0<bs.length→¬ M0 db)(P:¬ M0 cu)(a7:¬ M0 xb)(be:xb≠cu)
 (x:w0.heap[xb]? =Ry (.cells #[.pointer (Ry ⟨cu,0,RA⟩)] 74 (0,0))) (hc:w0.heap[cu]? =Ry (.cells (iI (fL kb l.length ck eb l.length ce dO bs.length cJ co ah.length aF ro rs.length aI sk) n0 e0) 119 (0,0))):
 kA (aa.of Rz) Rz Post 53 #[.func (.yield lp) #[] #[],.pointer (Ry ⟨xb,0,RA⟩)] w0 (QJ J M0 w0 cu (fL kb l.length ck eb l.length ce dO bs.length cJ co ah.length aF ro rs.length aI sk) (fq sk bs ah rs (aP l.length (ah ++ rs.map cj.col)) V Go 0 bs.length [] 0)):=by
 intro W X bc bB G Z;have M:=fZ (aa.of Rz) Rz Post;have R:cu<w0.heap.size:=(RH.1 hc).1;have B:xb<w0.heap.size:=(RH.1 x).1;have ae:=C.bound _ _ _ i;refine Xe.go (own:=fun b=>b<w0.heap.size) ?_ (fun b e=>e) G;rw[enter_at _ Tryz.func53 rfl];have s:=QY (.func (.yield lp) #[] #[]) (.pointer (Ry ⟨xb,0,RA⟩)) 18 (by decide);have F:(⟨#[Value.func (.yield lp) #[] #[],.pointer (Ry ⟨xb,0,RA⟩)] ++ SN (18 - 2) SP,[]⟩:TZ).defers=[]:=rfl;have ao:w0.rangeAt cu 0 (fL kb l.length ck eb l.length ce dO bs.length cJ co ah.length aF ro rs.length aI sk).toList:=fun j v i=>by
  refine nE hc j v ?_;have a5:j<6:=(R8.1 i).1;simp only[iI,Array.toList_append];rw[S7 (by simpa [fL] using a5)];exact i
 show Xe _ _ Post _ ((base 53).at ⟨#[Value.func (.yield lp) #[] #[],.pointer (Ry ⟨xb,0,RA⟩)] ++ SN (18 - 2) SP,[]⟩ [.code (.region 0 (dP TU) RF)]) (W :: X) w0;generalize (⟨#[Value.func (.yield lp) #[] #[],.pointer (Ry ⟨xb,0,RA⟩)] ++ SN (18 - 2) SP,[]⟩:TZ)=bl at s F;generalize Q:qv (.slice (Ry ⟨kb,0,RA⟩) l.length ck) (.slice (Ry ⟨eb,0,RA⟩) l.length ce) (.slice dO bs.length cJ) (.slice co ah.length aF) (.slice ro rs.length aI) sk=o;have ba:Value.agg (fL kb l.length ck eb l.length ce dO bs.length cJ co ah.length aF ro rs.length aI sk).toList.toArray=o:=by rw[← Q];rfl
 refine pq (Ph:=fun c=>decide (c<7)) (l:=Et cu xb lp o) M pZ ?_;refine jN (u:=7) M (by decide) s Cj ?_ ?_ ?_
 ·intro h c g G _ _ d;have br:c<7:=by simpa using G
  have:c=0∨c=1∨c=2∨c=3∨c=4∨c=5∨c=6:=by omega
  rcases this with rfl|rfl|rfl|rfl|rfl|rfl|rfl
  ·cases(show Ry _=Ry g from d);exact⟨_,rfl,.inl ⟨rfl,bM rfl (h.of rfl) Tryz.isAgg74 (.inr B) (jI x rfl)⟩⟩
  ·cases(show Ry _=Ry g from d);exact⟨_,rfl,.inl ⟨rfl,bM rfl (h.of rfl) Tryz.isAgg74 (.inr B) (jI x rfl)⟩⟩
  ·cases(show Ry _=Ry g from d);exact⟨_,rfl,.inl ⟨rfl,bM rfl (h.of rfl) Tryz.isAgg74 (.inr B) (jI x rfl)⟩⟩
  ·cases(show Ry _=Ry g from d);exact⟨_,rfl,.inl ⟨rfl,bV (ER rfl (h.of rfl))⟩⟩
  ·cases(show Ry _=Ry g from d);exact⟨_,rfl,.inl ⟨rfl,bV (cK (off':=0) rfl (h.of rfl) Tryz.underlying119 rfl Tryz.sizeOf115 rfl)⟩⟩
  ·cases(show Ry _=Ry g from d);exact⟨_,rfl,.inl ⟨rfl,It (cs:=(fL kb l.length ck eb l.length ce dO bs.length cJ co ah.length aF ro rs.length aI sk).toList) rfl (h.of rfl) T9 rfl tf (.inr R) ao ba⟩⟩
  ·cases(show Ry _=Ry g from d);exact⟨_,rfl,.inl ⟨rfl,bV (ay rfl (h.of rfl))⟩⟩
 ·intro g d Y bi b1 b z H bA O _;have h:=s.fill (Et cu xb lp o) rfl;have aw:=fM (Dn:=fun c=>decide (2≤c∧c≤7)) z H Hf (fun j i=>by
   have:2≤j∧j≤7:=by simpa using i
   show j<17;omega)
  have al:b.defers=[]:=by rw[z.PV,dR];exact F
  cases(show Ry _=Ry g from d);have U:b.eval (.tmp 9)=o:=(O 9 (by decide)).trans (h.slot 9 _ rfl);have T:b.eval (.tmp 10)= .func (.yield lp) #[] #[]:=(O 10 (by decide)).trans (h.slot 10 _ rfl);refine nV (R:=fun r=>Of J M0 r (fq sk bs ah rs (aP l.length (ah ++ rs.map cj.col)) V Go 0 bs.length [] 0)) (vs:= #[o,.func (.yield lp) #[] #[]]) rfl d rfl rfl (vM U T) Tryz.func54 PR rfl (ON al) (fun r f=>?_) (fun r v D f bd I a8=>?_) (fun r bm bj ⟨k,_⟩=>by cases k) (fun r bj ⟨k,_⟩=>by cases k)
  ·have a2:=C.jn _ _ _ r i (fun b a=>f.at_ b (ae b a)) f.size;rw[← Q];exact E6 C q a2 (fun t ad bb=>hF t (fun b a u _ g d ab=>ad b (RK a f.size) u g ((f.at_ b a).trans d) ab) (R4 f.size bb)) a6
  ·obtain⟨k,K,L,a3,b0,N⟩:=bd;cases k;generalize fq sk bs ah rs (aP l.length (ah ++ rs.map cj.col)) V Go 0 bs.length [] 0=p at*;have b2:=f.size;have E:∀ b,b<w0.heap.size→¬ M0 b→D.heap[b]? =w0.heap[b]? :=fun b a u=>(a3 b (by omega) u).trans (f.at_ b a);have a0:=z.F5 (l2:=G9 cu p.2.1 p.2.2) (JC:=fun c=>decide (c<13)) (n:=18) (v:=.tuple #[.int .i64 (p.2.1:Int),.int .i64 (p.2.2:Int)]) H d s.size Cj rfl (fun j i=>by
    have:j<7:=by simpa using i
    simp;omega) rfl Kc (fun bo ar=>by cases ar;rfl)
   have am:¬ K cu:=fun e=>(N cu e).elim P (fun e=>by omega);refine Xe.go (own:=fun b=>b<D.heap.size) ?_ (fun b e=>e) a8;refine Eu (n:=p.2.1) (e:=p.2.2) (n0:=n0) (e0:=e0) (qa:=o) s F (fun b a=>a.elim Vt (fun e=>e)) (by show xb<_;omega) (by show cu<_;omega) be ((E xb B a7).trans x) rfl ((E cu R P).trans hc) Y bi _ _ a0 aw ?_ fun b3 b4 w n=>?_
   ·obtain⟨_,_,a1,a4,_⟩:=mem_ready H;have:=pW (by rw[z.size];exact a1) a4;omega
   ·intro bx S m a9;have bt:=w.size;have bu:=n.size;have bv:=m.size;have y:∀ b,b<D.heap.size→b≠cu→S.heap[b]? =D.heap[b]? :=fun b a A=>(m.at_ b a).trans ((n.at_ b (.inr a) A).trans (w.at_ b (.inr a) A));refine Z _ S ⟨rfl,⟨K,C.jn _ _ _ _ L (fun b a=>y b (C.bound _ _ _ L b a) (fun k=>am (k▸a))) (by omega),fun b a=>(N b a).imp (fun e=>e) (fun e=>by omega)⟩,fun b a u A=>(y b (by omega) A).trans (E b a u),(m.at_ cu (by show cu<_;omega)).trans n.set,by omega⟩ a9 ⟨?_,?_,?_,by omega⟩ (lI bc _)
    ·rw[m.tape,n.tape,w.tape,I.tape,f.tape]
    ·rw[m.os,n.os,w.os,I.os,f.os]
    ·rw[m.output,n.output,w.output,I.output,f.output]
 ·intro y;exact absurd (y 16 (by decide)) (by decide)
end
end Cc
namespace Cc
open Go Go.Conc
open Ec (aD aE)
section
variable {P:RM}{ops:Array Te}{Q:Exit→TZ→RD→Prop}{i:Nat}{rest:List Nat}{o:Te}{a:TZ}{w w':RD}{v:RB}
theorem vB{rest:List Te}(c:Sn o (S2 ops a.tmps)=RF)(b:(Sd a.eval o).run P w= .ok (.value v) w')(h:wpList P ops Q rest (a.put o.dst v) w'):wpList P ops Q (o :: rest) a w:=by
 simp only[wpList,c,if_true]
 left
 unfold Oper.wp;rw[b];exact h
theorem Mq{rest:List Te}(c:Sn o (S2 ops a.tmps)=RF)(b:(Sd a.eval o).run P w= .ok .skip w')(h:wpList P ops Q rest (a.put o.dst SP) w'):wpList P ops Q (o :: rest) a w:=by
 simp only[wpList,c,if_true]
 left
 unfold Oper.wp;rw[b];exact h
theorem uL(h:wpList P ops Q ops.toList a w):wpOps P ops Q (Sw ops.size) a w:=by
 rw[List.range_eq_range',← TL,wpOps_eq_wpList ops.toList 0 (by simp)];exact h
theorem Dd{t e:RO}{x:SG}{b:Ur}{z:RB}(j:o.op= .buildSlice t 1 #[(0,x)])(n:a.eval x=v)(m:v.cells=#[v])(l:P.underlying t=Ry (.slice e))(h:P.info? e=Ry b)(p:b.zero=Ry z)(r:z.cells.size=1)(c:b.size=1):(Sd a.eval o).run P w= .ok (.value (.slice (Ry ⟨w.heap.size,0,RA⟩) 1 1)) (w.alloc (.cells #[v] e)):=by
 have g:UZ (fun f=>Ry (f*b.size,b.size)) ((Vg (1*b.size)).map (z.cells[· % z.cells.size]!)) #[(0,v)].toList=Ry #[v]:=by
  rw[c];simp[UZ,m,Vg,Array.zipIdx];apply Array.ext
  ·simp
  ·intro f q d;simp at d;subst d;simp
 have k:=run_buildSlice (P:=P) w t e 1 #[(0,v)] #[v] b z l h p (by rw[c];decide) (by rw[c];decide) g;unfold Sd;simp[j,n,k]
end
structure jY(l D rb:Nat)(r:Loop)(pre:List cI)(M:Nat→Prop)(W:RD):Prop where
 st:r.state= .ready
 pn:r.pending=RA
 hl:W.heap[l]? =Ry (.loop r)
 hD:W.heap[D]? =Ry (.deferred (Ry []))
 ex:∃ (rv:RB) (vs:List RB),W.heap[rb]? =Ry (.cells #[rv] 26 (0,0))∧W.ownsRow 0 43 1 rv pre.length vs∧(∀ (i:Nat) (x:cI),pre[i]? =Ry x→∃ v,vs[i]? =Ry v∧v.oneCell'=RF∧W.ownsRow 0 59 3 v x.2.length (aE x.2))∧(∀ (i j:Nat) v u g,vs[i]? =Ry v→vs[j]? =Ry u→v.ownBlock=Ry g→u.ownBlock=Ry g→i=j)∧∀ b,M b↔b=l∨b=D∨b=rb∨Ry b=rv.ownBlock∨∃ v∈vs,Ry b=v.ownBlock
theorem Jw:∃ i,(aa.of Rz).info? 43=Ry i∧i.zero=Ry (.slice RA 0 0)∧i.size=1∧i.bytes=24:=⟨Tryz.t43,by kernel_rfl,rfl,rfl,rfl⟩
theorem E7:((aa.of Rz).info? 26).map (·.size)=Ry 1:=by kernel_rfl
def dJ (fn:Uj):Array Te:=match fn.body with
 |some (.seq _ (.seq _ (.seq _ (.seq _ (.seq (.seq _ (.block _ (.rangeFunc _ _ _ (.block _ (.region _ ops _))))) _)))))=>ops
 |_=> #[]
theorem pJ{v:RB}{b:RD}{base:Nat}{e:RO}{c n:Nat}{d:List RB}(h:b.ownsRow base e c v n d):v.cells=#[v]∧v.oneCell'=RF:=by
 rcases h.2 with⟨rfl,_⟩|⟨j,f,g,rfl,_⟩
 ·exact⟨rfl,rfl⟩
 ·exact⟨rfl,rfl⟩
theorem LB{c:RD}{a:TZ}{rb n:Nat}{f v:RB}{vs:List RB}{Q:Exit→TZ→RD→Prop}(e:Knows a 40 [(14,v),(12,.pointer (Ry ⟨rb,0,RA⟩))])(t:c.heap[rb]? =Ry (.cells #[f] 26 (0,0)))(G:c.ownsRow 0 43 1 f n vs)(ad:v.cells=#[v])(ae:v.oneCell'=RF)(ar:n≤2000)
 (R:∀ a' W' g,W'.heap[rb]? =Ry (.cells #[g] 26 (0,0))→W'.ownsRow 0 43 1 g (n+1) (vs ++ [v])→(∀ b,b<c.heap.size→b≠rb→Ry b≠f.ownBlock→W'.heap[b]? =c.heap[b]?)→c.heap.size≤W'.heap.size→(∀ b,Ry b=g.ownBlock→Ry b=f.ownBlock∨c.heap.size≤b)→Q .normal a' W'):wpOps (aa.of Rz) (dJ Tz) Q (Sw (dJ Tz).size) a c:=by
 obtain⟨al,F,K,I,S⟩:=Jw;have ao:rb<c.heap.size:=(RH.1 t).1;refine uL ?_;refine vB rfl ((bM (S:=Il) (own:=fun _=>True) rfl (e.of rfl) (fun w=>by simp) (.inr trivial) (jI t rfl) c (RelB.refl _ _)).1) ?_;replace e:=e.put (d:=30) (by decide) f;refine vB rfl ((ay rfl (e.of rfl) c).1) ?_;replace e:=e.put (d:=31) (by decide) v;refine vB rfl (Dd rfl (e.of rfl) ad aa.underlying26 F K rfl I) ?_;replace e:=e.put (d:=32) (by decide) (.slice (Ry ⟨c.heap.size,0,RA⟩) 1 1);have A:∀ d,d<c.heap.size→(c.alloc (.cells #[v] 43)).heap[d]? =c.heap[d]? :=fun d j=>by
  show(c.heap.push _)[d]? =_;rw[Sp,if_neg (by omega)]
 have X:(c.alloc (.cells #[v] 43)).ownsRow 0 43 1 f n vs:=jb G (RG _) fun d _ _ j=>A d j;have U:∀ B r,[v][B]? =Ry r→(c.alloc (.cells #[v] 43)).cell? (VN ⟨c.heap.size,0,RA⟩ B)=Ry r:=fun B r T=>by
  rw[U2];unfold R2;have:(c.alloc (.cells #[v] 43)).heap[c.heap.size]? =Ry (.cells #[v] 43 (0,0)):=by
   show(c.heap.push _)[c.heap.size]? =_;simp
  simp only[this,SA];simpa using T
 have J:(c.alloc (.cells #[v] 43)).heap.size=c.heap.size+1:=by simp
 refine Pk.aL (c.alloc (.cells #[v] 43)) rfl _ _ 26 rfl 0 43 al (.slice RA 0 0) 1 24 aa.underlying26 F K I S rfl (by decide) f n vs (e.of rfl) X ⟨c.heap.size,0,RA⟩ 1 1 [v] (e.of rfl) (by decide) rfl U (fun r p=>by simp at p;rw[p];exact ae) (by unfold R3;omega) (by omega) (Sk _) fun g m z x=>?_;replace e:=e.put (d:=33) (by decide) g;have Y:∀ d,f.ownBlock=Ry d→d≠rb:=fun d j l=>by
  rcases G.2 with⟨rfl,_⟩|⟨O,L,M,rfl,_,q,_⟩
  ·cases j
  ·cases j;subst l;rw[t] at q;cases q
 have E:∀ b,b<c.heap.size→Ry b≠f.ownBlock→m.heap[b]? =c.heap[b]? :=fun b k y=>by
  rcases x with⟨h,_⟩|⟨_,h⟩
  ·exact(h.block b (by omega) (by simp)).trans (A b k)
  ·exact(h.block b (by omega) y).trans (A b k)
 have aw:c.heap.size+1≤m.heap.size:=by
  rcases x with⟨h,_⟩|⟨_,h⟩
  ·rw[← J];exact h.size
  ·rw[← J];exact h.size
 have H:=(E rb ao (fun l=>Y rb l.symm rfl)).trans t;obtain⟨s,W⟩:=pJ z;obtain⟨C,ab,u,_⟩:=j8 (P:=aa.of Rz) (S:=Il) (own:=fun _=>True) (a:=((((a.put (Ry 30) f).put (Ry 31) v).put (Ry 32) (.slice (Ry ⟨c.heap.size,0,RA⟩) 1 1)).put (Ry 33) g)) (o:=(dJ Tz)[4]) (w:=m) (n:=rb) (off:=0) (v:=g) rfl (e.of rfl) (e.of rfl) (by rw[s];exact E7) (fun r p=>by rw[s] at p;simp at p;rw[p];exact W) (Or.inr trivial) H (by rw[s];exact RG 1) m (RelB.refl _ _);refine Mq rfl ab ?_;have N:((#[f]:Array RB).toList.take 0 ++ g.cells.toList ++ (#[f]:Array RB).toList.drop (0+g.cells.size)).toArray=#[g]:=by rw[s];rfl
 rw[N] at u;have am:rb<m.heap.size:=by omega
 have D:∀ b:Nat,b≠rb→C.heap[b]? =m.heap[b]? :=fun b k=>by rw[u.heap,Ss,if_neg (fun l=>k l.symm)]
 have Z:∀ d,g.ownBlock=Ry d→d≠rb:=fun d j l=>by
  rcases z.2 with⟨rfl,_⟩|⟨O,L,M,rfl,_,q,_⟩
  ·cases j
  ·cases j;subst l;rw[H] at q;cases q
 refine R _ C g (by rw[u.heap,Ss,if_pos rfl,if_pos am]) (jb z (RG _) fun d j _ _=>D d (Z d j)) (fun b k y V=>(D b y).trans (E b k V)) (by rw[u.heap];simp;omega) fun b k=>?_;rcases x with⟨_,h⟩|⟨h,_⟩
 ·exact .inr (by have:=(rL h k.symm).1;omega)
 ·exact .inl (by rw[← h];exact k)
def eW (fn:Uj):Array Te:=match fn.body with
 |some (.seq _ (.seq _ (.seq _ (.seq _ (.seq (.seq _ (.block _ (.rangeFunc _ _ (.region _ a _) _))) _)))))=>a
 |_=> #[]
structure pi(r:Loop)(rb:Nat):Prop where
 ps:r.params=#[28,29]
 Rc:r.assign= .region 6 (eW Tz) RE
 bd:r.body= .block 1 (.region 7 (dJ Tz) RE)
 sz:r.tmps.size=40
 kn:r.tmps.getD 12 SP= .pointer (Ry ⟨rb,0,RA⟩)
theorem NF:((dJ Tz).toList.all fun o=> !AT o.op)=RF:=by kernel_rfl
theorem LA:((eW Tz).toList.all fun o=> !AT o.op)=RF:=by kernel_rfl
def vK (l D rb:Nat)(r:Loop)(pre:List cI)(c:Nat→Prop)(b:RD)(nm:Nat)(e:List aD)(v:RB)(W':RD):Prop:=
 ∃ d,jY l D rb r (pre ++ [(nm,e)]) d W'∧(∀ a,a<b.heap.size→¬ c a→Ry a≠v.ownBlock→W'.heap[a]? =b.heap[a]?)∧∀ a,d a→c a∨Ry a=v.ownBlock∨b.heap.size≤a
theorem jY.sh{l D rb:Nat}{r:Loop}{pre:List cI}{a:Nat→Prop}{b:RD}(h:jY l D rb r pre a b){W':RD}(e:W'.heap=b.heap):jY l D rb r pre a W':=by
 obtain⟨i,j,k,m,w,x,n,o,p,q,s⟩:=h;refine⟨i,j,by rw[e];exact k,by rw[e];exact m,w,x,by rw[e];exact n,jb o (RG _) (fun g _ _ _=>by rw[e]),fun u y t=>?_,q,s⟩;obtain⟨v,c,d,f⟩:=p u y t;exact⟨v,c,d,jb f (RG _) (fun g _ _ _=>by rw[e])⟩
theorem jY.keeps{l D rb:Nat}{r:Loop}{pre:List cI}{e:Nat→Prop}{g W':RD}(h:jY l D rb r pre e g)(d:∀ b,e b→W'.heap[b]? =g.heap[b]?):jY l D rb r pre e W':=by
 obtain⟨m,n,o,p,y,z,q,s,t,u,a⟩:=h;refine⟨m,n,(d l ((a l).2 (.inl rfl))).trans o,(d D ((a D).2 (.inr (.inl rfl)))).trans p,y,z,(d rb ((a rb).2 (.inr (.inr (.inl rfl))))).trans q,jb s (RG _) (fun c f _ _=>d c ((a c).2 (.inr (.inr (.inr (.inl f.symm)))))),fun x A w=>?_,u,a⟩;obtain⟨v,i,j,k⟩:=t x A w;exact⟨v,i,j,jb k (RG _) (fun c f _ _=>d c ((a c).2 (.inr (.inr (.inr (.inr ⟨v,Td i,f.symm⟩))))))⟩
theorem I1{l D rb:Nat}{r:Loop}{pre:List cI}{F:Nat→Prop}{c w B:RD}{nm:Nat}{Q:List aD}{v z:RB}{vs:List RB}{k:RB}(h1:r.state= .ready)(a3:r.pending=RA)(J:c.heap[l]? =Ry (.loop r))(n:c.heap[D]? =Ry (.deferred (Ry [])))(X:c.heap[rb]? =Ry (.cells #[k] 26 (0,0)))(K:c.ownsRow 0 43 1 k pre.length vs)
 (a4:∀ (i:Nat) (x:cI),pre[i]? =Ry x→∃ v,vs[i]? =Ry v∧v.oneCell'=RF∧c.ownsRow 0 59 3 v x.2.length (aE x.2)) (a5:∀ (i j:Nat) v u g,vs[i]? =Ry v→vs[j]? =Ry u→v.ownBlock=Ry g→u.ownBlock=Ry g→i=j) (e:∀ b,F b↔b=l∨b=D∨b=rb∨Ry b=k.ownBlock∨∃ v∈vs,Ry b=v.ownBlock)
 (ad:c.ownsRow 0 59 3 v Q.length (aE Q)) (ab:∀ g,v.ownBlock=Ry g→¬ F g)
 (a1:w.heap[rb]? =Ry (.cells #[z] 26 (0,0))) (g2:w.ownsRow 0 43 1 z (pre.length+1) (vs ++ [v])) (I:∀ b,b<c.heap.size→b≠l→b≠rb→Ry b≠k.ownBlock→w.heap[b]? =c.heap[b]?) (bo:c.heap.size≤w.heap.size) (a2:∀ b,Ry b=z.ownBlock→Ry b=k.ownBlock∨c.heap.size≤b) (W:B.heap=w.heap.setIfInBounds l (.loop r)) (bc:l≠rb) (bt:∀ g,k.ownBlock=Ry g→g≠l) (bd:∀ g,z.ownBlock=Ry g→g≠l):vK l D rb r pre F c nm Q v B:=by
 have bs:l<c.heap.size:=(RH.1 J).1;have a6:D<c.heap.size:=(RH.1 n).1;have A:∀ b:Nat,b≠l→B.heap[b]? =w.heap[b]? :=fun b f=>by rw[W,Ss,if_neg (fun a=>f a.symm)]
 have U:D≠l:=fun a=>by rw[a,J] at n;cases n
 have aw:D≠rb:=fun a=>by rw[a,X] at n;cases n
 have a0:Ry D≠k.ownBlock:=fun a=>by
  rcases K.2 with⟨rfl,_⟩|⟨V,ao,ar,rfl,_,h,_⟩
  ·cases a
  ·cases a;rw[n] at h;cases h
 have be:∀ u s t,c.ownsRow 0 59 3 u s t→∀ g,u.ownBlock=Ry g→g<c.heap.size∧g≠l∧g≠rb∧Ry g≠k.ownBlock:=fun u s t d g y=>by
  rcases d.2 with⟨rfl,_⟩|⟨V,ao,ar,rfl,_,h,_⟩
  ·cases y
  ·have L:g=V:=(by cases y;rfl);subst L;refine⟨(RH.1 h).1,(fun a=>by rw[a,J] at h;cases h),(fun a=>by rw[a,X] at h;cases h),fun a=>?_⟩;rcases K.2 with⟨rfl,_⟩|⟨g2,bi,bj,rfl,_,a7,_⟩
   ·cases a
   ·have L:g=g2:=(by cases a;rfl);subst L;rw[a7] at h;cases h
 have al:∀ u s t,c.ownsRow 0 59 3 u s t→B.ownsRow 0 59 3 u s t:=fun u s t d=>jb d (RG _) fun g y _ _=>by
  obtain⟨G,C,H,am⟩:=be u s t d g y;exact(A g C).trans (I g G C H am)
 have bb:vs.length=pre.length:=by have:=K.1;simpa using this
 refine⟨fun b=>b=l∨b=D∨b=rb∨Ry b=z.ownBlock∨∃ u∈vs ++ [v],Ry b=u.ownBlock,⟨h1,a3,by rw[W,Ss,if_pos rfl,if_pos (by omega)],(A D U).trans ((I D a6 U aw a0).trans n),z,vs ++ [v],(A rb (fun a=>bc a.symm)).trans a1,?_,fun i x p=>?_,fun i j u R g d ba P O=>?_,fun b=>Iff.rfl⟩,fun b f N br=>?_,fun b f=>?_⟩
 ·rw[RI];exact jb g2 (RG _) fun g y _ _=>A g (bd g y)
 ·rcases Ts i pre.length with M|M
  ·rw[S7 M] at p;obtain⟨u,G,C,H⟩:=a4 i x p;exact⟨u,by rw[S7 (by omega)];exact G,C,al u _ _ H⟩
  ·rw[SX M] at p;have Y:i - pre.length=0:=by
    have:=(R8.1 p).1;simp at this;omega
   rw[Y] at p;simp at p;subst p;refine⟨v,?_,(pJ ad).2,al v _ _ ad⟩;rw[SX (by omega),bb,Y];rfl
 ·have ae:∀ (q:Nat) E,(vs ++ [v])[q]? =Ry E→(q<vs.length∧vs[q]? =Ry E)∨(q=vs.length∧E=v):=fun q E o=>by
   rcases Ts q vs.length with m|m
   ·rw[S7 m] at o;exact .inl ⟨m,o⟩
   ·rw[SX m] at o;have:q - vs.length=0:=by
     have:=(R8.1 o).1;simp at this;omega
    rw[this] at o;simp at o;exact .inr ⟨by omega,o.symm⟩
  rcases ae i u d with⟨_,S⟩|⟨bl,rfl⟩<;>rcases ae j R ba with⟨_,T⟩|⟨bm,rfl⟩
  ·exact a5 i j u R g S T P O
  ·exact absurd ((e g).2 (.inr (.inr (.inr (.inr ⟨u,Td S,P.symm⟩))))) (ab g O)
  ·exact absurd ((e g).2 (.inr (.inr (.inr (.inr ⟨R,Td T,O.symm⟩))))) (ab g P)
  ·omega
 ·have Z:b≠l:=fun a=>N ((e b).2 (.inl a));have a8:b≠rb:=fun a=>N ((e b).2 (.inr (.inr (.inl a))));have a9:Ry b≠k.ownBlock:=fun a=>N ((e b).2 (.inr (.inr (.inr (.inl a)))));exact(A b Z).trans (I b f Z a8 a9)
 ·rcases f with rfl|rfl|rfl|f|⟨u,d,f⟩
  ·exact .inl ((e _).2 (.inl rfl))
  ·exact .inl ((e _).2 (.inr (.inl rfl)))
  ·exact .inl ((e _).2 (.inr (.inr (.inl rfl))))
  ·rcases a2 b f with m|m
   ·exact .inl ((e b).2 (.inr (.inr (.inr (.inl m)))))
   ·exact .inr (.inr m)
  ·rcases SM.1 d with d|d
   ·exact .inl ((e b).2 (.inr (.inr (.inr (.inr ⟨u,d,f⟩)))))
   ·simp at d;subst d;exact .inr (.inl f)
theorem I0{l D rb:Nat}{r:Loop}{pre:List cI}{B:Nat→Prop}{d:RD}{nm:Nat}{N:List aD}{v:RB}(p:pi r rb)(am:jY l D rb r pre B d)(bl:pre.length<2000)(L:d.ownsRow 0 59 3 v N.length (aE N))(a2:∀ g,v.ownBlock=Ry g→¬ B g)(c:RU)(cs:List RU)(h:Tp):
 ∃ W',vK l D rb r pre B d nm N v W'∧Steps (aa.of Rz) (lone (Up l r.fn ((r.params.zip #[.int .i64 (nm:Int),v]).foldl (fun tmps (t,a)=>tmps.setIfInBounds t a) r.tmps) r.assign r.body .normal) (c :: cs) (sh h 0 d)) (lone (c.finish (.bool RF)) cs W'):=by
 obtain⟨x,H,m,ab,O,W,I,J,ad,ae,al⟩:=am;let b:RU:={(default:RU) with fn:=r.fn,kind:=.normal,roundOf:=Ry l};let q:TZ:={tmps:=(r.params.zip #[.int .i64 (nm:Int),v]).foldl (fun tmps (t,a)=>tmps.setIfInBounds t a) r.tmps,defers:=[]};have ao:Up l r.fn ((r.params.zip #[.int .i64 (nm:Int),v]).foldl (fun tmps (t,a)=>tmps.setIfInBounds t a) r.tmps) r.assign r.body .normal=b.atR q [.code r.assign,.beginRound,.code r.body]:=by
  simp[Up,Frame.atR,b,q]
 have M:l≠rb:=fun e=>by rw[e,I] at m;cases m
 have a0:l<d.heap.size:=(RH.1 m).1;have y:∀ g,O.ownBlock=Ry g→g≠l:=fun g o e=>by
  rcases J.2 with⟨rfl,_⟩|⟨Y,bi,bj,rfl,_,R,_⟩
  ·cases o
  ·have aw:g=Y:=(by cases o;rfl);subst aw;rw[e,m] at R;cases R
 have z:Knows q 40 [(29,v),(12,.pointer (Ry ⟨rb,0,RA⟩))]:=by
  have e:q.tmps=(r.tmps.setIfInBounds 28 (.int .i64 (nm:Int))).setIfInBounds 29 v:=by
   show(r.params.zip #[.int .i64 (nm:Int),v]).foldl (fun tmps (t,a)=>tmps.setIfInBounds t a) r.tmps=_;rw[p.ps];simp
  refine Knows.cons (Knows.cons (l:=[]) ⟨?_,fun s v f=>by simp at f⟩ ?_) ?_
  ·rw[e];simp[p.sz]
  ·unfold aS;rw[e,Se,Ss,if_neg (by decide),Ss,if_neg (by decide),← Se];exact p.kn
  ·unfold aS;rw[e,Se,Ss,if_pos rfl,if_pos (by simp[p.sz])];rfl
 rw[ao,p.Rc,p.bd];generalize q=a at z;have a6:=stepR_region (P:=aa.of Rz) (b:=b) (a:=a) (k:=[.beginRound,.code (.block 1 (.region 7 (dJ Tz) RE))]) (cs:=c :: cs) (w:=sh h 0 d) (ops:=eW Tz) (id:=6);obtain⟨be,bm,⟨rfl,rfl⟩,T⟩:=Ot (P0:=aa.of Rz) (b:=b) (k:=[.beginRound,.code (.block 1 (.region 7 (dJ Tz) RE))]) (cs:=c :: cs) (ops:=eW Tz) (Q:=fun e C bc=>match e with| .normal=>C=a.put (Ry 14) v∧bc=sh h 0 d|_=>False) [] LA (fun _ _ _ f=>f) (fun⟨_,_,f⟩=>f) (Sw (eW Tz).size) a (sh h 0 d) (uL (vB rfl ((aG rfl (z.of rfl) (sh h 0 d)).1) ⟨rfl,rfl⟩));rw[Ud] at T;have a7:=stepR_region_end (P:=aa.of Rz) (b:=b) (a:=a.put (Ry 14) v) (k:=[.beginRound,.code (.block 1 (.region 7 (dJ Tz) RE))]) (cs:=c :: cs) (w:=sh h 0 d) (ops:=eW Tz);have n:=run_beginRound (P:=aa.of Rz) (w:=sh h 0 d) (l:=l) (r:=r) m x;have U:=stepR_beginRound (P:=aa.of Rz) (b:=b) (a:=a.put (Ry 14) v) (k:=[.code (.block 1 (.region 7 (dJ Tz) RE))]) (cs:=c :: cs) (w:=sh h 0 d) rfl n;generalize K:(sh h 0 d).putObj l (.loop {r with state:=.busy})=i at U;have P:∀ b:Nat,b≠l→i.heap[b]? =d.heap[b]? :=fun b n=>by rw[← K];exact World.putObj_heap_other (w:=sh h 0 d) n
 have bd:i.heap[l]? =Ry (.loop {r with state:=.busy}):=by rw[← K];exact World.putObj_heap_same (w:=sh h 0 d) a0
 have bo:i.heap.size=d.heap.size:=by rw[← K];exact World.putObj_size (w:=sh h 0 d)
 have a8:=stepR_block (P:=aa.of Rz) (b:=b) (a:=a.put (Ry 14) v) (k:=[]) (cs:=c :: cs) (w:=i) (id:=1) (c:=.region 7 (dJ Tz) RE);have a9:=stepR_region (P:=aa.of Rz) (b:=b) (a:=a.put (Ry 14) v) (k:=[.inBlock 1]) (cs:=c :: cs) (w:=i) (ops:=dJ Tz) (id:=7);have A:=z.put (d:=14) (by decide) v;obtain⟨E,k,⟨j,F,G,u,Q,w⟩,V⟩:=Ot (P0:=aa.of Rz) (b:=b) (k:=[.inBlock 1]) (cs:=c :: cs) (ops:=dJ Tz) (Q:=fun e C W'=>match e with| .normal=>∃ j,W'.heap[rb]? =Ry (.cells #[j] 26 (0,0))∧W'.ownsRow 0 43 1 j (pre.length+1) (W ++ [v])∧(∀ b,b<i.heap.size→b≠rb→Ry b≠O.ownBlock→W'.heap[b]? =i.heap[b]?)∧i.heap.size≤W'.heap.size∧(∀ b,Ry b=j.ownBlock→Ry b=O.ownBlock∨i.heap.size≤b)|_=>False) [] NF (fun _ _ _ f=>f) (fun⟨_,_,f⟩=>f) (Sw (dJ Tz).size) (a.put (Ry 14) v) i (LB (n:=pre.length) (vs:=W) ((A.nil.cons (A.slot 12 _ rfl)).cons (A.slot 14 _ rfl)) ((P rb (fun e=>M e.symm)).trans I) (jb J (RG _) fun g o _ _=>P g (y g o)) (pJ L).1 (pJ L).2 (by omega) fun C W' j F G u Q w=>⟨j,F,G,u,Q,w⟩);rw[Ud] at V;have a5:∀ g,j.ownBlock=Ry g→g≠l:=fun g o e=>by
  rcases w g o.symm with f|f
  ·exact y g f.symm e
  ·omega
 have Z:k.heap[l]? =Ry (.loop {r with state:=.busy}):=(u l (by omega) M (fun e=>y l e.symm rfl)).trans bd;have ba:=stepR_region_end (P:=aa.of Rz) (b:=b) (a:=E) (k:=[.inBlock 1]) (cs:=c :: cs) (w:=k) (ops:=dJ Tz);have bb:=stepR_inBlock (P:=aa.of Rz) (b:=b) (a:=E) (k:=[]) (cs:=c :: cs) (w:=k) (id:=1);have ar:=run_endRound (P:=aa.of Rz) (w:=k) (l:=l) (r:={r with state:=.busy}) RA Z;have S:=stepR_round_end (P:=aa.of Rz) (b:=b) (a:=E) (cs:=cs) (w:=k) (c:=c) rfl rfl ar;have X:({({r with state:=.busy}:Loop) with state:=if (RA:Option UR).isNone then .ready else .done,pending:=RA}:Loop)=r:=by
  obtain⟨br,bs,bt,bu,bv,bx,bA,bB⟩:=r;simp only at x H;subst x H;rfl
 rw[X] at S;refine⟨k.putObj l (.loop r),I1 x H m ab I J ad ae al L a2 F G (fun b n a1 a3 a4=>(u b (by omega) a3 a4).trans (P b a1)) (by omega) (fun b n=>(w b n).imp (fun f=>f) (fun f=>by omega)) rfl M y a5,?_⟩;exact .head a6 (T.trans (.head a7 (.head U (.head a8 (.head a9 (V.trans (.head ba (.head bb (.one S)))))))))
theorem z7:aW (aa.of Rz) RF (.region 6 (eW Tz) RE)=RF∧aW (aa.of Rz) RF (.block 1 (.region 7 (dJ Tz) RE))=RF:=⟨by kernel_rfl,by kernel_rfl⟩
theorem xN{r:Loop}{rb:Nat}(b:pi r rb)(c:r.pending=RA):aV (aa.of Rz) (.loop r):=⟨by rw[b.Rc];exact z7.1,by rw[b.bd];exact z7.2,fun d a=>by rw[c] at a;cases a⟩
theorem A0{P0:RM}{ws w:RD}{base:Nat}{e:RO}{b:Nat}{v:RB}{n:Nat}{c:List RB}(l:Mk P0 ws w)(h:w.ownsRow base e b v n c):ws.ownsRow base e b v n c:=by
 obtain⟨a,h|⟨g,d,f,rfl,i,j,k⟩⟩:=h
 ·exact⟨a,.inl h⟩
 ·exact⟨a,.inr ⟨g,d,f,rfl,i,l.un.row.2 j,k⟩⟩
theorem jY.OY{l D rb:Nat}{r:Loop}{pre:List cI}{b:Nat→Prop}{c ws:RD}(h:jY l D rb r pre b c)(t:pi r rb)(a:Mk (aa.of Rz) ws c):jY l D rb r pre b ws:=by
 obtain⟨i,d,j,k,x,y,m,n,o,p,q⟩:=h;refine⟨i,d,a.at_ l _ j (xN t d),a.at_ D _ k (fun A s=>by cases s),x,y,a.un.row.2 m,A0 a n,fun w z u=>?_,p,q⟩;obtain⟨v,e,f,g⟩:=o w z u;exact⟨v,e,f,A0 a g⟩
theorem jY.Pw{l D rb:Nat}{r:Loop}{pre:List cI}{b:Nat→Prop}{c u:RD}(h:jY l D rb r pre b c)(z:pi r rb)(a:Un c u):jY l D rb r pre b u:=by
 obtain⟨g,i,j,k,w,x,m,n,o,p,q⟩:=h;refine⟨g,i,a.out j (by simp[pz]),a.out k (by simp[pz]),w,x,a.row.1 m,A1 a n,fun t y s=>?_,p,q⟩;obtain⟨v,d,e,f⟩:=o t y s;exact⟨v,d,e,A1 a f⟩
theorem IX{Post:RB→RD→Prop}{l D rb:Nat}{r:Loop}(e:pi r rb):Cons (aa.of Rz) Rz Post l (jY l D rb r) (fun _=>RF):=by
 refine⟨fun pre f g u k n _=>k.keeps n,fun pre f g k c a=>?_,fun pre f g C t v m T _ _ ab U=>?_⟩
 ·obtain⟨y,d,H,I,a5,al,J,z,K,aw,L⟩:=k;have a2:al.length=pre.length:=by have:=z.1;simpa using this
  rcases(L c).1 a with rfl|rfl|rfl|a|⟨a7,Z,a⟩
  ·exact(RH.1 H).1
  ·exact(RH.1 I).1
  ·exact(RH.1 J).1
  ·exact(rL z a.symm).2
  ·obtain⟨q,R,rfl⟩:=List.mem_iff_getElem.1 Z;obtain⟨a8,w,_,G⟩:=K q pre[q] (RS (by omega));rw[RS R] at w;cases w;exact(rL G a.symm).2
 ·refine⟨r,m.hl,xN e m.pn,by rw[e.ps];rfl,fun j am a0 W a1 O Y=>?_⟩;obtain⟨i,b⟩:=CH (aa.of Rz) g;have N:jY l D rb r pre f i:=m.OY e b;have ad:i.ownsRow 0 59 3 v t.length (aE t):=A0 b ab;refine rI (az:=[j]) dY (Stop:=fun x az h=>az=[]∧x=j.finish (.bool RF)∧vK l D rb r pre f i C t v h) (fun x az h o=>?_) Y b.hp b.un (fun E=>?_) (fun ar a6 h u2 o V d X=>?_)
  ·obtain⟨_,rfl,_⟩:=o;rintro⟨_,s,B⟩;rcases W.2 with⟨a3,q,a4,ae,p⟩|⟨l,ae,p⟩
   ·simp[TD,p] at B
   ·simp[TD,p] at B
  ·obtain⟨u,y,d⟩:=I0 (nm:=C) e N T ad U j [bg] E;exact⟨_,[],u,d,rfl,rfl,y⟩
  ·obtain⟨E,ao,rfl,rfl,F,M,S,Q⟩:=o;have A:i.heap.size=g.heap.size:=b.un.size.symm;refine O _ u2 ⟨rfl,F,(M.sh (W':=h) rfl).Pw e d.un,fun c a n P=>d.same b.un (S c (by rw[A];exact a) n P),fun c a=>?_⟩ trivial X V;rw[← A];exact Q c a
end Cc
namespace Ec
open Go.RowKit Pk Pm
def b9 (n:Nat)(k:Int):Bool:=decide (0≤k) && decide (k<(n:Int))
theorem iK{h:RD}{g:Nat}{a b c d e f:RB}{t:RO}(i:h.heap[g]? =Ry (.cells #[a,b,c,d,e,f] t (0,0))):h.cell? ⟨g,0,RA⟩=Ry a∧h.cell? ⟨g,1,RA⟩=Ry b∧h.cell? ⟨g,2,RA⟩=Ry c∧h.cell? ⟨g,3,RA⟩=Ry d∧h.cell? ⟨g,4,RA⟩=Ry e∧h.cell? ⟨g,5,RA⟩=Ry f:=by
 unfold R2;simp[i]
theorem wH(n:Nat)(ah:List Int)(rs:List cj)(r:Option Sl)(q:Nat)(b c:RB)(co:Option Sl)(cb bk aF:Nat)(ro:Option Sl)(rb bq aI:Nat)(sk:Bool)(w:RD)(bd:ah.length≤R3)(be:rs.length≤R3)
 (U:0<ah.length→co=Ry ⟨cb,bk,RA⟩) (W:0<ah.length→cb<w.heap.size) (V:∀ j,j<ah.length→w.cell? ⟨cb,bk+j,RA⟩=Ry (.int .i64 (ah.getD j 0))) (l:cY w ro rb bq rs):
 Sc (aa.of Rz) 68 #[qv (.slice r n q) b c (.slice co ah.length aF) (.slice ro rs.length aI) sk] w fun e w'=>∃ bb,e= .returned (.bool bb)∧(bb=RF↔(∀ i (h:i<ah.length),b9 n ah[i]=RF)∧∀ i (h:i<rs.length),b9 n rs[i].col=RF)∧RQ w.heap.size w w':=by
 unfold qv;unfold R3 at bd be;have B:=fun a a9=>yQ r n q b c (.slice co ah.length aF) (.slice ro rs.length aI) sk a a9;unfold qv at B;have I:RJ (0<ah.length→co=Ry ⟨cb,bk,RA⟩):=U;have K:RJ (0<ah.length→cb<w.heap.size):=W;have J:RJ (∀ j,j<ah.length→w.cell? ⟨cb,bk+j,RA⟩=Ry (.int .i64 (ah.getD j 0))):=V;have G:RJ (cY w ro rb bq rs):=l;have S:RJ (RQ w.heap.size w (w.alloc (.cells #[.slice r n q,b,c,.slice co ah.length aF,.slice ro rs.length aI,.bool sk] 115))):=(R5 _ _).alloc (RG _) _;have k:RJ ((w.alloc (.cells #[.slice r n q,b,c,.slice co ah.length aF,.slice ro rs.length aI,.bool sk] 115)).heap[w.heap.size]? =Ry (.cells #[.slice r n q,b,c,.slice co ah.length aF,.slice ro rs.length aI,.bool sk] 115 (0,0))):=iJ _ _;clear U W V l;go_enter aa.func68,Tryz.ntmps68
 go_wp2_with fail
 go_loopw [10] (fun i wr=>∃ a:Nat,a≤ah.length∧i= .int .i64 (a:Int)∧(∀ i (h:i<ah.length),i<a→b9 n ah[i]=RF)∧wr.heap[w.heap.size]? =Ry (.cells #[.slice r n q,b,c,.slice co ah.length aF,.slice ro rs.length aI,.bool sk] 115 (0,0))∧RQ w.heap.size w wr) (fun i _=>ah.length - (SC i).toNat)
 case atStart=>exact⟨0,Sk _,rfl,fun bs _ h=>by omega,k.out,S.out⟩
 case round=>
  clear k S;obtain⟨a,Y,rfl,D,v,s⟩:=hrel;have u:RJ (RQ w.heap.size w wr):=s;have k:RJ (wr.heap[w.heap.size]? =Ry (.cells #[.slice r n q,b,c,.slice co ah.length aF,.slice ro rs.length aI,.bool sk] 115 (0,0))):=v;have t:RJ (∀ i (h:i<ah.length),i<a→b9 n ah[i]=RF):=D;have C:=s.size;obtain⟨a1,a2,a3,a4,a5,a6⟩:=iK v;clear D;by_cases R:a<ah.length
  ·obtain rfl:=I.out (by omega);have bc:=K.out (by omega);have aw:wr.cell? ⟨cb,bk+a,RA⟩=Ry (.int .i64 (ah.getD a 0)):=(s.cell (p:=⟨cb,bk+a,RA⟩) bc).trans (J.out a R);have X:ah.getD a 0=ah[a]:=by rw[RX,RS R];rfl
   rw[X] at aw;have z:RJ (b9 n ah[a]=RE→¬ ((∀ i (h:i<ah.length),b9 n ah[i]=RF)∧∀ i (h:i<rs.length),b9 n rs[i].col=RF)):=fun h P=>by
    have:=P.1 a R;rw[h] at this;cases this
   have A:RJ (b9 n ah[a]=RF→∀ i (h:i<ah.length),i<a+1→b9 n ah[i]=RF):=fun h i Q ba=>by
    by_cases e:i=a
    ·subst e;exact h
    ·exact t.out i Q (by omega)
   clear s v X t J K I G;generalize ah[a]=d at*;have p:=B d;have E:b9 n d=(decide (0≤d) && decide (d<(n:Int))):=rfl;rw[← E] at p;clear B E;cases f:b9 n d
   ·rw[f] at p;have L:RJ (¬ ((∀ i (h:i<ah.length),b9 n ah[i]=RF)∧∀ i (h:i<rs.length),b9 n rs[i].col=RF)):=z.out f;clear z A f
    go_wp2_with (go_at_call 106;refine(p _).mono ?_;rintro e w' ⟨rfl,g⟩;have y:RJ (RQ w.heap.size w w'):=u.out.trans (g.mono C);clear g)
    go_ret;exact⟨RE,rfl,by simp only[Sa,false_iff];exact L.out,y.out⟩
   ·rw[f] at p;have M:RJ (∀ i (h:i<ah.length),i<a+1→b9 n ah[i]=RF):=A.out f;clear z A f
    go_wp2_with (go_at_call 106;refine(p _).mono ?_;rintro e w' ⟨rfl,g⟩;have y:RJ (RQ w.heap.size w w'):=u.out.trans (g.mono C);have F:RJ (w'.heap[w.heap.size]? =Ry (.cells #[.slice r n q,b,c,.slice (Ry ⟨cb,bk,RA⟩) ah.length aF,.slice ro rs.length aI,.bool sk] 115 (0,0))):=(g.block _ (RP k.out)).trans k.out;clear g)
    go_roundw
    case rel=>exact⟨a+1,by omega,by go_num,M.out,F.out,y.out⟩
    case measure=>simp[SC];omega
  ·have T:RJ (∀ i (h:i<ah.length),b9 n ah[i]=RF):=fun i h=>t.out i h (by omega);clear t s v I K J
   go_wp2_with fail
   go_loopw [22] (fun i a0=>∃ a:Nat,a≤rs.length∧i= .int .i64 (a:Int)∧(∀ i (h:i<rs.length),i<a→b9 n rs[i].col=RF)∧a0.heap[w.heap.size]? =Ry (.cells #[.slice r n q,b,c,.slice co ah.length aF,.slice ro rs.length aI,.bool sk] 115 (0,0))∧RQ w.heap.size w a0) (fun i _=>rs.length - (SC i).toNat)
   case atStart=>exact⟨0,Sk _,rfl,fun bs _ h=>by omega,k.out,u.out⟩
   case round=>
    clear k u a1 a2 a3 a4 a5 a6 C Y;obtain⟨a,Y,rfl,D,v,s⟩:=hrel;have u:RJ (RQ w.heap.size w wr):=s;have k:RJ (wr.heap[w.heap.size]? =Ry (.cells #[.slice r n q,b,c,.slice co ah.length aF,.slice ro rs.length aI,.bool sk] 115 (0,0))):=v;have t:RJ (∀ i (h:i<rs.length),i<a→b9 n rs[i].col=RF):=D;have C:=s.size;clear D;by_cases x:a<rs.length
    ·have l:=G.out.below s;obtain rfl:=l.addr (by omega);have ab:=l.c0 a x;have ad:=l.c1 a x;have ae:=l.c2 a x;have al:=l.c3 a x;have am:=l.c4 a x;have ao:=l.c5 a x;have ar:=l.c6 a x;have z:RJ (b9 n rs[a].col=RE→¬ ((∀ i (h:i<ah.length),b9 n ah[i]=RF)∧∀ i (h:i<rs.length),b9 n rs[i].col=RF)):=fun h P=>by
      have:=P.2 a x;rw[h] at this;cases this
     have A:RJ (b9 n rs[a].col=RF→∀ i (h:i<rs.length),i<a+1→b9 n rs[i].col=RF):=fun h i Q ba=>by
      by_cases e:i=a
      ·subst e;exact h
      ·exact t.out i Q (by omega)
     clear s l t G v;generalize rs[a]=bt at*;obtain⟨d,o,m⟩:=bt;dsimp only at ab ad ae al am ao ar
     go_upto_region 10 with fail
     obtain⟨aw,bi,bj,bl,bm,bo,br⟩:=jL (iJ wr (.cells #[.int .i64 d,.bool o.null,.int .i64 o.n,.string o.s,.bool m.null,.int .i64 m.n,.string m.s] 61));have N:RQ wr.heap.size wr (wr.alloc (.cells #[.int .i64 d,.bool o.null,.int .i64 o.n,.string o.s,.bool m.null,.int .i64 m.n,.string m.s] 61)):=(R5 _ _).alloc (RG _) _;have O:=(N.block _ (RP k.out)).trans k.out;obtain⟨a1,a2,a3,a4,a5,a6⟩:=iK O;have F:RJ _:=O;have H:RJ (RQ w.heap.size w (wr.alloc (.cells #[.int .i64 d,.bool o.null,.int .i64 o.n,.string o.s,.bool m.null,.int .i64 m.n,.string m.s] 61))):=u.out.trans (N.mono C);clear N ab ad ae al am ao ar O k u C bi bj bl bm bo br;generalize wr.alloc (.cells #[.int .i64 d,.bool o.null,.int .i64 o.n,.string o.s,.bool m.null,.int .i64 m.n,.string m.s] 61)=bu at*;generalize wr.heap.size=bv at*;have p:=B d;have E:b9 n d=(decide (0≤d) && decide (d<(n:Int))):=rfl;rw[← E] at p;clear B E;have Z:=H.out.size;cases f:b9 n d
     ·rw[f] at p;have L:RJ (¬ ((∀ i (h:i<ah.length),b9 n ah[i]=RF)∧∀ i (h:i<rs.length),b9 n rs[i].col=RF)):=z.out f;clear z A f
      go_wp2_with (go_at_call 106;refine(p _).mono ?_;rintro e w' ⟨rfl,g⟩;have y:RJ (RQ w.heap.size w w'):=H.out.trans (g.mono Z);clear g)
      go_ret;exact⟨RE,rfl,by simp only[Sa,false_iff];exact L.out,y.out⟩
     ·rw[f] at p;have M:RJ (∀ i (h:i<rs.length),i<a+1→b9 n rs[i].col=RF):=A.out f;clear z A f
      go_wp2_with (go_at_call 106;refine(p _).mono ?_;rintro e w' ⟨rfl,g⟩;have y:RJ (RQ w.heap.size w w'):=H.out.trans (g.mono Z);have a7:RJ (w'.heap[w.heap.size]? =Ry (.cells #[.slice r n q,b,c,.slice co ah.length aF,.slice (Ry ⟨rb,bq,RA⟩) rs.length aI,.bool sk] 115 (0,0))):=(g.block _ (RP F.out)).trans F.out;clear g)
      go_roundw
      case rel=>exact⟨a+1,by omega,by go_num,M.out,a7.out,y.out⟩
      case measure=>simp[SC];omega
    ·have a8:RJ ((∀ i (h:i<ah.length),b9 n ah[i]=RF)∧∀ i (h:i<rs.length),b9 n rs[i].col=RF):=⟨T.out,fun i h=>t.out i h (by omega)⟩;clear t G s T v k B;go_wp2;go_ret;exact⟨RF,rfl,by simp only[true_iff];exact a8.out,u.out⟩
structure BV(w:RD)(kb n:Nat)(c k:Int):Prop where
 ex:∃ j:Nat,c=(j:Int)∧j<n∧kb<w.heap.size∧w.cell? ⟨kb,j*2+1,RA⟩=Ry (.int .i64 k)∧(k=1∨k=2∨k=3)
theorem BV.below{w w':RD}{a n:Nat}{c k:Int}(h:BV w a n c k)(b:RQ w.heap.size w w'):BV w' a n c k:=by
 obtain⟨d,e,f,g,i,j⟩:=h.ex;have l:=b.size;exact⟨d,e,f,by omega,(b.cell (p:=⟨a,d*2+1,RA⟩) g).trans i,j⟩
def jh (a:Int)(r:cj):Bool:=eU r.low a && eU r.high a
theorem yS(n:Nat)(rs:List cj)(k:Int→Int)(l o:Nat)(b c d:RB)(ro:Option Sl)(rb bq aI:Nat)(sk:Bool)(w:RD)(be:rs.length≤R3)(bi:n≤R3)(m:cY w ro rb bq rs)(al:∀ r∈rs,BV w l n r.col (k r.col)):
 Sc (aa.of Rz) 69 #[qv (.slice (Ry ⟨l,0,RA⟩) n o) b c d (.slice ro rs.length aI) sk] w fun e w'=>∃ bb,e= .returned (.bool bb)∧(bb=RF↔∀ i (h:i<rs.length),jh (k rs[i].col) rs[i]=RF)∧RQ w.heap.size w w':=by
 unfold qv;unfold R3 at be bi;have Q:RJ (cY w ro rb bq rs):=m;have P:RJ (∀ r∈rs,BV w l n r.col (k r.col)):=al;have X:RJ (RQ w.heap.size w (w.alloc (.cells #[.slice (Ry ⟨l,0,RA⟩) n o,b,c,d,.slice ro rs.length aI,.bool sk] 115))):=(R5 _ _).alloc (RG _) _;have v:RJ ((w.alloc (.cells #[.slice (Ry ⟨l,0,RA⟩) n o,b,c,d,.slice ro rs.length aI,.bool sk] 115)).heap[w.heap.size]? =Ry (.cells #[.slice (Ry ⟨l,0,RA⟩) n o,b,c,d,.slice ro rs.length aI,.bool sk] 115 (0,0))):=iJ _ _;clear m al;go_enter aa.func69,Tryz.ntmps69
 go_wp2_with fail
 go_loopw [9] (fun i wr=>∃ a:Nat,a≤rs.length∧i= .int .i64 (a:Int)∧(∀ i (h:i<rs.length),i<a→jh (k rs[i].col) rs[i]=RF)∧wr.heap[w.heap.size]? =Ry (.cells #[.slice (Ry ⟨l,0,RA⟩) n o,b,c,d,.slice ro rs.length aI,.bool sk] 115 (0,0))∧RQ w.heap.size w wr) (fun i _=>rs.length - (SC i).toNat)
 case atStart=>exact⟨0,Sk _,rfl,fun b0 _ h=>by omega,v.out,X.out⟩
 case round=>
  clear v X;obtain⟨a,bu,rfl,ae,U,A⟩:=hrel;have N:RJ (RQ w.heap.size w wr):=A;have v:RJ (wr.heap[w.heap.size]? =Ry (.cells #[.slice (Ry ⟨l,0,RA⟩) n o,b,c,d,.slice ro rs.length aI,.bool sk] 115 (0,0))):=U;have H:RJ (∀ i (h:i<rs.length),i<a→jh (k rs[i].col) rs[i]=RF):=ae;have am:=A.size;clear ae;by_cases q:a<rs.length
  ·have m:=Q.out.below A;obtain rfl:=m.addr (by omega);have ao:=m.c0 a q;have ar:=m.c1 a q;have aw:=m.c2 a q;have a0:=m.c3 a q;have a1:=m.c4 a q;have a2:=m.c5 a q;have a3:=m.c6 a q;obtain⟨s,Z,ba,ab,ad,T⟩:=((P.out rs[a] (RV q)).below A).ex;have E:RJ (jh (k rs[a].col) rs[a]=RE→¬ ∀ i (h:i<rs.length),jh (k rs[i].col) rs[i]=RF):=fun h bc=>by
    have:=bc a q;rw[h] at this;cases this
   have K:RJ (jh (k rs[a].col) rs[a]=RF→∀ i (h:i<rs.length),i<a+1→jh (k rs[i].col) rs[i]=RF):=fun h i bd bs=>by
    by_cases e:i=a
    ·subst e;exact h
    ·exact H.out i bd (by omega)
   clear A m H Q P U;generalize rs[a]=a7 at*;generalize k a7.col=y at*;obtain⟨cc,g,f⟩:=a7;dsimp only at Z ao ar aw a0 a1 a2 a3;subst Z
   go_upto_region 4 with fail
   obtain⟨bv,bx,bA,bB,a4,a5,a6⟩:=jL (iJ wr (.cells #[.int .i64 (s:Int),.bool g.null,.int .i64 g.n,.string g.s,.bool f.null,.int .i64 f.n,.string f.s] 61));have L:RQ wr.heap.size wr (wr.alloc (.cells #[.int .i64 (s:Int),.bool g.null,.int .i64 g.n,.string g.s,.bool f.null,.int .i64 f.n,.string f.s] 61)):=(R5 _ _).alloc (RG _) _;have br:=(L.cell (p:=⟨l,s*2+1,RA⟩) ab).trans ad;have V:=(L.block _ (RP v.out)).trans v.out;obtain⟨b1,b2,b3,b4,ca,cb⟩:=iK V;have J:RJ _:=V;have I:RJ (RQ w.heap.size w (wr.alloc (.cells #[.int .i64 (s:Int),.bool g.null,.int .i64 g.n,.string g.s,.bool f.null,.int .i64 f.n,.string f.s] 61))):=N.out.trans (L.mono am);have B:wr.heap.size<(wr.alloc (.cells #[.int .i64 (s:Int),.bool g.null,.int .i64 g.n,.string g.s,.bool f.null,.int .i64 f.n,.string f.s] 61)).heap.size:=by simp
   clear L ao ar aw a0 a1 a2 a3 V v N am ab ad;generalize wr.alloc (.cells #[.int .i64 (s:Int),.bool g.null,.int .i64 g.n,.string g.s,.bool f.null,.int .i64 f.n,.string f.s] 61)=bo at*;generalize wr.heap.size=z at*;have bt:(s:Int)<(n:Int):=by omega
   have t:=fun S=>pE g y S T;have C:=fun S=>pE f y S T;have p:jh y ⟨(s:Int),g,f⟩=(eU g y && eU f y):=rfl;have W:=I.out.size;clear T ba;cases F:eU g y
   ·rw[F] at t p;have R:RJ (¬ ∀ i (h:i<rs.length),jh (k rs[i].col) rs[i]=RF):=E.out p;clear E K p F C
    go_wp2_with (go_at_call 82;refine(t _).mono ?_;rintro e w' ⟨rfl,j⟩;have u:RJ (RQ w.heap.size w w'):=I.out.trans (j.mono W);clear j)
    go_ret;exact⟨RE,rfl,by simp only[Sa,false_iff];exact R.out,u.out⟩
   ·rw[F] at t p;cases M:eU f y
    ·rw[M] at C p;have R:RJ (¬ ∀ i (h:i<rs.length),jh (k rs[i].col) rs[i]=RF):=E.out p;clear E K p F M
     go_wp2_with (first|(go_at_call 82;refine(t _).mono ?_;rintro e w' ⟨rfl,j⟩;have u:RJ (RQ w.heap.size w w'):=I.out.trans (j.mono W);have bj:=(j.cell (p:=⟨z,4,RA⟩) B).trans a4;have bl:=(j.cell (p:=⟨z,5,RA⟩) B).trans a5;have bm:=(j.cell (p:=⟨z,6,RA⟩) B).trans a6;have D:RJ (w'.heap[w.heap.size]? =Ry (.cells #[.slice (Ry ⟨l,0,RA⟩) n o,b,c,d,.slice (Ry ⟨rb,bq,RA⟩) rs.length aI,.bool sk] 115 (0,0))):=(j.block _ (RP J.out)).trans J.out;clear j t)|(go_at_call 82;refine(C _).mono ?_;rintro e G ⟨rfl,x⟩;have O:RJ (RQ w.heap.size w G):=u.out.trans (x.mono (by have:=u.out.size;omega));have Y:RJ (G.heap[w.heap.size]? =Ry (.cells #[.slice (Ry ⟨l,0,RA⟩) n o,b,c,d,.slice (Ry ⟨rb,bq,RA⟩) rs.length aI,.bool sk] 115 (0,0))):=(x.block _ (RP D.out)).trans D.out;clear x))
     go_ret;exact⟨RE,rfl,by simp only[Sa,false_iff];exact R.out,O.out⟩
    ·rw[M] at C p;have a9:RJ (∀ i (h:i<rs.length),i<a+1→jh (k rs[i].col) rs[i]=RF):=K.out p;clear E K p F M
     go_wp2_with (first|(go_at_call 82;refine(t _).mono ?_;rintro e w' ⟨rfl,j⟩;have u:RJ (RQ w.heap.size w w'):=I.out.trans (j.mono W);have bj:=(j.cell (p:=⟨z,4,RA⟩) B).trans a4;have bl:=(j.cell (p:=⟨z,5,RA⟩) B).trans a5;have bm:=(j.cell (p:=⟨z,6,RA⟩) B).trans a6;have D:RJ (w'.heap[w.heap.size]? =Ry (.cells #[.slice (Ry ⟨l,0,RA⟩) n o,b,c,d,.slice (Ry ⟨rb,bq,RA⟩) rs.length aI,.bool sk] 115 (0,0))):=(j.block _ (RP J.out)).trans J.out;clear j t)|(go_at_call 82;refine(C _).mono ?_;rintro e G ⟨rfl,x⟩;have O:RJ (RQ w.heap.size w G):=u.out.trans (x.mono (by have:=u.out.size;omega));have Y:RJ (G.heap[w.heap.size]? =Ry (.cells #[.slice (Ry ⟨l,0,RA⟩) n o,b,c,d,.slice (Ry ⟨rb,bq,RA⟩) rs.length aI,.bool sk] 115 (0,0))):=(x.block _ (RP D.out)).trans D.out;clear x))
     go_roundw
     case rel=>exact⟨a+1,by omega,by go_num,a9.out,Y.out,O.out⟩
     case measure=>simp[SC];omega
  ·have a8:RJ (∀ i (h:i<rs.length),jh (k rs[i].col) rs[i]=RF):=fun i h=>H.out i h (by omega);clear H Q P A U v;go_wp2;go_ret;exact⟨RF,rfl,by simp only[true_iff];exact a8.out,N.out⟩
theorem aa.OU:((aa.of Rz).info? 61).map (fun i=>(i.zero,i.size,i.bytes))=Ry (Ry (.agg #[.int .i64 0,.bool RE,.int .i64 0,.string ⟨#[]⟩,.bool RE,.int .i64 0,.string ⟨#[]⟩]),7,72):=by kernel_rfl
theorem aa.M5:((aa.of Rz).info? 3).map (fun i=>(i.zero,i.size,i.bytes))=Ry (Ry (.int .i64 0),1,8):=by kernel_rfl
theorem yJ(l:List Int)(s:Option Sl)(b off cap:Nat)(w:RD)(I:l.length≤1000)(t:0<l.length→s=Ry ⟨b,off,RA⟩)(hc:∀ j u,(aY l)[j]? =Ry u→w.cell? ⟨b,off+j,RA⟩=Ry u):
 Sc (aa.of Rz) 70 #[.slice s l.length cap] w fun e w'=>RQ w.heap.size w w'∧((l.length=0∧∃ co,e= .returned (.slice co 0 0))∨(0<l.length∧∃ v,e= .returned v∧w'.ownsRow w.heap.size 3 1 v l.length (aY l))):=by
 obtain⟨D,B,K,C,L⟩:=S3 aa.M5;have h:RQ w.heap.size w (w.alloc (.cells #[] 3)):=(R5 _ _).alloc (RG _) _;have p:(w.alloc (.cells #[] 3)).ownsRow w.heap.size 3 1 (.slice (Ry ⟨w.heap.size,0,RA⟩) 0 0) 0 []:=⟨rfl,.inr ⟨w.heap.size,0,#[],rfl,RG _,iJ _ _,RG _,Sk _,rfl,rfl⟩⟩;have M:∀ (n:Sl) (m g:Nat) (a:RD),(binOp .eql 22 (.slice (Ry n) m g) (.slice RA 0 0)).run (aa.of Rz) a= .ok (.bool RE) a:=fun n m g a=>by simp only[binOp];simp[run_equal_slice_nil a 22 3 _ _ _ aa.underlying22]
 have N:∀ (m g:Nat) (a:RD),(binOp .eql 22 (.slice RA m g) (.slice RA 0 0)).run (aa.of Rz) a= .ok (.bool RF) a:=fun m g a=>by simp only[binOp];simp[run_equal_slice_nil a 22 3 _ _ _ aa.underlying22]
 by_cases o:0<l.length
 ·obtain rfl:=t o;have z:RJ (∀ j u,(aY l)[j]? =Ry u→(w.alloc (.cells #[] 3)).cell? (VN ⟨b,off,RA⟩ j)=Ry u):=fun j u H=>by
   rw[U2];have d:=hc j u H;have G:b<w.heap.size:=by
    unfold R2 at d;rcases Ts b w.heap.size with c|c
    ·exact c
    ·simp[SZ c] at d
   exact(h.cell (p:=⟨b,off+j,RA⟩) G).trans d
  have A:RJ (∀ u∈aY l,u.oneCell'=RF):=fun u J=>by obtain⟨P,_,rfl⟩:=S5.1 J;rfl
  have r:RJ ((aY l).length=l.length*1):=by show _=_;simp[aY]
  have f:RJ _:=h;clear hc h t;go_enter aa.func70,Tryz.ntmps70
  go_wp2_with (at_builtin;refine aL _ rfl _ _ 22 rfl w.heap.size 3 D (.int .i64 0) 1 8 aa.underlying22 B K C L rfl (by decide) (.slice (Ry ⟨w.heap.size,0,RA⟩) 0 0) 0 [] rfl p ⟨b,off,RA⟩ l.length cap (aY l) rfl o r.out z.out A.out (by unfold R3;omega) (by omega) (by simp) ?_;intro O w' k i)
  have q:RJ (RQ w.heap.size w w'):=by
   rcases i with⟨d,_⟩|⟨_,d⟩
   ·exact f.out.grown d (by simp) (by simp)
   ·exact f.out.grown d (by simp) (fun F x=>by simp[Tf] at x;omega)
  rw[SA,List.nil_append] at k;have E:RJ _:=k;clear i k z A r f p;go_wp2;go_ret;exact⟨q.out,.inr ⟨o,_,rfl,E.out⟩⟩
 ·have y:l.length=0:=by omega
  rw[y];have r:RJ (l.length=0):=y;have f:RJ _:=h;clear t hc I o y h;cases s with
  |none=>
   go_enter aa.func70,Tryz.ntmps70;go_wp2;go_ret;exact⟨R5 _ _,.inl ⟨trivial,_,rfl⟩⟩
  |some n=>
   go_enter aa.func70,Tryz.ntmps70
   go_wp2_with (at_builtin;refine Tn _ rfl _ _ 22 rfl w.heap.size 3 D 1 aa.underlying22 B C w.heap.size 0 0 [] rfl p n 0 cap [] rfl (by simp) (fun j u c=>by simp at c) (fun u c=>by simp at c) (by omega) ?_;intro w' k i)
   have q:RJ (RQ w.heap.size w w'):=f.out.grown i (by simp) (fun F x=>by simp at x;omega);clear i k f p;go_wp2;go_ret;exact⟨q.out,.inl ⟨trivial,_,rfl⟩⟩
theorem uR(l:List cj)(s:Option Sl)(b off cap:Nat)(w:RD)(J:l.length≤1000)(t:0<l.length→s=Ry ⟨b,off,RA⟩)(hc:∀ j u,(dz l)[j]? =Ry u→w.cell? ⟨b,off+j,RA⟩=Ry u):
 Sc (aa.of Rz) 107 #[.slice s l.length cap] w fun e w'=>RQ w.heap.size w w'∧((l.length=0∧∃ co,e= .returned (.slice co 0 0))∨(0<l.length∧∃ v,e= .returned v∧w'.ownsRow w.heap.size 61 7 v l.length (dz l))):=by
 obtain⟨E,B,L,D,M⟩:=S3 aa.OU;have h:RQ w.heap.size w (w.alloc (.cells #[] 61)):=(R5 _ _).alloc (RG _) _;have p:(w.alloc (.cells #[] 61)).ownsRow w.heap.size 61 7 (.slice (Ry ⟨w.heap.size,0,RA⟩) 0 0) 0 []:=⟨rfl,.inr ⟨w.heap.size,0,#[],rfl,RG _,iJ _ _,RG _,Sk _,rfl,rfl⟩⟩;have N:∀ (n:Sl) (m g:Nat) (a:RD),(binOp .eql 23 (.slice (Ry n) m g) (.slice RA 0 0)).run (aa.of Rz) a= .ok (.bool RE) a:=fun n m g a=>by simp only[binOp];simp[run_equal_slice_nil a 23 61 _ _ _ aa.underlying23]
 have O:∀ (m g:Nat) (a:RD),(binOp .eql 23 (.slice RA m g) (.slice RA 0 0)).run (aa.of Rz) a= .ok (.bool RF) a:=fun m g a=>by simp only[binOp];simp[run_equal_slice_nil a 23 61 _ _ _ aa.underlying23]
 by_cases o:0<l.length
 ·obtain rfl:=t o;have z:RJ (∀ j u,(dz l)[j]? =Ry u→(w.alloc (.cells #[] 61)).cell? (VN ⟨b,off,RA⟩ j)=Ry u):=fun j u I=>by
   rw[U2];have d:=hc j u I;have H:b<w.heap.size:=by
    unfold R2 at d;rcases Ts b w.heap.size with c|c
    ·exact c
    ·simp[SZ c] at d
   exact(h.cell (p:=⟨b,off+j,RA⟩) H).trans d
  have A:RJ (∀ u∈dz l,u.oneCell'=RF):=fun u K=>by
   obtain⟨Q,_,C⟩:=List.mem_flatMap.1 K;simp only[qR,Tq,U7,or_false] at C;rcases C with rfl|rfl|rfl|rfl|rfl|rfl|rfl<;>rfl
  have r:RJ ((dz l).length=l.length*7):=qx l;have f:RJ _:=h;clear hc h t;go_enter aa.func107,Tryz.ntmps107
  go_wp2_with (at_builtin;refine aL _ rfl _ _ 23 rfl w.heap.size 61 E (.agg #[.int .i64 0,.bool RE,.int .i64 0,.string ⟨#[]⟩,.bool RE,.int .i64 0,.string ⟨#[]⟩]) 7 72 aa.underlying23 B L D M rfl (by decide) (.slice (Ry ⟨w.heap.size,0,RA⟩) 0 0) 0 [] rfl p ⟨b,off,RA⟩ l.length cap (dz l) rfl o r.out z.out A.out (by unfold R3;omega) (by omega) (by simp) ?_;intro P w' k i)
  have q:RJ (RQ w.heap.size w w'):=by
   rcases i with⟨d,_⟩|⟨_,d⟩
   ·exact f.out.grown d (by simp) (by simp)
   ·exact f.out.grown d (by simp) (fun G x=>by simp[Tf] at x;omega)
  rw[SA,List.nil_append] at k;have F:RJ _:=k;clear i k z A r f p;go_wp2;go_ret;exact⟨q.out,.inr ⟨o,_,rfl,F.out⟩⟩
 ·have y:l.length=0:=by omega
  rw[y];have r:RJ (l.length=0):=y;have f:RJ _:=h;clear t hc J o y h;cases s with
  |none=>
   go_enter aa.func107,Tryz.ntmps107;go_wp2;go_ret;exact⟨R5 _ _,.inl ⟨trivial,_,rfl⟩⟩
  |some n=>
   go_enter aa.func107,Tryz.ntmps107
   go_wp2_with (at_builtin;refine Tn _ rfl _ _ 23 rfl w.heap.size 61 E 7 aa.underlying23 B D w.heap.size 0 0 [] rfl p n 0 cap [] rfl (by simp) (fun j u c=>by simp at c) (fun u c=>by simp at c) (by omega) ?_;intro w' k i)
   have q:RJ (RQ w.heap.size w w'):=f.out.grown i (by simp) (fun G x=>by simp at x;omega);clear i k f p;go_wp2;go_ret;exact⟨q.out,.inl ⟨trivial,_,rfl⟩⟩
theorem LH{a:RD}{g o:Nat}{b:Array RB}{t:RO}{u:RB}(h:a.heap[g]? =Ry (.cells b t (0,0)))(d:b[o]? =Ry u):(a.setCell ⟨g,o,RA⟩ u).heap[g]? =Ry (.cells b t (0,0)):=by
 rw[RZ a g o _ _ u h];congr 2;apply Array.ext_getElem?;intro f;rw[Ss]
 split
 ·rename_i c;subst c
  split
  ·exact d.symm
  ·rename_i e;rw[SZ (by omega)]
 ·rfl
theorem qz{d:RD}{base g o n cap:Nat}{c:List RB}{u:RB}(h:d.ownsRow base 61 7 (.slice (Ry ⟨g,0,RA⟩) n cap) n c)(b:c[o]? =Ry u):(d.setCell ⟨g,o,RA⟩ u).ownsRow base 61 7 (.slice (Ry ⟨g,0,RA⟩) n cap) n c:=by
 obtain⟨p,⟨a,_⟩|⟨r,q,f,a,i,j,k,l,m,e⟩⟩:=h
 ·cases a
 ·simp only[T5,SY,UO,and_true,true_and] at a;obtain⟨rfl,rfl⟩:=a;refine⟨p,.inr ⟨g,cap,f,rfl,i,LH j ?_,k,l,m,e⟩⟩;rw[← e,TJ] at b
  split at b
  ·simpa using b
  ·cases b
theorem No{w:RD}{base e d n:Nat}{v:RB}{f:List RB}(h:w.ownsRow base e d v n f)(l:0<n):∃ g cap,v= .slice (Ry ⟨g,0,RA⟩) n cap:=by
 obtain⟨k,⟨a,j⟩|⟨c,b,i,a,_⟩⟩:=h
 ·omega
 ·exact⟨c,b,a⟩
theorem cY.KY{w:RD}{base g cap:Nat}{l:List cj}(h:w.ownsRow base 61 7 (.slice (Ry ⟨g,0,RA⟩) l.length cap) l.length (dz l)):cY w (Ry ⟨g,0,RA⟩) g 0 l:=by
 obtain⟨o,⟨a,_⟩|⟨i,e,f,a,j,c,k,m,n,d⟩⟩:=h
 ·cases a
 ·simp only[T5,SY,UO,and_true,true_and] at a;obtain⟨rfl,rfl⟩:=a;refine cY.CM (RP c) fun p v b=>?_;rw[← d,TJ] at b
  split at b
  ·rw[SA];unfold R2;simp only[c];simpa using b
  ·cases b
theorem La{w:RD}{base g n cap c e:Nat}{d:List RB}(h:w.ownsRow base e c (.slice (Ry ⟨g,0,RA⟩) n cap) n d):base≤g:=by
 obtain⟨q,⟨a,_⟩|⟨j,f,i,a,b,k,l,m,o,p⟩⟩:=h
 ·cases a
 ·simp only[T5,SY,UO,and_true,true_and] at a;obtain⟨rfl,rfl⟩:=a;exact b
theorem CV{w:RD}{base g n cap c e o:Nat}{d:List RB}(h:w.ownsRow base e c (.slice (Ry ⟨g,0,RA⟩) n cap) n d):w.frozen? ⟨g,o,RA⟩=RE:=by
 obtain⟨r,⟨a,_⟩|⟨j,f,i,a,k,b,l,m,p,q⟩⟩:=h
 ·cases a
 ·simp only[T5,SY,UO,and_true,true_and] at a;obtain⟨rfl,rfl⟩:=a;simp[SH,b]
theorem CU{w:RD}{base g n cap o:Nat}{c:List RB}{u:RB}(h:w.ownsRow base 61 7 (.slice (Ry ⟨g,0,RA⟩) n cap) n c)(b:c[o]? =Ry u):w.cell? ⟨g,o,RA⟩=Ry u:=by
 obtain⟨q,⟨a,_⟩|⟨j,f,i,a,k,d,l,m,p,e⟩⟩:=h
 ·cases a
 ·simp only[T5,SY,UO,and_true,true_and] at a;obtain⟨rfl,rfl⟩:=a;rw[← e,TJ] at b
  split at b
  ·unfold R2;simp only[d];simpa using b
  ·cases b
theorem v8(l:List cj)(A:Option Sl)(b off cap:Nat)(w:RD)(aw:l.length≤1000)(ar:0<l.length→A=Ry ⟨b,off,RA⟩)(hc:∀ j u,(dz l)[j]? =Ry u→w.cell? ⟨b,off+j,RA⟩=Ry u)(a2:∀ r∈l,r.low.s.size≤32∧r.high.s.size≤32):
 Sc (aa.of Rz) 71 #[.slice A l.length cap] w fun e w'=>RQ w.heap.size w w'∧((l.length=0∧∃ co,e= .returned (.slice co 0 0))∨(0<l.length∧∃ v,e= .returned v∧w'.ownsRow w.heap.size 61 7 v l.length (dz l))):=by
 have t:=uR l A b off cap w aw ar hc;have O:RJ (∀ r∈l,r.low.s.size≤32∧r.high.s.size≤32):=a2;clear ar hc a2;by_cases F:0<l.length
 ·have al:Sc (aa.of Rz) 107 #[.slice A l.length cap] w fun e w'=>RQ w.heap.size w w'∧∃ c g,e= .returned (.slice (Ry ⟨c,0,RA⟩) l.length g)∧w'.ownsRow w.heap.size 61 7 (.slice (Ry ⟨c,0,RA⟩) l.length g) l.length (dz l):=by
   refine t.mono fun e w' h=>⟨h.1,?_⟩;obtain⟨_,v,rfl,o⟩:=h.2.resolve_left fun h=>absurd h.1 (by omega);obtain⟨c,g,rfl⟩:=No o F;exact⟨c,g,rfl,o⟩
  clear t;go_enter aa.func71,Tryz.ntmps71
  go_wp2_with (go_at_call 107;refine al.mono ?_;rintro e C ⟨B,c,g,rfl,a1⟩)
  have D:RJ (RQ w.heap.size w C):=B;have x:RJ (C.ownsRow w.heap.size 61 7 (.slice (Ry ⟨c,0,RA⟩) l.length g) l.length (dz l)):=a1;clear B a1 al
  go_loopw [10] (fun p wr=>∃ a:Nat,a≤l.length∧p= .int .i64 (a:Int)∧wr.ownsRow w.heap.size 61 7 (.slice (Ry ⟨c,0,RA⟩) l.length g) l.length (dz l)∧RQ w.heap.size w wr) (fun p _=>l.length - (SC p).toNat)
  case atStart=>exact⟨0,Sk _,rfl,x.out,D.out⟩
  case round=>
   clear D x;obtain⟨a,bv,rfl,o,G⟩:=hrel;have J:RJ (RQ w.heap.size w wr):=G;have E:RJ (wr.ownsRow w.heap.size 61 7 (.slice (Ry ⟨c,0,RA⟩) l.length g) l.length (dz l)):=o;have a3:=G.size;by_cases i:a<l.length
   ·have m:=cY.KY o;have S:=m.c0 a i;have T:=m.c1 a i;have U:=m.c2 a i;have V:=m.c3 a i;have W:=m.c4 a i;have X:=m.c5 a i;have Y:=m.c6 a i;simp only[SA] at S T U V W X Y;have N:RJ ((dz l)[a*7+1+2]? =Ry (.string l[a].low.s)):=mW l a i 3 _ rfl;have M:RJ ((dz l)[a*7+4+2]? =Ry (.string l[a].high.s)):=mW l a i 6 _ rfl;obtain⟨a5,a6⟩:=O.out l[a] (RV i);have H:=fun P=>sO l[a].low.s P a5;have I:=fun P=>sO l[a].high.s P a6;clear o G m O a5 a6;generalize l[a]=bs at*;obtain⟨s,d,f⟩:=bs;dsimp only at S T U V W X Y N M H I
    go_upto_region 5 with fail
    obtain⟨be,bi,bj,bl,bm,bo,a4⟩:=jL (iJ wr (.cells #[.int .i64 s,.bool d.null,.int .i64 d.n,.string d.s,.bool f.null,.int .i64 f.n,.string f.s] 61));have Q:RQ wr.heap.size wr (wr.alloc (.cells #[.int .i64 s,.bool d.null,.int .i64 d.n,.string d.s,.bool f.null,.int .i64 f.n,.string f.s] 61)):=(R5 _ _).alloc (RG _) _;have L:RJ (RQ w.heap.size w (wr.alloc (.cells #[.int .i64 s,.bool d.null,.int .i64 d.n,.string d.s,.bool f.null,.int .i64 f.n,.string f.s] 61))):=J.out.trans (Q.mono a3);have a0:=aQ E.out Q;have x:RJ ((wr.alloc (.cells #[.int .i64 s,.bool d.null,.int .i64 d.n,.string d.s,.bool f.null,.int .i64 f.n,.string f.s] 61)).ownsRow w.heap.size 61 7 (.slice (Ry ⟨c,0,RA⟩) l.length g) l.length (dz l)):=a0;have bd:wr.heap.size<(wr.alloc (.cells #[.int .i64 s,.bool d.null,.int .i64 d.n,.string d.s,.bool f.null,.int .i64 f.n,.string f.s] 61)).heap.size:=by simp
    have bb:wr.heap.size≠c:=fun h=>by have:=(cY.KY E.out).lt F;omega
    clear Q S T U V W X Y J a3 E a0;generalize wr.alloc (.cells #[.int .i64 s,.bool d.null,.int .i64 d.n,.string d.s,.bool f.null,.int .i64 f.n,.string f.s] 61)=bt at*;generalize wr.heap.size=ao at*;have bc:=L.out.size
    go_upto_region 6 with(go_at_call 66;refine(H _).mono ?_;rintro e n ⟨rfl,k⟩;have ab:RJ (RQ w.heap.size w n):=L.out.trans (k.mono bc);have y:RJ (n.ownsRow w.heap.size 61 7 (.slice (Ry ⟨c,0,RA⟩) l.length g) l.length (dz l)):=aQ x.out k;have Z:=(k.cell (p:=⟨ao,6,RA⟩) bd).trans a4;have u3:n.cell? ⟨c,a*7+1+2,RA⟩=Ry (.string d.s):=CU y.out N.out;have a9:n.frozen? ⟨c,a*7+1+2,RA⟩=RE:=CV y.out;have bx:=k.size;clear k H)
    have K:RJ (RQ w.heap.size w (n.setCell ⟨c,a*7+1+2,RA⟩ (.string d.s))):=ab.out.setCell (p:=⟨c,a*7+1+2,RA⟩) (La y.out) _;have am:RJ ((n.setCell ⟨c,a*7+1+2,RA⟩ (.string d.s)).ownsRow w.heap.size 61 7 (.slice (Ry ⟨c,0,RA⟩) l.length g) l.length (dz l)):=qz y.out N.out;have br:(n.setCell ⟨c,a*7+1+2,RA⟩ (.string d.s)).cell? ⟨ao,6,RA⟩=Ry (.string f.s):=by
     unfold R2 at Z ⊢;rw[R6 _ _ _ _ bb];exact Z
    clear u3 a9 Z ab y L x be bi bj bl bm bo a4;generalize n.setCell ⟨c,a*7+1+2,RA⟩ (.string d.s)=bu at*
    go_upto_region 7 with(go_at_call 66;refine(I _).mono ?_;rintro e q ⟨rfl,k⟩;have ad:RJ (RQ w.heap.size w q):=K.out.trans (k.mono K.out.size);have z:RJ (q.ownsRow w.heap.size 61 7 (.slice (Ry ⟨c,0,RA⟩) l.length g) l.length (dz l)):=aQ am.out k;have u6:q.cell? ⟨c,a*7+4+2,RA⟩=Ry (.string f.s):=CU z.out M.out;have ba:q.frozen? ⟨c,a*7+4+2,RA⟩=RE:=CV z.out;clear k I)
    have a7:RJ (RQ w.heap.size w (q.setCell ⟨c,a*7+4+2,RA⟩ (.string f.s))):=ad.out.setCell (p:=⟨c,a*7+4+2,RA⟩) (La z.out) _;have a8:RJ ((q.setCell ⟨c,a*7+4+2,RA⟩ (.string f.s)).ownsRow w.heap.size 61 7 (.slice (Ry ⟨c,0,RA⟩) l.length g) l.length (dz l)):=qz z.out M.out;clear u6 ba br ad z K am;go_wp2
    go_roundw
    case rel=>exact⟨a+1,by omega,by go_num,a8.out,a7.out⟩
    case measure=>simp[SC];omega
   ·clear o G;go_wp2;go_ret;exact⟨J.out,.inr ⟨F,_,rfl,E.out⟩⟩
 ·have R:l.length=0:=by omega
  have ae:Sc (aa.of Rz) 107 #[.slice A 0 cap] w fun e w'=>RQ w.heap.size w w'∧∃ co,e= .returned (.slice co 0 0):=by
   rw[R] at t;exact t.mono fun e w' h=>⟨h.1,(h.2.resolve_right fun h=>absurd h.1 (by omega)).2⟩
  rw[R];clear t R F O aw;go_enter aa.func71,Tryz.ntmps71
  go_wp2_with (go_at_call 107;refine ae.mono ?_;rintro e C ⟨B,co,rfl⟩)
  have D:RJ (RQ w.heap.size w C):=B;clear B ae
  go_loopw [10] (fun p wr=>p= .int .i64 0∧wr=C) (fun p _=>0)
  case atStart=>exact⟨rfl,rfl⟩
  case round=>
   obtain⟨rfl,rfl⟩:=hrel;go_wp2;go_ret;exact⟨D.out,.inl ⟨trivial,_,rfl⟩⟩
def P4 (w:RD)(s:ByteArray)(e:Uw)(w':RD):Prop:=
 RQ w.heap.size w w'∧((∃ (b:List (bO×Int)) (a:List Bd) (c:List (Bd×RB)) (d f h:RB),e= .returned (.tuple #[.agg #[d,f,h],.bool RF])∧gw s b a∧c.map Sb=a∧cM w' w.heap.size b c d f h∧(∀ i g,gw s i g→i=b∧g=a))∨
  (e= .returned (.tuple #[.agg #[.slice RA 0 0,.slice RA 0 0,.slice RA 0 0],.bool RE])∧∀ b a,¬ gw s b a))
theorem zI(s:ByteArray)(w:RD)(bb:s.size≤R3):
 Sc (aa.of Rz) 44 #[.string s] w (P4 w s):=by
 have H:RJ ((w.alloc (.cells #[.slice RA 0 0,.slice RA 0 0,.slice RA 0 0] 105)).heap[w.heap.size]? =Ry (.cells #[.slice RA 0 0,.slice RA 0 0,.slice RA 0 0] 105 (0,0))):=bG w _;have N:RJ (RQ w.heap.size w (w.alloc (.cells #[.slice RA 0 0,.slice RA 0 0,.slice RA 0 0] 105))):=(R5 _ _).alloc (RG _) _;have bd:∀ (U:Fn) (first P:Array RB) (w:RD),(Instr.makeFunc U first P).run (aa.of Rz) w= .ok (.func U first P) w:=fun _ _ _ _=>rfl;go_enter aa.func44,Tryz.ntmps44
 go_wp2_with fail
 refine(MQ s _ bb).mono ?_;rintro a7 b ⟨ba,L⟩;have r:RJ (b.heap[w.heap.size]? =Ry (.cells #[.slice RA 0 0,.slice RA 0 0,.slice RA 0 0] 105 (0,0))):=(L.block _ (RP H.out)).trans H.out;have D:RJ (RQ w.heap.size w b):=N.out.trans (L.mono (by simp));have ad:w.heap.size<b.heap.size:=RP r.out;clear H N L;rcases ba with⟨d,C,rfl,hcut⟩|⟨rfl,n⟩;rotate_left
 ·have G:RJ (∀ a c,¬ gw s a c):=fun a c h=>n _ _ h.2;have k:(b.alloc (.cells #[.string ⟨#[]⟩] 9)).heap[w.heap.size]? =Ry (.cells #[.slice RA 0 0,.slice RA 0 0,.slice RA 0 0] 105 (0,0)):=by rw[Sr _ _ _ ad];exact r.out
  have j:RQ w.heap.size w (b.alloc (.cells #[.string ⟨#[]⟩] 9)):=D.out.alloc (by omega) _;clear n
  go_upto_region 2 with fail
  generalize b.alloc (.cells #[.string ⟨#[]⟩] 9)=i at*;have ar:RJ (RQ w.heap.size w (fT i w.heap.size (.slice RA 0 0) (.slice RA 0 0) (.slice RA 0 0))):=lO _ _ _ j (RG _) (RG _);obtain⟨⟨al,am,ao⟩,R,S,T⟩:=fw k;obtain⟨⟨o,p,q⟩,-⟩:=fw (pN (.slice RA 0 0) (.slice RA 0 0) (.slice RA 0 0) k);clear k j;unfold fT at*;go_wp2;simp[TV,SD,Tryz.results44,go_sem,o,p,q];exact⟨ar.out,.inr ⟨rfl,G.out⟩⟩
 ·have F:RJ (Cut s (bytesOf d) (bytesOf C)):=hcut;have ab:=hcut.len;have bc:=hcut.1;rw[ai,ai] at ab;have k:(b.alloc (.cells #[.string d] 9)).heap[w.heap.size]? =Ry (.cells #[.slice RA 0 0,.slice RA 0 0,.slice RA 0 0] 105 (0,0)):=by rw[Sr _ _ _ ad];exact r.out
  have j:RQ w.heap.size w (b.alloc (.cells #[.string d] 9)):=D.out.alloc (by omega) _;have V:(b.alloc (.cells #[.string d] 9)).heap[b.heap.size]? =Ry (.cells #[.string d] 9 (0,0)):=bG b _;have M:w.heap.size≤(b.alloc (.cells #[.string d] 9)).heap.size:=j.size;have a9:C.size≤65536:=by omega
  have a8:d.size≤65536:=by omega
  clear hcut ab bc
  go_upto_region 2 with fail
  generalize b.alloc (.cells #[.string d] 9)=i at*;generalize b.heap.size=Q at*;have t:RJ (i.heap[w.heap.size]? =Ry (.cells #[.slice RA 0 0,.slice RA 0 0,.slice RA 0 0] 105 (0,0))):=k;have O:RJ (RQ w.heap.size w i):=j;have aw:RJ (i.heap[Q]? =Ry (.cells #[.string d] 9 (0,0))):=V;clear k j V r D
  go_wp2_with fail
  refine(FL Q C d i a9 a8 aw.out).mono ?_;rintro a7 g ⟨l,⟨a,c,e,a4,a5,a6,rfl,Z,W,X,Y,hF,ae⟩|⟨rfl,n⟩⟩
  ·have f:g.heap[w.heap.size]? =Ry (.cells #[.slice RA 0 0,.slice RA 0 0,.slice RA 0 0] 105 (0,0)):=(l.block _ (RP t.out)).trans t.out;have m:RQ w.heap.size w g:=O.out.trans (l.mono M);have K:cM g w.heap.size a e a4 a5 a6:=hF.base M;obtain⟨u,ac,x,v,A,z,rfl,rfl,rfl⟩:=K.Kz;have a0:RJ (cM (fT g w.heap.size (.slice u a.length ac) (.slice x a.length v) (.slice A e.length z)) w.heap.size a e (.slice u a.length ac) (.slice x a.length v) (.slice A e.length z)):=K.fT _ _ _ f;have E:RJ (RQ w.heap.size w (fT g w.heap.size (.slice u a.length ac) (.slice x a.length v) (.slice A e.length z))):=lO _ _ _ m (RG _) (RG _);have a1:RJ (gw s a c):=⟨Z,by rw[← X,← Y];exact F.out⟩;have a3:RJ (∀ B y,gw s B y→B=a∧y=c):=fun B y h=>by
    obtain⟨I,J⟩:=F.out.GF h.2;exact ae B y h.1 J I
   have a2:RJ (e.map Sb=c):=W;obtain⟨⟨al,am,ao⟩,R,S,T⟩:=fw f;obtain⟨⟨o,p,q⟩,-⟩:=fw (pN (.slice u a.length ac) (.slice x a.length v) (.slice A e.length z) f);clear f m K hF Z X Y ae l W;unfold fT at*;go_wp2;simp[TV,SD,Tryz.results44,go_sem,o,p,q];exact⟨E.out,.inl ⟨a,c,e,_,_,_,rfl,a1.out,a2.out,a0.out,a3.out⟩⟩
  ·have f:g.heap[w.heap.size]? =Ry (.cells #[.slice RA 0 0,.slice RA 0 0,.slice RA 0 0] 105 (0,0)):=(l.block _ (RP t.out)).trans t.out;have m:RQ w.heap.size w g:=O.out.trans (l.mono M);have E:RJ (RQ w.heap.size w (fT g w.heap.size (.slice RA 0 0) (.slice RA 0 0) (.slice RA 0 0))):=lO _ _ _ m (RG _) (RG _);have G:RJ (∀ a c,¬ gw s a c):=fun a c h=>by
    obtain⟨I,J⟩:=F.out.GF h.2;exact n a c h.1 J I
   obtain⟨⟨al,am,ao⟩,R,S,T⟩:=fw f;obtain⟨⟨o,p,q⟩,-⟩:=fw (pN (.slice RA 0 0) (.slice RA 0 0) (.slice RA 0 0) f);clear f m n l;unfold fT at*;go_wp2;simp[TV,SD,Tryz.results44,go_sem,o,p,q];exact⟨E.out,.inr ⟨rfl,G.out⟩⟩
end Ec
namespace Cc
open Go Go.Conc
open Go.RowKit (Below)
open Ec
open Pk
open Pm
theorem kR{w:RD}{base:Nat}{e:RO}{j n:Nat}{v:RB}{f:List RB}(h:w.ownsRow base e j v n f)(r:0<n):∃ g cap,v= .slice (Ry ⟨g,0,RA⟩) n cap∧base≤g∧g<w.heap.size∧∀ o u,f[o]? =Ry u→w.cell? ⟨g,o,RA⟩=Ry u:=by
 obtain⟨q,⟨b,c⟩|⟨g,cap,k,b,c,d,l,m,p,i⟩⟩:=h
 ·omega
 ·refine⟨g,cap,b,c,(RH.1 d).1,fun o u a=>?_⟩;rw[← i,TJ] at a
  split at a
  ·unfold R2;simp only[d];simpa using a
  ·cases a
def ym (e d c:Nat)(ct:Nat→Nat)(cb rb n f g:Nat):Nat→Prop:=fun a=>a=e∨a=d∨(0<n∧a=c)∨(∃ b,b<n∧a=ct b)∨(0<f∧a=cb)∨(0<g∧a=rb)
theorem FM.kept{k W':RD}{l:List (bO×Int)}{bs:List Bd}{ah:List Int}{rs:List cj}{s r:Nat}{u:Option Sl}{q:Nat}{ct mj:Nat→Nat}{co:Option Sl}{cb bk:Nat}{ro:Option Sl}{rb bq:Nat}(h:FM k l bs ah rs s r u q ct mj co cb bk ro rb bq)(n:k.heap.size≤W'.heap.size)(z:∀ b,ym s r q ct cb rb bs.length ah.length rs.length b→l9 W' k b):FM W' l bs ah rs s r u q ct mj co cb bk ro rb bq:=by
 have m:∀ b,ym s r q ct cb rb bs.length ah.length rs.length b→∀ p v,k.cell? ⟨b,p,RA⟩=Ry v→W'.cell? ⟨b,p,RA⟩=Ry v:=fun b i p v o=>by
  unfold R2 at o ⊢;cases t:k.heap[b]? with
  |none=>rw[t] at o;cases o
  |some j=>
   rw[t] at o;cases j<;>first|(cases o;done)|skip
   rw[z b i _ t trivial];exact o
 have w:∀ d b,bs[d]? =Ry b→d<bs.length:=fun d b h=>(R8.1 h).1;have f:∀ {p v},0<rs.length→k.cell? ⟨rb,p,RA⟩=Ry v→W'.cell? ⟨rb,p,RA⟩=Ry v:=fun g=>m rb (.inr (.inr (.inr (.inr (.inr ⟨g,rfl⟩))))) _ _;have e:=h.nr;refine⟨fun c j a=>m s (.inl rfl) _ _ (h.k c j a),fun c j a=>m r (.inr (.inl rfl)) _ _ (h.e c j a),fun d b i=>?_,fun d b i c j a A B y=>m (ct d) (.inr (.inr (.inr (.inl ⟨d,w d b i,rfl⟩)))) _ _ (h.c d b i c j a A B y),RK h.lk n,RK h.le n,h.da,fun g=>RK (h.ld g) n,fun d x=>RK (h.lc d x) n,h.ca,fun g=>RK (h.cl g) n,fun c a=>m cb (.inr (.inr (.inr (.inr (.inl ⟨by omega,rfl⟩))))) _ _ (h.cc c a),
  ⟨e.addr,fun g=>RK (e.lt g) n,fun c a=>f (by omega) (e.c0 c a),fun c a=>f (by omega) (e.c1 c a),fun c a=>f (by omega) (e.c2 c a),fun c a=>f (by omega) (e.c3 c a),fun c a=>f (by omega) (e.c4 c a),fun c a=>f (by omega) (e.c5 c a),fun c a=>f (by omega) (e.c6 c a)⟩⟩
 intro c v a;exact m q (.inr (.inr (.inl ⟨by have:=w d b i;omega,rfl⟩))) _ _ (h.d d b i c v a)
theorem CE{W' a:RD}{b:Nat}(h:W'.heap[b]? =a.heap[b]?):l9 W' a b:=fun d c _=>h.trans c
theorem KS{W' w':RD}{b:Nat}(h:Un W' w'):l9 w' W' b:=fun e d c=>h.out d fun a=>(dS (aa.of Rz)).OZ (a▸c)
def JB (b:RD)(base:Nat)(a:RB)(ah:List Int):Prop:=(ah.length=0∧∃ c,a= .slice c 0 0)∨(0<ah.length∧b.ownsRow base 3 1 a ah.length (aY ah))
def Ob (b:RD)(base:Nat)(a:RB)(rs:List cj):Prop:=(rs.length=0∧∃ c,a= .slice c 0 0)∨(0<rs.length∧b.ownsRow base 61 7 a rs.length (dz rs))
theorem JB.below{a W':RD}{base:Nat}{b:RB}{ah:List Int}(h:JB a base b ah)(c:Below a.heap.size a W'):JB W' base b ah:=h.imp (fun h=>h) fun h=>⟨h.1,aQ h.2 c⟩
theorem JB.at_{a:RD}{base:Nat}{d:RB}{ah:List Int}(h:JB a base d ah):∃ co cb cap,d= .slice co ah.length cap∧(0<ah.length→co=Ry ⟨cb,0,RA⟩∧base≤cb∧cb<a.heap.size)∧∀ j,j<ah.length→a.cell? ⟨cb,0+j,RA⟩=Ry (.int .i64 (ah.getD j 0)):=by
 rcases h with⟨b,co,rfl⟩|⟨b,h⟩
 ·exact⟨co,0,0,by rw[b],fun h=>absurd h (by omega),fun j c=>absurd c (by omega)⟩
 ·obtain⟨e,cap,rfl,f,g,i⟩:=kR h b;refine⟨_,e,cap,rfl,fun _=>⟨rfl,f,g⟩,fun j c=>?_⟩;rw[SA];refine i j _ ?_;simp[aY,RX,RS c]
theorem Ob.at_{c:RD}{base:Nat}{e:RB}{rs:List cj}(h:Ob c base e rs):∃ ro rb cap,e= .slice ro rs.length cap∧(0<rs.length→base≤rb∧rb<c.heap.size)∧cY c ro rb 0 rs:=by
 rcases h with⟨b,ro,rfl⟩|⟨b,h⟩
 ·refine⟨ro,0,0,by rw[b],fun h=>absurd h (by omega),?_⟩;have f:rs=[]:=Ta b;subst f;exact⟨fun h=>absurd h (by simp),fun h=>absurd h (by simp),fun a h=>absurd h (by simp),fun a h=>absurd h (by simp),fun a h=>absurd h (by simp),fun a h=>absurd h (by simp),fun a h=>absurd h (by simp),fun a h=>absurd h (by simp),fun a h=>absurd h (by simp)⟩
 ·obtain⟨g,cap,rfl,i,d,j⟩:=kR h b;exact⟨_,g,cap,rfl,fun _=>⟨i,d⟩,cY.CM d fun l v k=>by rw[SA];exact j l v k⟩
def B4:RB→Nat
 | .slice (Ry a) _ _=>a.block
 |_=>0
def Oj:RB→Nat
 | .slice _ _ a=>a
 |_=>0
theorem Om{g:RD}{base:Nat}{l:List (bO×Int)}{bs:List Bd}{L:List (Bd×RB)}{a b c I Q:RB}{ah:List Int}{rs:List cj}(N:si l bs)(hL:L.map Sb=bs)(h:cM g base l L a b c)(hc:JB g base I ah)(ab:Ob g base Q rs):
 ∃ (z ck u ce:Nat) (q:Option Sl) (k cJ:Nat) (ct mj:Nat→Nat) (co:Option Sl) (cb aF:Nat) (ro:Option Sl) (rb aI:Nat),a= .slice (Ry ⟨z,0,RA⟩) l.length ck∧b= .slice (Ry ⟨u,0,RA⟩) l.length ce∧c= .slice q bs.length cJ∧I= .slice co ah.length aF∧Q= .slice ro rs.length aI∧FM g l bs ah rs z u q k ct mj co cb 0 ro rb 0∧∀ x,ym z u k ct cb rb bs.length ah.length rs.length x→base≤x∧x<g.heap.size:=by
 have E:0<l.length:=by
  have:=N.pl.1.1;simp at this;omega
 have D:L.length=bs.length:=by rw[← hL,Sy]
 obtain⟨z,ck,rfl,al,P,am⟩:=kR h.ah E;obtain⟨u,ce,rfl,V,J,W⟩:=kR h.mF E;obtain⟨co,cb,aF,rfl,A,S⟩:=hc.at_;obtain⟨ro,rb,aI,rfl,aw,a0⟩:=ab.at_;have X:∃ q k cJ,c= .slice q bs.length cJ∧(0<bs.length→q=Ry ⟨k,0,RA⟩∧base≤k∧k<g.heap.size)∧∀ n i,(mE L)[n]? =Ry i→g.cell? ⟨k,n,RA⟩=Ry i:=by
  rcases UM L.length with e|e
  ·obtain⟨R,o,C⟩:=dA h.bU.own;have U:L=[]:=Ta e;refine⟨R,0,o,by rw[← D];exact C,fun h=>absurd h (by omega),fun n i O=>?_⟩;rw[U] at O;simp[mE] at O
  ·obtain⟨m,o,C,t,B,T⟩:=kR h.bU.own e;exact⟨_,m,o,by rw[← D];exact C,fun _=>⟨rfl,t,B⟩,T⟩
 obtain⟨q,k,cJ,rfl,t,B⟩:=X;have M:∀ d b,bs[d]? =Ry b→∃ (f:d<L.length),L[d].1=b∧∃ m o,L[d].2= .slice (Ry ⟨m,0,RA⟩) l.length o∧base≤m∧m<g.heap.size∧∀ n i,(dx b.chunks)[n]? =Ry i→g.cell? ⟨m,n,RA⟩=Ry i:=fun d b j=>by
  have f:d<L.length:=by rw[D];exact(R8.1 j).1
  have K:L[d].1=b:=by
   have:(L.map Sb)[d]? =Ry b:=by rw[hL];exact j
   rw[List.getElem?_map,RS f] at this;simpa using this
  have Z:b.chunks.length=l.length:=by
   have:=(N.bU b (Td j)).len;simpa using this
  have:=h.bU.each L[d] (RV f);rw[K,Z] at this;obtain⟨m,o,s,F,G,H⟩:=kR this E;exact⟨f,K,m,o,s,F,G,H⟩
 have w:∀ d b,bs[d]? =Ry b→(L.getD d (⟨0,[]⟩,.bool RE)).2= .slice (Ry ⟨B4 (L.getD d (⟨0,[]⟩,.bool RE)).2,0,RA⟩) l.length (Oj (L.getD d (⟨0,[]⟩,.bool RE)).2)∧base≤B4 (L.getD d (⟨0,[]⟩,.bool RE)).2∧B4 (L.getD d (⟨0,[]⟩,.bool RE)).2<g.heap.size∧∀ n i,(dx b.chunks)[n]? =Ry i→g.cell? ⟨B4 (L.getD d (⟨0,[]⟩,.bool RE)).2,n,RA⟩=Ry i:=fun d b j=>by
  obtain⟨f,_,m,o,s,F,G,H⟩:=M d b j;have:L.getD d (⟨0,[]⟩,.bool RE)=L[d]:=by rw[RX,RS f];rfl
  rw[this,s];exact⟨rfl,F,G,H⟩
 refine⟨z,ck,u,ce,q,k,cJ,fun d=>B4 (L.getD d (⟨0,[]⟩,.bool RE)).2,fun d=>Oj (L.getD d (⟨0,[]⟩,.bool RE)).2,co,cb,aF,ro,rb,aI,rfl,rfl,rfl,rfl,rfl,⟨fun r x p=>?_,fun r x p=>?_,fun d b j=>?_,fun d b j r x p a1 i ad=>?_,P,J,fun e=>(t e).1,fun e=>(t e).2.2,fun d f=>(w d _ (RS f)).2.2.1,fun e=>(A e).1,fun e=>(A e).2.2,S,a0⟩,fun x ae=>?_⟩
 ·obtain⟨y,rfl⟩:=R8.1 p;rw[SA];have:=(zx (l.map Sb) r (by simpa using y)).2;simp only[List.getElem_map] at this;exact am _ _ this
 ·obtain⟨y,rfl⟩:=R8.1 p;rw[SA,Vs];exact W _ _ (by simp[aY,RS y])
 ·obtain⟨f,ao,-⟩:=M d b j;have s:=(w d b j).1;have ar:L.getD d (⟨0,[]⟩,.bool RE)=L[d]:=by rw[RX,RS f];rfl
  intro r v p;have Y:(kN L[d])[r]? =Ry v:=by
   unfold kN;rw[ao];rw[ar] at s p;rw[s];exact p
  have:=B _ _ (kQ kN 2 pu L d f r v Y);rw[SA];exact this
 ·obtain⟨y,rfl⟩:=R8.1 p;exact(w d b j).2.2.2 _ _ (kQ cH 8 sX b.chunks r y a1 i ad)
 ·rcases ae with rfl|rfl|⟨e,rfl⟩|⟨d,f,rfl⟩|⟨e,rfl⟩|⟨e,rfl⟩
  ·exact⟨al,P⟩
  ·exact⟨V,J⟩
  ·exact(t e).2
  ·exact⟨(w d _ (RS f)).2.1,(w d _ (RS f)).2.2.1⟩
  ·exact(A e).2
  ·exact aw e
end Cc
namespace Cc
open Go Go.Conc
open Go.RowKit (Below)
open Ec
open Pk (aY)
abbrev BS:=Option (List (bO×Int)×List Bd)
def m9 (s:ByteArray):BS→Prop
 |none=>∀ b a,¬ gw s b a
 |some (b,a)=>gw s b a∧∀ d c,gw s d c→d=b∧c=a
def sB (n:Nat)(ah:List Int)(rs:List cj):Bool:=ah.all (b9 n) && rs.all fun a=>b9 n a.col
def nl (l:List (bO×Int))(k:Int):Int:=(l.getD k.toNat (⟨⟨#[]⟩,0⟩,0)).1.kind
def C7 (l:List (bO×Int))(rs:List cj):Bool:=rs.all fun a=>jh (nl l a.col) a
def gO (b:BS)(ah:List Int)(rs:List cj):Nat:=match b with
 |none=>3
 |some (a,_)=>if sB a.length ah rs then(if C7 a rs then 0 else 5) else 4
theorem nR{n:Nat}{k:Int}:b9 n k=RF↔0≤k∧k<(n:Int):=by
 unfold b9;simp
theorem vP{n:Nat}{ah:List Int}{rs:List cj}:sB n ah rs=RF↔(∀ k∈ah,0≤k∧k<(n:Int))∧∀ r∈rs,0≤r.col∧r.col<(n:Int):=by
 unfold sB;rw[R7,Sf,Sf];simp only[nR]
theorem sC{a:BS}{ah:List Int}{rs:List cj}(h:gO a ah rs=0):∃ l bs,a=Ry (l,bs)∧sB l.length ah rs=RF∧C7 l rs=RF:=by
 cases a with
 |none=>simp[gO] at h
 |some d=>
  obtain⟨l,bs⟩:=d;simp only[gO] at h
  split at h
  ·rename_i b
   split at h
   ·rename_i c;exact⟨l,bs,rfl,b,c⟩
   ·cases h
  ·cases h
theorem vt{l:List (bO×Int)}(h:l7 l){k:Int}(e:b9 l.length k=RF):nl l k=1∨nl l k=2∨nl l k=3:=by
 obtain⟨d,f⟩:=nR.1 e;obtain⟨b,rfl⟩:=Int.eq_ofNat_of_zero_le d;have a:b<l.length:=by omega
 have c:=(h.1.2.2 b (by simpa using a)).1;simp only[List.getElem_map,n6,fJ,R7,decide_eq_true_eq] at c;unfold nl;rw[RX];simp[a];omega
theorem wT{v:aD}{k:Int}(b:k=1∨k=2∨k=3)(h:eU v k=RF):v.s.size≤32:=by
 have a:∀ s:ByteArray,(s.toList == [])=RF→s.size≤32:=fun s h=>by
  have:s.toList=[]:=by simpa using h
  rw[jR this];decide
 unfold eU at h
 split at h
 ·rw[R7] at h;exact a _ h.2
 ·split at h
  ·exact a _ h
  ·split at h
   ·rw[R7] at h;exact a _ h.2
   ·rw[R7,decide_eq_true_eq] at h;have:=h.2;omega
end Cc
namespace Ec
open Go.RowKit Pk Pm
open Cc (JB Ob BS m9 sB nl C7 gO nR vP vt wT kR)
def uS (w:RD)(g:Nat)(a b c d e f:RB):RD:=(((((w.setCell ⟨g,0,RA⟩ a).setCell ⟨g,1,RA⟩ b).setCell ⟨g,2,RA⟩ c).setCell ⟨g,3,RA⟩ d).setCell ⟨g,4,RA⟩ e).setCell ⟨g,5,RA⟩ f
theorem vz{w:RD}{g:Nat}{a b c d e f:RB}{t:RO}(i j k l m n:RB)(h:w.heap[g]? =Ry (.cells #[a,b,c,d,e,f] t (0,0))):(uS w g i j k l m n).heap[g]? =Ry (.cells #[i,j,k,l,m,n] t (0,0)):=by
 have o:=RZ w g 0 _ _ i h;have p:=RZ _ g 1 _ _ j o;have q:=RZ _ g 2 _ _ k p;have r:=RZ _ g 3 _ _ l q;have s:=RZ _ g 4 _ _ m r;exact RZ _ g 5 _ _ n s
theorem nB{w w0:RD}{g n:Nat}(c d e f i j:RB)(h:RQ n w0 w)(b:n≤w0.heap.size)(a:n≤g):RQ n w0 (uS w g c d e f i j):=
 b6 (b6 (b6 (b6 (b6 (b6 h b a _ _) b a _ _) b a _ _) b a _ _) b a _ _) b a _ _
theorem oW{h:RD}{g:Nat}{a b c d e f:RB}{t:RO}(i:h.heap[g]? =Ry (.cells #[a,b,c,d,e,f] t (0,0))):h.frozen? ⟨g,0,RA⟩=RE∧h.frozen? ⟨g,1,RA⟩=RE∧h.frozen? ⟨g,2,RA⟩=RE∧h.frozen? ⟨g,3,RA⟩=RE∧h.frozen? ⟨g,4,RA⟩=RE∧h.frozen? ⟨g,5,RA⟩=RE:=by
 unfold SH;simp[i]
theorem wI(n:Nat)(ah:List Int)(rs:List cj)(d:Option Sl)(a:Nat)(b c:RB)(co:Option Sl)(cb bk aF:Nat)(ro:Option Sl)(rb bq aI:Nat)(sk:Bool)(w:RD)(l:ah.length≤R3)(m:rs.length≤R3)
 (h:0<ah.length→co=Ry ⟨cb,bk,RA⟩) (k:0<ah.length→cb<w.heap.size) (i:∀ j,j<ah.length→w.cell? ⟨cb,bk+j,RA⟩=Ry (.int .i64 (ah.getD j 0))) (o:cY w ro rb bq rs):
 Sc (aa.of Rz) 68 #[.agg #[.slice d n a,b,c,.slice co ah.length aF,.slice ro rs.length aI,.bool sk]] w fun e w'=>e= .returned (.bool (sB n ah rs))∧RQ w.heap.size w w':=by
 refine(wH n ah rs d a b c co cb bk aF ro rb bq aI sk w l m h k i o).mono ?_;rintro e w' ⟨p,rfl,f,g⟩;refine⟨oT ?_,g⟩;rw[Bool.eq_iff_iff,f];unfold sB;rw[R7,Sf,Sf,List.forall_mem_iff_forall_getElem,List.forall_mem_iff_forall_getElem]
theorem yT(l:List (bO×Int))(rs:List cj)(f h:Nat)(b c d:RB)(ro:Option Sl)(rb bq aI:Nat)(sk:Bool)(w:RD)(u:rs.length≤R3)(k:l7 l)(a:cY w ro rb bq rs)(m:∀ r∈rs,b9 l.length r.col=RF)(s:f<w.heap.size)(q:∀ j x,l[j]? =Ry x→w.cell? ⟨f,j*2+1,RA⟩=Ry (.int .i64 x.1.kind)):
 Sc (aa.of Rz) 69 #[.agg #[.slice (Ry ⟨f,0,RA⟩) l.length h,b,c,d,.slice ro rs.length aI,.bool sk]] w fun e w'=>e= .returned (.bool (C7 l rs))∧RQ w.heap.size w w':=by
 have t:l.length≤R3:=by have:=k.each.2;unfold R3;omega
 refine(yS l.length rs (nl l) f h b c d ro rb bq aI sk w u t a fun r a=>?_).mono ?_
 ·obtain⟨o,y⟩:=nR.1 (m r a);obtain⟨j,i⟩:=Int.eq_ofNat_of_zero_le o;have g:j<l.length:=by omega
  refine⟨j,i,g,s,?_,vt k (m r a)⟩;have:=q j _ (RS g);rw[this];unfold nl;rw[i,RX];simp[g]
 ·rintro e w' ⟨v,rfl,n,p⟩;refine⟨oT ?_,p⟩;rw[Bool.eq_iff_iff,n];unfold C7;rw[Sf,List.forall_mem_iff_forall_getElem]
theorem cY.cells{w:RD}{f:Option Sl}{b off:Nat}{l:List cj}(h:cY w f b off l):∀ j u,(dz l)[j]? =Ry u→w.cell? ⟨b,off+j,RA⟩=Ry u:=by
 intro j u e;have o:j<l.length*7:=by rw[← qx];exact(R8.1 e).1
 have c:j / 7<l.length:=by omega
 have g:j=j / 7*7+j % 7:=by omega
 have p:j % 7<7:=Nat.mod_lt _ (by decide);have n:(dz l)[j / 7*7+j % 7]? =Ry u:=by rw[← g];exact e
 have d:∀ a v,j % 7=a→(qR l[j / 7])[a]? =Ry v→u=v:=fun a v k m=>by
  have:=mW l (j / 7) c a v m;rw[← k,n] at this;exact Vx this
 have i:off+j=off+j / 7*7+j % 7:=by omega
 rw[i];generalize j % 7=a at*;have:a=0∨a=1∨a=2∨a=3∨a=4∨a=5∨a=6:=by omega
 rcases this with rfl|rfl|rfl|rfl|rfl|rfl|rfl
 ·rw[d 0 _ rfl rfl];exact h.c0 _ c
 ·rw[d 1 _ rfl rfl];exact h.c1 _ c
 ·rw[d 2 _ rfl rfl];exact h.c2 _ c
 ·rw[d 3 _ rfl rfl];exact h.c3 _ c
 ·rw[d 4 _ rfl rfl];exact h.c4 _ c
 ·rw[d 5 _ rfl rfl];exact h.c5 _ c
 ·rw[d 6 _ rfl rfl];exact h.c6 _ c
structure BY(W:RD)(base:Nat)(l:List (bO×Int))(L:List (Bd×RB))(a b c cv rv:RB)(ah:List Int)(rs:List cj):Prop where
 f:cM W base l L a b c
 c:JB W base cv ah
 r:Ob W base rv rs
theorem BY.put{d:RD}{base:Nat}{l:List (bO×Int)}{L:List (Bd×RB)}{a b c f i:RB}{ah:List Int}{rs:List cj}(h:BY d base l L a b c f i ah rs){g:Nat}{cs:Array RB}(e:d.heap[g]? =Ry (.cells cs 115 (0,0)))(o:Nat)(u:RB):BY (d.setCell ⟨g,o,RA⟩ u) base l L a b c f i ah rs:=by
 refine⟨⟨h.f.ah.kept (aJ d g o u) (.inr (bw h.f.ah e (by decide)).symm),h.f.mF.kept (aJ d g o u) (.inr (bw h.f.mF e (by decide)).symm),h.f.bU.put e (by decide) (by decide) o u⟩,h.c.imp (fun h=>h) fun h=>⟨h.1,h.2.kept (aJ d g o u) (.inr (bw h.2 e (by decide)).symm)⟩,h.r.imp (fun h=>h) fun h=>⟨h.1,h.2.kept (aJ d g o u) (.inr (bw h.2 e (by decide)).symm)⟩⟩
theorem BY.uS{d:RD}{base:Nat}{l:List (bO×Int)}{L:List (Bd×RB)}{a b c e n:RB}{ah:List Int}{rs:List cj}(h:BY d base l L a b c e n ah rs){g:Nat}{u v w x y z:RB}(o p q r s A:RB)(m:d.heap[g]? =Ry (.cells #[u,v,w,x,y,z] 115 (0,0))):BY (uS d g o p q r s A) base l L a b c e n ah rs:=by
 have f:=RZ d g 0 _ _ o m;have i:=RZ _ g 1 _ _ p f;have j:=RZ _ g 2 _ _ q i;have k:=RZ _ g 3 _ _ r j;have t:=RZ _ g 4 _ _ s k;exact(((((h.put m _ _).put f _ _).put i _ _).put j _ _).put k _ _).put t _ _
def QI (w:RD)(a:BS)(ah:List Int)(rs:List cj)(sk:Bool)(e:Uw)(w':RD):Prop:=
 RQ w.heap.size w w'∧((gO a ah rs≠0∧e= .returned (.tuple #[.agg #[.slice RA 0 0,.slice RA 0 0,.slice RA 0 0,.slice RA 0 0,.slice RA 0 0,.bool RE],.int .i64 (gO a ah rs:Int)]))∨
  (∃ (i:List (bO×Int)) (f:List Bd) (b:List (Bd×RB)) (c d g h j:RB),a=Ry (i,f)∧gO a ah rs=0∧e= .returned (.tuple #[.agg #[c,d,g,h,j,.bool sk],.int .i64 0])∧b.map Sb=f∧cM w' w.heap.size i b c d g∧JB w' w.heap.size h ah∧Ob w' w.heap.size j rs))
theorem MB(s:ByteArray)(p:BS)(ah:List Int)(rs:List cj)(co:Option Sl)(cb bk aF:Nat)(ro:Option Sl)(rb bq aI:Nat)(sk:Bool)(w:RD)(e7:s.size≤R3)(hF:m9 s p)(ec:ah.length≤1000)(em:rs.length≤1000)
 (d8:0<ah.length→co=Ry ⟨cb,bk,RA⟩) (eb:0<ah.length→cb<w.heap.size) (d9:∀ j,j<ah.length→w.cell? ⟨cb,bk+j,RA⟩=Ry (.int .i64 (ah.getD j 0))) (ab:cY w ro rb bq rs):
 Sc (aa.of Rz) 48 #[.string s,.slice co ah.length aF,.slice ro rs.length aI,.bool sk] w (QI w p ah rs sk):=by
 have c8:RJ (0<ah.length→co=Ry ⟨cb,bk,RA⟩):=d8;have a7:RJ (0<ah.length→cb<w.heap.size):=eb;have c9:RJ (∀ j,j<ah.length→w.cell? ⟨cb,bk+j,RA⟩=Ry (.int .i64 (ah.getD j 0))):=d9;have dr:RJ (cY w ro rb bq rs):=ab;have ad:RJ (m9 s p):=hF;have dc:RJ (ah.length≤1000):=ec;have bt:RJ (rs.length≤1000):=em;have W:RJ ((w.alloc (.cells #[.slice RA 0 0,.slice RA 0 0,.slice RA 0 0,.slice RA 0 0,.slice RA 0 0,.bool RE] 115)).heap[w.heap.size]? =Ry (.cells #[.slice RA 0 0,.slice RA 0 0,.slice RA 0 0,.slice RA 0 0,.slice RA 0 0,.bool RE] 115 (0,0))):=bG w _;have a6:RJ (RQ w.heap.size w (w.alloc (.cells #[.slice RA 0 0,.slice RA 0 0,.slice RA 0 0,.slice RA 0 0,.slice RA 0 0,.bool RE] 115))):=(R5 _ _).alloc (RG _) _;clear d8 eb d9 ab hF ec em;go_enter aa.func48,Tryz.ntmps48
 go_wp2_with fail
 refine(zI s _ e7).mono ?_;rintro z k ⟨L,⟨a,bb,b,fu,fv,fx,rfl,ar,d3,am,fa⟩|⟨rfl,el⟩⟩;rotate_left
 ·have d1:gO p ah rs=3:=by
   cases p with
   |none=>rfl
   |some fd=>exact(el _ _ ad.out.1).elim
  have Z:=RP W.out;have be:(k.alloc (.cells #[.slice RA 0 0,.slice RA 0 0,.slice RA 0 0] 105)).heap[w.heap.size]? =Ry (.cells #[.slice RA 0 0,.slice RA 0 0,.slice RA 0 0,.slice RA 0 0,.slice RA 0 0,.bool RE] 115 (0,0)):=by rw[Sr _ _ _ (RK Z L.size)];exact(L.block _ Z).trans W.out
  have K:RQ w.heap.size w k:=a6.out.trans (L.mono (by simp));have dT:RQ w.heap.size w (k.alloc (.cells #[.slice RA 0 0,.slice RA 0 0,.slice RA 0 0] 105)):=K.alloc K.size _;have y:RJ (gO p ah rs=3):=d1;clear d1 Z el L W a6 ad K
  go_upto_region 3 with fail
  generalize k.alloc (.cells #[.slice RA 0 0,.slice RA 0 0,.slice RA 0 0] 105)=e2 at*;have x:RJ (RQ w.heap.size w (uS e2 w.heap.size (.slice RA 0 0) (.slice RA 0 0) (.slice RA 0 0) (.slice RA 0 0) (.slice RA 0 0) (.bool RE))):=nB _ _ _ _ _ _ dT (RG _) (RG _);obtain⟨cu,cv,cx,cR,c0,c1⟩:=iK be;obtain⟨bx,bA,bB,b0,b1,b2⟩:=oW be;obtain⟨N,O,P,Q,R,S⟩:=iK (vz (.slice RA 0 0) (.slice RA 0 0) (.slice RA 0 0) (.slice RA 0 0) (.slice RA 0 0) (.bool RE) be);clear be dT;unfold uS at*;go_wp2;simp[TV,SD,Tryz.results48,go_sem,N,O,P,Q,R,S];exact⟨x.out,.inl ⟨by rw[y.out];decide,by rw[y.out];rfl⟩⟩
 ·have d2:p=Ry (a,bb):=by
   cases p with
   |none=>exact(ad.out _ _ ar).elim
   |some fd=>
    obtain⟨e3,e4⟩:=ad.out.2 _ _ ar;rw[e3,e4]
  have a8:RJ (p=Ry (a,bb)):=d2;have e0:RJ (b.map Sb=bb):=d3;have e8:0<a.length:=by
   have:=ar.1.pl.1.1;simp at this;omega
  have bo:RJ (l7 a):=ar.1.pl;obtain⟨c,f,rfl,fb,cp,en⟩:=kR am.ah e8;obtain⟨e,d,rfl⟩:=dA am.mF;obtain⟨g,h,rfl⟩:=dA am.bU.own;have Z:=RP W.out;have K:RQ w.heap.size w k:=a6.out.trans (L.mono (by simp));have b4:k.heap[w.heap.size]? =Ry (.cells #[.slice RA 0 0,.slice RA 0 0,.slice RA 0 0,.slice RA 0 0,.slice RA 0 0,.bool RE] 115 (0,0)):=(L.block _ Z).trans W.out;have eh:w.heap.size<k.heap.size:=RP b4;have X:RQ k.heap.size k ((k.alloc (.cells #[.slice (Ry ⟨c,0,RA⟩) a.length f,.slice e a.length d,.slice g b.length h] 105)).alloc (.cells #[.slice (Ry ⟨c,0,RA⟩) a.length f,.slice e a.length d,.slice g b.length h,.slice co ah.length aF,.slice ro rs.length aI,.bool sk] 115)):=((R5 _ _).alloc (RG _) _).alloc (by simp) _;have a9:RJ (((k.alloc (.cells #[.slice (Ry ⟨c,0,RA⟩) a.length f,.slice e a.length d,.slice g b.length h] 105)).alloc (.cells #[.slice (Ry ⟨c,0,RA⟩) a.length f,.slice e a.length d,.slice g b.length h,.slice co ah.length aF,.slice ro rs.length aI,.bool sk] 115)).heap[k.heap.size+1]? =Ry (.cells #[.slice (Ry ⟨c,0,RA⟩) a.length f,.slice e a.length d,.slice g b.length h,.slice co ah.length aF,.slice ro rs.length aI,.bool sk] 115 (0,0))):=jz _ _ _;have ae:RJ (((k.alloc (.cells #[.slice (Ry ⟨c,0,RA⟩) a.length f,.slice e a.length d,.slice g b.length h] 105)).alloc (.cells #[.slice (Ry ⟨c,0,RA⟩) a.length f,.slice e a.length d,.slice g b.length h,.slice co ah.length aF,.slice ro rs.length aI,.bool sk] 115)).heap[w.heap.size]? =Ry (.cells #[.slice RA 0 0,.slice RA 0 0,.slice RA 0 0,.slice RA 0 0,.slice RA 0 0,.bool RE] 115 (0,0))):=(X.block _ eh).trans b4;have x:RJ (RQ w.heap.size w ((k.alloc (.cells #[.slice (Ry ⟨c,0,RA⟩) a.length f,.slice e a.length d,.slice g b.length h] 105)).alloc (.cells #[.slice (Ry ⟨c,0,RA⟩) a.length f,.slice e a.length d,.slice g b.length h,.slice co ah.length aF,.slice ro rs.length aI,.bool sk] 115))):=K.trans (X.mono K.size);have dd:RJ (cM ((k.alloc (.cells #[.slice (Ry ⟨c,0,RA⟩) a.length f,.slice e a.length d,.slice g b.length h] 105)).alloc (.cells #[.slice (Ry ⟨c,0,RA⟩) a.length f,.slice e a.length d,.slice g b.length h,.slice co ah.length aF,.slice ro rs.length aI,.bool sk] 115)) w.heap.size a b (.slice (Ry ⟨c,0,RA⟩) a.length f) (.slice e a.length d) (.slice g b.length h)):=(am.base (by simp)).below X;have ef:c<((k.alloc (.cells #[.slice (Ry ⟨c,0,RA⟩) a.length f,.slice e a.length d,.slice g b.length h] 105)).alloc (.cells #[.slice (Ry ⟨c,0,RA⟩) a.length f,.slice e a.length d,.slice g b.length h,.slice co ah.length aF,.slice ro rs.length aI,.bool sk] 115)).heap.size:=RK cp X.size;have dl:RJ (∀ j H,a[j]? =Ry H→((k.alloc (.cells #[.slice (Ry ⟨c,0,RA⟩) a.length f,.slice e a.length d,.slice g b.length h] 105)).alloc (.cells #[.slice (Ry ⟨c,0,RA⟩) a.length f,.slice e a.length d,.slice g b.length h,.slice co ah.length aF,.slice ro rs.length aI,.bool sk] 115)).cell? ⟨c,j*2+1,RA⟩=Ry (.int .i64 H.1.kind)):=fun j H u=>by
   obtain⟨ci,rfl⟩:=R8.1 u;have:=(zx (a.map Sb) j (by simpa using ci)).2;simp only[List.getElem_map] at this;exact(X.cell (p:=⟨c,j*2+1,RA⟩) cp).trans (en _ _ this)
  have df:RJ (w.heap.size≠k.heap.size+1):=by show _≠_;omega
  have dk:RJ (w.heap.size≤k.heap.size+1):=by show _≤_;omega
  clear am ar fa d3 d2 L W a6 ad K b4 Z fb cp en X eh
  go_upto_region 5 with fail
  generalize (k.alloc (.cells #[.slice (Ry ⟨c,0,RA⟩) a.length f,.slice e a.length d,.slice g b.length h] 105)).alloc (.cells #[.slice (Ry ⟨c,0,RA⟩) a.length f,.slice e a.length d,.slice g b.length h,.slice co ah.length aF,.slice ro rs.length aI,.bool sk] 115)=I at*;generalize k.heap.size+1=n at*;have cd:=x.out.size;have ce:∀ j,j<ah.length→I.cell? ⟨cb,bk+j,RA⟩=Ry (.int .i64 (ah.getD j 0)):=fun j u=>(x.out.cell (p:=⟨cb,bk+j,RA⟩) (a7.out (by omega))).trans (c9.out j u);have cl:cY I ro rb bq rs:=dr.out.below x.out;have T:=wI a.length ah rs (Ry ⟨c,0,RA⟩) f (.slice e a.length d) (.slice g b.length h) co cb bk aF ro rb bq aI sk I (by have:=dc.out;unfold R3;omega) (by have:=bt.out;unfold R3;omega) c8.out (fun m=>RK (a7.out m) cd) ce cl;have da:RJ (∀ j,j<ah.length→I.cell? ⟨cb,bk+j,RA⟩=Ry (.int .i64 (ah.getD j 0))):=ce;have ds:RJ (cY I ro rb bq rs):=cl;have bl:RJ (0<ah.length→cb<I.heap.size):=fun m=>RK (a7.out m) cd;obtain⟨aw,a0,a1,a2,a3,a4⟩:=iK a9.out;have bm:RJ (c<I.heap.size):=ef;clear ce cl c9 dr a7 ef cd;cases Y:sB a.length ah rs
  ·rw[Y] at T;have y:RJ (gO p ah rs=4):=by
    show _=_;rw[a8.out];simp[gO,Y]
   clear Y
   go_upto_region 6 with(go_at_call 68;refine T.mono ?_;rintro z o ⟨rfl,i⟩;have E:o.heap[w.heap.size]? =Ry (.cells #[.slice RA 0 0,.slice RA 0 0,.slice RA 0 0,.slice RA 0 0,.slice RA 0 0,.bool RE] 115 (0,0)):=(i.block _ (RP ae.out)).trans ae.out;have F:RJ (RQ w.heap.size w o):=x.out.trans (i.mono x.out.size);clear i T)
   have D:RJ (RQ w.heap.size w (uS o w.heap.size (.slice RA 0 0) (.slice RA 0 0) (.slice RA 0 0) (.slice RA 0 0) (.slice RA 0 0) (.bool RE))):=nB _ _ _ _ _ _ F.out (RG _) (RG _);obtain⟨cu,cv,cx,cR,c0,c1⟩:=iK E;obtain⟨bx,bA,bB,b0,b1,b2⟩:=oW E;obtain⟨N,O,P,Q,R,S⟩:=iK (vz (.slice RA 0 0) (.slice RA 0 0) (.slice RA 0 0) (.slice RA 0 0) (.slice RA 0 0) (.bool RE) E);clear E aw a0 a1 a2 a3 a4 F;unfold uS at*;go_wp2;simp[TV,SD,Tryz.results48,go_sem,N,O,P,Q,R,S];exact⟨D.out,.inl ⟨by rw[y.out];decide,by rw[y.out];rfl⟩⟩
  ·rw[Y] at T;have bj:RJ (sB a.length ah rs=RF):=Y;clear Y
   go_upto_region 7 with(go_at_call 68;refine T.mono ?_;rintro z o ⟨rfl,i⟩;have ba:RJ (o.heap[w.heap.size]? =Ry (.cells #[.slice RA 0 0,.slice RA 0 0,.slice RA 0 0,.slice RA 0 0,.slice RA 0 0,.bool RE] 115 (0,0))):=(i.block _ (RP ae.out)).trans ae.out;have br:RJ (o.heap[n]? =Ry (.cells #[.slice (Ry ⟨c,0,RA⟩) a.length f,.slice e a.length d,.slice g b.length h,.slice co ah.length aF,.slice ro rs.length aI,.bool sk] 115 (0,0))):=(i.block _ (RP a9.out)).trans a9.out;have F:RJ (RQ w.heap.size w o):=x.out.trans (i.mono x.out.size);have et:RJ (cM o w.heap.size a b (.slice (Ry ⟨c,0,RA⟩) a.length f) (.slice e a.length d) (.slice g b.length h)):=dd.out.below i;have eq:RJ (∀ j,j<ah.length→o.cell? ⟨cb,bk+j,RA⟩=Ry (.int .i64 (ah.getD j 0))):=fun j u=>(i.cell (p:=⟨cb,bk+j,RA⟩) (bl.out (by omega))).trans (da.out j u);have dt:RJ (cY o ro rb bq rs):=ds.out.below i;have es:RJ (0<ah.length→cb<o.heap.size):=fun m=>RK (bl.out m) i.size;have dp:RJ (c<o.heap.size∧∀ j H,a[j]? =Ry H→o.cell? ⟨c,j*2+1,RA⟩=Ry (.int .i64 H.1.kind)):=⟨RK bm.out i.size,fun j H u=>(i.cell (p:=⟨c,j*2+1,RA⟩) bm.out).trans (dl.out j H u)⟩;clear i T)
   clear ae a9 x dd da ds bl bm dl aw a0 a1 a2 a3 a4;obtain⟨aw,a0,a1,a2,a3,a4⟩:=iK br.out;have cn:∀ A∈rs,b9 a.length A.col=RF:=by
    have:=bj.out;unfold sB at this;rw[R7,Sf,Sf] at this;exact this.2
   have U:=yT a rs c f (.slice e a.length d) (.slice g b.length h) (.slice co ah.length aF) ro rb bq aI sk o (by have:=bt.out;unfold R3;omega) bo.out dt.out cn dp.out.1 dp.out.2;have dv:RJ (∀ A∈rs,b9 a.length A.col=RF):=cn;clear cn;cases G:C7 a rs
   ·rw[G] at U;have y:RJ (gO p ah rs=5):=by
     show _=_;rw[a8.out];simp[gO,G,bj.out]
    clear G
    go_upto_region 8 with(go_at_call 69;refine U.mono ?_;rintro z l ⟨rfl,i⟩;have E:l.heap[w.heap.size]? =Ry (.cells #[.slice RA 0 0,.slice RA 0 0,.slice RA 0 0,.slice RA 0 0,.slice RA 0 0,.bool RE] 115 (0,0)):=(i.block _ (RP ba.out)).trans ba.out;have D:RJ (RQ w.heap.size w l):=F.out.trans (i.mono F.out.size);clear i U)
    have V:RJ (RQ w.heap.size w (uS l w.heap.size (.slice RA 0 0) (.slice RA 0 0) (.slice RA 0 0) (.slice RA 0 0) (.slice RA 0 0) (.bool RE))):=nB _ _ _ _ _ _ D.out (RG _) (RG _);obtain⟨cu,cv,cx,cR,c0,c1⟩:=iK E;obtain⟨bx,bA,bB,b0,b1,b2⟩:=oW E;obtain⟨N,O,P,Q,R,S⟩:=iK (vz (.slice RA 0 0) (.slice RA 0 0) (.slice RA 0 0) (.slice RA 0 0) (.slice RA 0 0) (.bool RE) E);clear E aw a0 a1 a2 a3 a4 F D;unfold uS at*;go_wp2;simp[TV,SD,Tryz.results48,go_sem,N,O,P,Q,R,S];exact⟨V.out,.inl ⟨by rw[y.out];decide,by rw[y.out];rfl⟩⟩
   ·rw[G] at U;have y:RJ (gO p ah rs=0):=by
     show _=_;rw[a8.out];simp[gO,G,bj.out]
    have e1:RJ (∀ A∈rs,A.low.s.size≤32∧A.high.s.size≤32):=fun A ab=>by
     unfold C7 at G;have bc:=Sf.1 G A ab;unfold jh at bc;rw[R7] at bc;exact⟨wT (vt bo.out (dv.out A ab)) bc.1,wT (vt bo.out (dv.out A ab)) bc.2⟩
    clear G
    go_upto_region 9 with(go_at_call 69;refine U.mono ?_;rintro z l ⟨rfl,i⟩;have dC:RJ (l.heap[w.heap.size]? =Ry (.cells #[.slice RA 0 0,.slice RA 0 0,.slice RA 0 0,.slice RA 0 0,.slice RA 0 0,.bool RE] 115 (0,0))):=(i.block _ (RP ba.out)).trans ba.out;have dq:RJ (l.heap[n]? =Ry (.cells #[.slice (Ry ⟨c,0,RA⟩) a.length f,.slice e a.length d,.slice g b.length h,.slice co ah.length aF,.slice ro rs.length aI,.bool sk] 115 (0,0))):=(i.block _ (RP br.out)).trans br.out;have D:RJ (RQ w.heap.size w l):=F.out.trans (i.mono F.out.size);have eQ:RJ (cM l w.heap.size a b (.slice (Ry ⟨c,0,RA⟩) a.length f) (.slice e a.length d) (.slice g b.length h)):=et.out.below i;have er:RJ (∀ j,j<ah.length→l.cell? ⟨cb,bk+j,RA⟩=Ry (.int .i64 (ah.getD j 0))):=fun j u=>(i.cell (p:=⟨cb,bk+j,RA⟩) (es.out (by omega))).trans (eq.out j u);have du:RJ (cY l ro rb bq rs):=dt.out.below i;clear i U)
    have c2:=yJ ah co cb bk aF l dc.out c8.out (fun j f1 u=>by
     obtain⟨ci,z⟩:=R8.1 u;have ee:j<ah.length:=by simpa [aY] using ci
     rw[er.out j ee,← z];simp[aY,RX,ee])
    have c3:=fun dO (e5:RQ l.heap.size l dO)=>v8 rs ro rb bq aI dO bt.out (fun m=>du.out.addr m) (du.out.below e5).cells e1.out
    go_upto_region 10 with(first|(go_at_call 70;refine c2.mono ?_;rintro z a5 ⟨ca,d6⟩;have e6:∃ bu,z= .returned bu∧JB a5 l.heap.size bu ah:=d6.elim (fun⟨J,bv,M⟩=>⟨_,M,.inl ⟨J,bv,rfl⟩⟩) (fun⟨J,v,M,ck⟩=>⟨v,M,.inr ⟨J,ck⟩⟩);obtain⟨bu,rfl,cf⟩:=e6;obtain⟨r,fz,t,rfl,_⟩:=cf.at_;have db:RJ (JB a5 l.heap.size (.slice r ah.length t) ah):=cf;have V:RJ (RQ l.heap.size l a5):=ca;have c4:=c3 a5 ca;clear ca d6 cf c2 c3)|(go_at_call 71;refine c4.mono ?_;rintro z q ⟨cc,d7⟩;have e9:∃ cs,z= .returned cs∧Ob q a5.heap.size cs rs:=d7.elim (fun⟨J,bv,M⟩=>⟨_,M,.inl ⟨J,bv,rfl⟩⟩) (fun⟨J,v,M,ck⟩=>⟨v,M,.inr ⟨J,ck⟩⟩);obtain⟨cs,rfl,ch⟩:=e9;obtain⟨B,f0,C,rfl,_⟩:=ch.at_;have al:RQ l.heap.size l q:=V.out.trans (cc.mono V.out.size);have c7:RJ (RQ w.heap.size w q):=D.out.trans (al.mono D.out.size);have d5:q.heap[w.heap.size]? =Ry (.cells #[.slice RA 0 0,.slice RA 0 0,.slice RA 0 0,.slice RA 0 0,.slice RA 0 0,.bool RE] 115 (0,0)):=(al.block _ (RP dC.out)).trans dC.out;have bd:q.heap[n]? =Ry (.cells #[.slice (Ry ⟨c,0,RA⟩) a.length f,.slice e a.length d,.slice g b.length h,.slice co ah.length aF,.slice ro rs.length aI,.bool sk] 115 (0,0)):=(al.block _ (RP dq.out)).trans dq.out;have c5:RJ (BY q w.heap.size a b (.slice (Ry ⟨c,0,RA⟩) a.length f) (.slice e a.length d) (.slice g b.length h) (.slice r ah.length t) (.slice B rs.length C) ah rs):=⟨eQ.out.below al,(db.out.below cc).imp (fun m=>m) (fun m=>⟨m.1,bz m.2 D.out.size⟩),ch.imp (fun m=>m) (fun m=>⟨m.1,bz m.2 (R4 D.out.size V.out.size)⟩)⟩;obtain⟨u0,u1,u2,u3,u4,u5⟩:=iK bd;obtain⟨fe,fg,fi,fk,fl,fm⟩:=oW bd;have dE:RJ (q.heap[w.heap.size]? =Ry (.cells #[.slice RA 0 0,.slice RA 0 0,.slice RA 0 0,.slice RA 0 0,.slice RA 0 0,.bool RE] 115 (0,0))):=d5;have bs:RJ (q.heap[n]? =Ry (.cells #[.slice (Ry ⟨c,0,RA⟩) a.length f,.slice e a.length d,.slice g b.length h,.slice co ah.length aF,.slice ro rs.length aI,.bool sk] 115 (0,0))):=bd;clear cc d7 ch c4 al db V d5 bd))
    have b3:=RZ _ n 3 _ _ (.slice r ah.length t) bs.out;have d4:=RZ _ n 4 _ _ (.slice B rs.length C) b3;have ao:((q.setCell ⟨n,3,RA⟩ (.slice r ah.length t)).setCell ⟨n,4,RA⟩ (.slice B rs.length C)).heap[w.heap.size]? =Ry (.cells #[.slice RA 0 0,.slice RA 0 0,.slice RA 0 0,.slice RA 0 0,.slice RA 0 0,.bool RE] 115 (0,0)):=by
     rw[R6 _ _ _ _ df.out,R6 _ _ _ _ df.out];exact dE.out
    have c6:RJ (BY ((q.setCell ⟨n,3,RA⟩ (.slice r ah.length t)).setCell ⟨n,4,RA⟩ (.slice B rs.length C)) w.heap.size a b (.slice (Ry ⟨c,0,RA⟩) a.length f) (.slice e a.length d) (.slice g b.length h) (.slice r ah.length t) (.slice B rs.length C) ah rs):=(c5.out.put bs.out _ _).put b3 _ _;have d0:RQ w.heap.size w ((q.setCell ⟨n,3,RA⟩ (.slice r ah.length t)).setCell ⟨n,4,RA⟩ (.slice B rs.length C)):=b6 (b6 c7.out (RG _) dk.out _ _) (RG _) dk.out _ _;clear u0 u1 u2 u3 u4 u5 fe fg fi fk fl fm c5 c7 dE bs;generalize ((q.setCell ⟨n,3,RA⟩ (.slice r ah.length t)).setCell ⟨n,4,RA⟩ (.slice B rs.length C))=ft at*;have bi:RJ _:=c6.out.uS (.slice (Ry ⟨c,0,RA⟩) a.length f) (.slice e a.length d) (.slice g b.length h) (.slice r ah.length t) (.slice B rs.length C) (.bool sk) ao;have eo:RJ _:=nB (.slice (Ry ⟨c,0,RA⟩) a.length f) (.slice e a.length d) (.slice g b.length h) (.slice r ah.length t) (.slice B rs.length C) (.bool sk) d0 (RG _) (RG _);obtain⟨N,O,P,Q,R,S⟩:=iK (vz (.slice (Ry ⟨c,0,RA⟩) a.length f) (.slice e a.length d) (.slice g b.length h) (.slice r ah.length t) (.slice B rs.length C) (.bool sk) ao);obtain⟨cu,cv,cx,cR,c0,c1⟩:=iK ao;obtain⟨bx,bA,bB,b0,b1,b2⟩:=oW ao;obtain⟨aw,a0,a1,a2,a3,a4⟩:=iK d4;clear ao b3 d4 c6 d0;unfold uS at*;go_wp2;simp[TV,SD,Tryz.results48,go_sem,N,O,P,Q,R,S];exact⟨eo.out,.inr ⟨a,bb,b,_,_,_,_,_,a8.out,y.out,rfl,e0.out,bi.out.f,bi.out.c,bi.out.r⟩⟩
end Ec
namespace Ec
open Go.RowKit Pk Pm
open Cc (JB Ob BS m9 sB nl C7 gO kR FM Om ym fL iI FM.kept)
def tT (w:RD)(a:BS)(ah:List Int)(rs:List cj)(sk:Bool)(e:Uw)(w':RD):Prop:=
 RQ w.heap.size w w'∧((gO a ah rs≠0∧e= .returned (.tuple #[.pointer RA,.int .i64 (gO a ah rs:Int)]))∨
  (∃ (d:List (bO×Int)) (b:List Bd) (c g p f o:Nat) (k:Option Sl) (l cJ:Nat) (ct mj:Nat→Nat) (j:Option Sl) (i aF:Nat) (n:Option Sl) (m aI:Nat),a=Ry (d,b)∧gO a ah rs=0∧e= .returned (.tuple #[.pointer (Ry ⟨c,0,RA⟩),.int .i64 0])∧w.heap.size≤c∧w'.heap[c]? =Ry (.cells (iI (fL g d.length p f d.length o k b.length cJ j ah.length aF n rs.length aI sk) 0 0) 119 (0,0))∧FM w' d b ah rs g f k l ct mj j i 0 n m 0∧∀ h,ym g f l ct i m b.length ah.length rs.length h→w.heap.size≤h∧h<c))
theorem vQ(a:BS)(ah:List Int)(rs:List cj):gO a ah rs=0∨gO a ah rs=3∨gO a ah rs=4∨gO a ah rs=5:=by
 unfold gO
 split
 ·simp
 ·split
  ·split<;>simp
  ·simp
theorem oN(s:ByteArray)(a:BS)(ah:List Int)(rs:List cj)(co:Option Sl)(cb bk aF:Nat)(ro:Option Sl)(rb bq aI:Nat)(sk:Bool)(w:RD)(P:s.size≤R3)(hF:m9 s a)(M:ah.length≤1000)(S:rs.length≤1000)
 (I:0<ah.length→co=Ry ⟨cb,bk,RA⟩) (L:0<ah.length→cb<w.heap.size) (J:∀ j,j<ah.length→w.cell? ⟨cb,bk+j,RA⟩=Ry (.int .i64 (ah.getD j 0))) (R:cY w ro rb bq rs):
 Sc (aa.of Rz) 31 #[.string s,.slice co ah.length aF,.slice ro rs.length aI,.bool sk] w (tT w a ah rs sk):=by
 have x:=MB s a ah rs co cb bk aF ro rb bq aI sk w P hF M S I L J R;have r:RJ (m9 s a):=hF;clear I L J R hF M S P;go_enter aa.func31,Tryz.ntmps31
 go_wp2_with fail
 refine x.mono ?_;rintro aw d ⟨c,⟨Q,rfl⟩|⟨b,e,ae,al,am,ao,ar,a0,B,E,rfl,H,G,K,N⟩⟩
 ·have Y:=vQ a ah rs;have D:RQ w.heap.size w (d.alloc (.cells #[.slice RA 0 0,.slice RA 0 0,.slice RA 0 0,.slice RA 0 0,.slice RA 0 0,.bool RE] 115)):=c.alloc c.size _;have y:RJ _:=D;have ad:RJ (gO a ah rs≠0):=Q;clear c x D r;have z:RJ (∀ m,gO a ah rs=m→m≠0→∀ A,RQ w.heap.size w A→tT w a ah rs sk (.returned (.tuple #[.pointer RA,.int .i64 (m:Int)])) A):=fun m C W A Z=>⟨Z,.inl ⟨by rw[C];exact W,by rw[C]⟩⟩;generalize gO a ah rs=m at*;have X:m=3∨m=4∨m=5:=by omega
  clear Q Y;rcases X with rfl|rfl|rfl
  ·go_wp2;simp[TV,SD,Tryz.results31,go_sem];exact z.out 3 rfl (by decide) _ y.out
  ·go_wp2;simp[TV,SD,Tryz.results31,go_sem];exact z.out 4 rfl (by decide) _ y.out
  ·go_wp2;simp[TV,SD,Tryz.results31,go_sem];exact z.out 5 rfl (by decide) _ y.out
 ·have O:si b e:=by
   rw[B] at r;exact r.out.1.1
  obtain⟨n,h,l,g,k,V,cJ,ct,mj,i,U,f,p,ab,o,rfl,rfl,rfl,rfl,rfl,F,u⟩:=Om O H G K N;have t:RQ d.heap.size d ((d.alloc (.cells #[.slice (Ry ⟨n,0,RA⟩) b.length h,.slice (Ry ⟨l,0,RA⟩) b.length g,.slice k e.length cJ,.slice i ah.length f,.slice p rs.length o,.bool sk] 115)).alloc (.cells #[.slice (Ry ⟨n,0,RA⟩) b.length h,.slice (Ry ⟨l,0,RA⟩) b.length g,.slice k e.length cJ,.slice i ah.length f,.slice p rs.length o,.bool sk,.int .i64 0,.int .i64 0] 119)):=((R5 _ _).alloc (RG _) _).alloc (by simp) _;have T:RJ (tT w a ah rs sk (.returned (.tuple #[.pointer (Ry ⟨d.heap.size+1,0,RA⟩),.int .i64 0])) ((d.alloc (.cells #[.slice (Ry ⟨n,0,RA⟩) b.length h,.slice (Ry ⟨l,0,RA⟩) b.length g,.slice k e.length cJ,.slice i ah.length f,.slice p rs.length o,.bool sk] 115)).alloc (.cells #[.slice (Ry ⟨n,0,RA⟩) b.length h,.slice (Ry ⟨l,0,RA⟩) b.length g,.slice k e.length cJ,.slice i ah.length f,.slice p rs.length o,.bool sk,.int .i64 0,.int .i64 0] 119))):=
   ⟨c.trans (t.mono c.size),.inr ⟨b,e,d.heap.size+1,n,h,l,g,k,V,cJ,ct,mj,i,U,f,p,ab,o,B,E,rfl,by have:=c.size;omega,jz _ _ _,F.kept t.size (fun q v=>Cc.CE (t.block q (u q v).2)),fun q v=>⟨(u q v).1,by have:=(u q v).2;omega⟩⟩⟩
  clear c t x r F u G K N O H B E;go_wp2;simp[TV,SD,Tryz.results31,go_sem];exact T.out
theorem j5(cu:Nat)(w:RD):Sc (aa.of Rz) 36 #[.pointer (Ry ⟨cu,0,RA⟩)] w fun e w'=>e= .returned (.func (.func 53) #[] #[.pointer (Ry ⟨w.heap.size,0,RA⟩)])∧w'=w.alloc (.cells #[.pointer (Ry ⟨cu,0,RA⟩)] 74):=by
 have c:∀ (b:Fn) (first a:Array RB) (w:RD),(Instr.makeFunc b first a).run (aa.of Rz) w= .ok (.func b first a) w:=fun _ _ _ _=>rfl;go_enter aa.func36,Tryz.ntmps36;go_wp2;go_ret;exact⟨rfl,rfl⟩
theorem lG(cu:Nat)(v:RB)(w:RD)(h:w.cell? ⟨cu,7,RA⟩=Ry v):Sc (aa.of Rz) 32 #[.pointer (Ry ⟨cu,0,RA⟩)] w fun e w'=>e= .returned v∧w'=w:=by
 go_enter aa.func32,Tryz.ntmps32;go_wp2;go_ret;exact⟨rfl,rfl⟩
end Ec
namespace Cc
open Go Go.Conc
open Go.RowKit (Below)
open Ec (aD aE cj cY qv bO Bd aP gw tT oN j5 lG)
section
variable {P0 P:RM}{Post:RB→RD→Prop}{own:Nat→Prop}{cs:List RU}{w:RD}{b:RU}{a:TZ}{k:List Uk}{ops:Array Te}{i:Nat}{rest:List Nat}{o:Te}
theorem kP{d:RD}(e:∀ (b:Nat) o,w.heap[b]? =Ry o→aV P0 o→d.heap[b]? =Ry o){p:Sl}{v:RB}(h:w.cell? p=Ry v):d.cell? p=Ry v:=by
 unfold R2 at h ⊢;cases c:w.heap[p.block]? with
 |none=>rw[c] at h;cases h
 |some f=>
  rw[c] at h;cases f<;>first|(cases h;done)|skip
  rw[e _ _ c trivial];exact h
theorem Gf{f:RD}(e:∀ (b:Nat) o,w.heap[b]? =Ry o→aV P0 o→f.heap[b]? =Ry o)(m:w.heap.size≤f.heap.size){g:Option Sl}{b off:Nat}{l:List cj}(h:cY w g b off l):cY f g b off l:=
 ⟨h.addr,fun j=>RK (h.lt j) m,fun d c=>kP e (h.c0 d c),fun d c=>kP e (h.c1 d c),fun d c=>kP e (h.c2 d c),fun d c=>kP e (h.c3 d c),fun d c=>kP e (h.c4 d c),fun d c=>kP e (h.c5 d c),fun d c=>kP e (h.c6 d c)⟩
def ff (w:RD):Nat→Prop:=fun b=>b<w.heap.size
theorem PF{fr:RU}(h:∀ c,RelB own w c→Xe P0 P Post (ff c) fr cs c):Xe P0 P Post own fr cs w:=fun f c e d=>h c e (fun b h=>h) c (RelB.refl _ _) d
theorem pY(h:Twins P0 P){f:TH}{fn:Uj}{c:UR}{args:Array SG}{ats:Array RO}{vs:Array RB}{R:RD→RB→RD→Prop}(K:b.kind= .normal)(p:ops[i]? =Ry o)(W:Sn o (S2 ops a.tmps)=RF)(Q:o.op= .call {callee:=.value (.func f),args,argTypes:=ats})(I:args.map a.eval=vs)
 (M:P.funcs[f]? =Ry fn) (O:(fn.name == "runtime.NumGoroutine")=RE) (J:fn.body=Ry c) (N:P.funcs[f]? =P0.funcs[f]?) (T:ei P0 (b.at a (.inRegion ops (i :: rest) :: k)) [])
 (hR:∀ d,(∀ (b:Nat) o,w.heap[b]? =Ry o→aV P0 o→d.heap[b]? =Ry o)→w.heap.size≤d.heap.size→Sc P0 f vs d fun e W'=>Below d.heap.size d W'∧∃ v,e= .returned v∧R d v W')
 (G:∀ v d W' w',(∀ (b:Nat) o,w.heap[b]? =Ry o→aV P0 o→d.heap[b]? =Ry o)→w.heap.size≤d.heap.size→Below d.heap.size d W'→R d v W'→Un W' w'→RelB (ff w) w w'→Xe P0 P Post (ff w') (b.at (a.put o.dst v) (.inRegion ops rest :: k)) cs w'):Xe P0 P Post (ff w) (b.at a (.inRegion ops (i :: rest) :: k)) cs w:=by
 intro z;refine nV (P0:=P0) (R:=fun n e X=>∃ m,Mk P0 m n∧Tl m n (fun e W'=>∃ d,d.heap=m.heap∧Below d.heap.size d W'∧∃ v,e= .returned v∧R d v W') e X) K p W Q I M O J T (fun n g=>?_) (fun n v w' g V x S=>?_) (fun n Y w' ⟨_,_,_,_,_,_,d,_,_,v,e,_⟩=>by cases e) (fun n w' ⟨_,_,_,_,_,_,d,_,_,v,e,_⟩=>by cases e) z
 ·obtain⟨m,l⟩:=CH P0 n;intro B C q j E F;exact oB h l.hp l.un N (fun w' ⟨d,_,_,v,e,_⟩=>by cases e) (fun r=>(hR (sh r 0 m) (fun b o p t=>l.at_ b o ((g.at_ b (RH.1 p).1).trans p) t) (by show w.heap.size≤m.heap.size;rw[← l.un.size];exact g.size)).mono fun e W' ⟨q,j⟩=>⟨sh r 0 m,rfl,q,j⟩) B C q j E fun e w' L=>F e w' ⟨m,l,L⟩
 obtain⟨m,l,r,D,W',j,d,u,s,Z,e,H⟩:=V;cases e;have U:d.heap.size≤w'.heap.size:=by rw[j.un.size];exact s.size
 have y:d.heap.size=n.heap.size:=by rw[u,l.un.size]
 have hrel:RelB (ff w) w w':=⟨fun b A=>by
  have q:W'.heap[b]? =d.heap[b]? :=s.block b (by rw[y];exact RK (z b A) g.size);exact(j.same l.un (by rw[q,u])).trans (g.at_ b A),R4 g.size (by rw[← y];exact U),x.tape.trans g.tape,x.os.trans g.os,x.output.trans g.output⟩
 exact Xe.go (G v d (sh r D W') w' (fun b o p t=>by rw[u];exact l.at_ b o ((g.at_ b (RH.1 p).1).trans p) t) (by rw[y];exact g.size) s H ⟨j.un.size,j.un.at_,j.un.os,j.un.output⟩ hrel) (fun b h=>h) S
theorem LI{P:RM}{b:RU}{a:TZ}{todo:List Uk}{D:Nat}{m:FrameMode}(d:b.kind= .normal)(g:a.defers=[{target:=.collected D,args:= #[]}])(n:(todo.all (wM P))=RF):ei P {b.at a todo with mode:=m} []:=by
 refine⟨⟨fun i l=>?_,fun e h=>?_,.inl d⟩,fun f j=>by simp at j,d⟩
 ·have:=Sf.1 n i l;cases i<;>first|exact this|trivial|cases this
 ·have c:e∈a.defers:=h;rw[g] at c;simp only[List.mem_singleton] at c;subst c;rfl
theorem Gu{P:RM}{b:RU}{a:TZ}{todo:List Uk}{D:Nat}(c:b.kind= .normal)(d:a.defers=[{target:=.collected D,args:= #[]}])(e:(todo.all (wM P))=RF):ei P (b.at a todo) []:=LI (m:=.run) c d e
end
theorem rm{a:TZ}{x y z u:SG}{d e f c:RB}(h1:a.eval x=d)(g:a.eval y=e)(h:a.eval z=f)(j:a.eval u=c): #[x,y,z,u].map a.eval=#[d,e,f,c]:=by simp[h1,g,h,j]
def As (f:BS)(V:Nat→Nat→List aD):Prop:=match f with
 |none=>True
 |some (h,g)=>∀ (i:Nat) b,g[i]? =Ry b→∀ (c:Nat) e d,b.chunks[c]? =Ry e→h[c]? =Ry d→oe e.text d.1.kind d.2 (b.rows:Int) (V i c)
def qX (d:BS)(V:Nat→Nat→List aD)(ah:List Int)(rs:List cj)(sk:Bool)(Go:List cI→Bool):List cI×Nat×Nat:=match d with
 |none=>([],0,0)
 |some (e,c)=>fq sk c ah rs (aP e.length (ah ++ rs.map cj.col)) V Go 0 c.length [] 0
def cg (c:BS)(V:Nat→Nat→List aD)(ah:List Int)(rs:List cj)(sk:Bool):List (List aD)×Nat:=
 if gO c ah rs=0 then(if (qX c V ah rs sk fun _=>RF).2.2=0 then((qX c V ah rs sk fun _=>RF).1.map TK,0) else([],(qX c V ah rs sk fun _=>RF).2.2)) else([],gO c ah rs)
def qc (f:RD)(base:Nat)(v:RB)(j:List (List aD)):Prop:=
 ∃ d,f.ownsRow base 43 1 v j.length d∧(∀ (i:Nat) e,j[i]? =Ry e→∃ c,d[i]? =Ry c∧f.ownsRow base 59 3 c e.length (aE e))∧∀ (i h:Nat) c l g,d[i]? =Ry c→d[h]? =Ry l→c.ownBlock=Ry g→l.ownBlock=Ry g→i=h
def zh (c:List (List aD)×Nat)(w0:RD)(e:Uw)(w':RD):Prop:=
 ∃ v,e= .returned (.tuple #[v,.int .i64 (c.2:Int)])∧qc w' w0.heap.size v c.1∧(c.2≠0→v= .slice RA 0 0)∧(∀ b,b<w0.heap.size→w'.heap[b]? =w0.heap[b]?)∧w0.heap.size≤w'.heap.size
theorem PO:(Tryz.f31.name == "runtime.NumGoroutine")=RE:=by kernel_rfl
theorem Jv:(Tryz.f36.name == "runtime.NumGoroutine")=RE:=by kernel_rfl
theorem DW:(Tryz.f32.name == "runtime.NumGoroutine")=RE:=by kernel_rfl
theorem qc.nil(d:RD)(base:Nat):qc d base (.slice RA 0 0) []:=⟨[],T6 _ _ _ _,fun i j c=>by simp at c,fun i f h g e c=>by simp at c⟩
theorem Qa{s:ByteArray}{l:List (bO×Int)}{bs:List Bd}{ah:List Int}{rs:List cj}{V:Nat→Nat→List aD}(d:gw s l bs)(e:sB l.length ah rs=RF)(j:ah.length≤1000)(x:rs.length≤1000)(h:As (Ry (l,bs)) V):FQ l bs ah rs V:=by
 have u:l.length≤8:=by
  have:=d.1.pl.1.2.1;simpa using this
 have v:bs.length≤2000:=by
  have r:=Ec.xG bs (fun b c=>(d.1.bU b c).lo);have t:=d.1.rows;omega
 refine⟨fun b c=>by have:=(d.1.bU b c).len;simpa using this,by omega,by have:=d.1.pl.1.1;simp at this;omega,fun b c=>(d.1.bU b c).hi,d.1.rows,by omega,j,by unfold R3;omega,(vP.1 e).1,(vP.1 e).2,fun i b c g p q f n=>⟨?_,h i b c g p q f n⟩⟩;obtain⟨m,rfl⟩:=R8.1 f;have:=((d.1.bU b (Td c)).each g m).n;unfold R3;omega
def xL (fn:Uj):UR:=match fn.body with
 |some (.seq _ (.seq _ (.seq _ (.seq _ (.seq _ c)))))=>c
 |_=>.skip
section
variable {Post:RB→RD→Prop}{cs:List RU}{w:RD}{a:TZ}{c:RU}
theorem Knows.same{a a':TZ}{n:Nat}{l:List (Nat×RB)}(b:Knows a n l)(h:a'.tmps=a.tmps):Knows a' n l:=⟨by rw[h];exact b.size,fun s v d=>by unfold aS;rw[h];exact b.slot s v d⟩
theorem sb{D:Nat}{todo:List Uk}(f:a.defers=[{target:=.collected D,args:= #[]}])(e:w.heap[D]? =Ry (.deferred (Ry [])))(l:(todo.all (wM (aa.of Rz)))=RF){b:RU}(k:b.kind= .normal)
 (j:∀ a' w',a'.tmps=a.tmps→a'.defers=[]→w.heap.size≤w'.heap.size→(∀ x,x<w.heap.size→x≠D→w'.heap[x]? =w.heap[x]?)→w'.tape=w.tape→w'.os=w.os→w'.output=w.output→Xe (aa.of Rz) Rz Post (ff w') {b.at a' todo with mode:=.returning} cs w'):Xe (aa.of Rz) Rz Post (ff w) {b.at a todo with mode:=.returning} cs w:=by
 intro r q d n;have i:D<w.heap.size:=(RH.1 e).1;have h:q.heap[D]? =Ry (.deferred (Ry [])):=(d.at_ D i).trans e;refine AX dY f h (fun _ o=>Xe.go (j {a with defers:=[]} _ rfl rfl ?_ ?_ d.tape d.os d.output) (fun b g=>g) o) (LI k f l) n
 ·rw[World.putObj_size];exact d.size
 ·intro x p m;rw[World.putObj_heap_other m];exact d.at_ x p
structure Rm(w w':RD)(D:Nat):Prop where
 at_:∀ x,x<w.heap.size→x≠D→w'.heap[x]? =w.heap[x]?
 size:w.heap.size≤w'.heap.size
 tape:w'.tape=w.tape
 os:w'.os=w.os
 output:w'.output=w.output
theorem I2{cu rb D n e:Nat}{q:Array RB}{u:RB}(b:Knows a 40 [(12,.pointer (Ry ⟨rb,0,RA⟩)),(10,.pointer (Ry ⟨cu,0,RA⟩))])(s:a.defers=[{target:=.collected D,args:= #[]}])(x:w.heap[D]? =Ry (.deferred (Ry [])))(hc:w.heap[cu]? =Ry (.cells (iI q n e) 119 (0,0)))(X:q.size=6)(K:w.heap[rb]? =Ry (.cells #[u] 26 (0,0)))
 (I:∀ w',Rm w w' D→Xe (aa.of Rz) Rz Post (ff w') (c.finish (.tuple #[if e=0 then u else .slice RA 0 0,.int .i64 (e:Int)])) cs w'):Xe (aa.of Rz) Rz Post (ff w) ((base 13).at a [.inBlock 0,.code (xL Tz)]) (c :: cs) w:=by
 have d:=fZ (aa.of Rz) Rz Post;have O:(iI q n e)[7]? =Ry (.int .i64 (e:Int)):=by simp[iI,Array.getElem?_append,X]
 have ao:cu<w.heap.size:=(RH.1 hc).1;have L:rb<w.heap.size:=(RH.1 K).1;have C:D<w.heap.size:=(RH.1 x).1;have G:∀ h,(∀ (m:Nat) r,w.heap[m]? =Ry r→aV (aa.of Rz) r→h.heap[m]? =Ry r)→w.heap.size≤h.heap.size→Sc (aa.of Rz) 32 #[.pointer (Ry ⟨cu,0,RA⟩)] h fun f i=>Below h.heap.size h i∧∃ v,f= .returned v∧(v= .int .i64 (e:Int)∧i=h):=fun h o t=>(lG cu _ h (jI (o cu _ hc trivial) O)).mono fun f i ⟨N,F⟩=>⟨by rw[F];exact Below.refl _ _,_,N,rfl,F⟩;refine gP d ?_;refine aM d ?_;refine aM d ?_;refine aX d [0,1,2] rfl ?_;refine ak d (by decide) rfl rfl _ (ay rfl (b.of rfl)) ?_;replace b:=b.put (d:=34) (by decide) (.pointer (Ry ⟨cu,0,RA⟩));refine pY (vs:= #[.pointer (Ry ⟨cu,0,RA⟩)]) (R:=fun h v i=>v= .int .i64 (e:Int)∧i=h) dY rfl rfl rfl rfl (mO (b.of rfl)) Tryz.func32 DW rfl (jJ rfl rfl rfl).symm (Gu rfl (by simp only[put_defers];exact s) (by kernel_rfl)) G fun v h i ar o t P B S g=>?_;obtain⟨rfl,-⟩:=B;replace b:=b.put (d:=35) (by decide) (.int .i64 (e:Int));by_cases H:e=0
 ·subst H;refine ak d (by decide) rfl rfl _ (pH (c:=RE) rfl (b.of rfl) rfl (by decide)) ?_;replace b:=b.put (d:=36) (by decide) (.bool RE);refine aj d ?_;refine cN d RE (b.of rfl) ?_;refine gB d ?_;refine aM d ?_;refine aX d [0,1,2] rfl ?_;refine ej d (by decide) rfl rfl _ (bM rfl (b.of rfl) Tryz.isAgg26 (.inr (RK L g.size)) (jI ((g.at_ rb L).trans K) rfl)) ?_;replace b:=b.put (d:=39) (by decide) u;refine ak d (by decide) rfl rfl _ (aG rfl (b.of rfl)) ?_;replace b:=b.put (d:=8) (by decide) u;refine ak d (by decide) rfl rfl _ (aG rfl rfl) ?_;replace b:=b.put (d:=9) (by decide) (.int .i64 0);refine aj d ?_;refine nZ d ?_;refine sb (by simp only[put_defers];exact s) ((g.at_ D C).trans x) (by kernel_rfl) rfl fun M E A y Y T ab V ae=>?_;replace b:=b.same A;have p:=fO (P:=Rz) Tryz.results13 (b.slot 8 _ rfl) (b.slot 9 _ rfl);refine gA d rfl y Tryz.func13 p.1 p.2 ?_;have:=I E ⟨fun l k z=>(T l (RK k g.size) z).trans (g.at_ l k),R4 g.size Y,ab.trans g.tape,V.trans g.os,ae.trans g.output⟩;rw[if_pos rfl] at this;exact this
 ·refine ak d (by decide) rfl rfl _ (pH (c:=RF) rfl (b.of rfl) rfl (by simp;omega)) ?_;replace b:=b.put (d:=36) (by decide) (.bool RF);refine aj d ?_;refine cN d RF (b.of rfl) ?_;refine aM d ?_;refine aX d [0,1,2,3] rfl ?_;refine ak d (by decide) rfl rfl _ (ay rfl (b.of rfl)) ?_;replace b:=b.put (d:=37) (by decide) (.pointer (Ry ⟨cu,0,RA⟩));refine pY (vs:= #[.pointer (Ry ⟨cu,0,RA⟩)]) (R:=fun h v i=>v= .int .i64 (e:Int)∧i=h) dY rfl rfl rfl rfl (mO (b.of rfl)) Tryz.func32 DW rfl (jJ rfl rfl rfl).symm (Gu rfl (by simp only[put_defers];exact s) (by kernel_rfl)) (fun h o t=>G h (fun m r J R=>o m r ((g.at_ m (RH.1 J).1).trans J) R) (R4 g.size t)) fun v h i E o t P B S j=>?_;obtain⟨rfl,-⟩:=B;replace b:=b.put (d:=38) (by decide) (.int .i64 (e:Int));refine ak d (by decide) rfl rfl _ (aG rfl rfl) ?_;replace b:=b.put (d:=8) (by decide) (.slice RA 0 0);refine ak d (by decide) rfl rfl _ (aG rfl (b.of rfl)) ?_;replace b:=b.put (d:=9) (by decide) (.int .i64 (e:Int));refine aj d ?_;refine nZ d ?_;have Q:E.heap[D]? =Ry (.deferred (Ry [])):=(j.at_ D (RK C g.size)).trans ((g.at_ D C).trans x);refine sb (by simp only[put_defers];exact s) Q (by kernel_rfl) rfl fun M am A y Z U ad W al=>?_;replace b:=b.same A;have p:=fO (P:=Rz) Tryz.results13 (b.slot 8 _ rfl) (b.slot 9 _ rfl);refine gA d rfl y Tryz.func13 p.1 p.2 ?_;have:=I am ⟨fun l k z=>(U l (RK k (R4 g.size j.size)) z).trans ((j.at_ l (RK k g.size)).trans (g.at_ l k)),R4 g.size (R4 j.size Z),ad.trans (j.tape.trans g.tape),W.trans (j.os.trans g.os),al.trans (j.output.trans g.output)⟩;rw[if_neg H] at this;exact this
end
def Lz (fn:Uj):UR:=match fn.body with
 |some (.seq _ (.seq _ (.seq _ (.seq _ (.seq (.seq _ (.block _ c)) _)))))=>c
 |_=>.skip
section
variable {Post:RB→RD→Prop}{cs:List RU}{w:RD}{a:TZ}{c:RU}{l:List (bO×Int)}{bs:List Bd}{ah:List Int}{rs:List cj}{kb ck eb ce db:Nat}{dO:Option Sl}{ct mj:Nat→Nat}{co:Option Sl}{cb bk aF:Nat}{ro:Option Sl}{rb bq aI:Nat}{V:Nat→Nat→List aD}{cJ:Nat}{sk:Bool}{cu xb bx tV:Nat}
structure Oz(w w':RD)(tV cu bx:Nat)(q:Array RB)(res:List cI×Nat×Nat)(D:Nat)(rv:RB):Prop where
 d:w'.heap[D]? =Ry (.deferred (Ry []))
 dl:w.heap.size≤D
 c:w'.heap[cu]? =Ry (.cells (iI q res.2.1 res.2.2) 119 (0,0))
 b:w'.heap[bx]? =Ry (.cells #[rv] 26 (0,0))
 own:qc w' tV rv (res.1.map TK)
 keep:∀ x,x<tV→w'.heap[x]? =w.heap[x]?
 size:w.heap.size≤w'.heap.size
 tape:w'.tape=w.tape
 os:w'.os=w.os
 output:w'.output=w.output
theorem Fc(q:FQ l bs ah rs V)(hF:FM w l bs ah rs kb eb dO db ct mj co cb bk ro rb bq)(U:∀ x,ym kb eb db ct cb rb bs.length ah.length rs.length x→x<cu)(cc:tV≤cu)(cf:cu<bx)(cn:bx<xb)
 (hc:w.heap[cu]? =Ry (.cells (iI (fL kb l.length ck eb l.length ce dO bs.length cJ co ah.length aF ro rs.length aI sk) 0 0) 119 (0,0))) (O:w.heap[bx]? =Ry (.cells #[.slice RA 0 0] 26 (0,0))) (d:w.heap[xb]? =Ry (.cells #[.pointer (Ry ⟨cu,0,RA⟩)] 74 (0,0)))
 (f:Knows a 40 [(27,.func (.func 53) #[] #[.pointer (Ry ⟨xb,0,RA⟩)]),(12,.pointer (Ry ⟨bx,0,RA⟩)),(10,.pointer (Ry ⟨cu,0,RA⟩))]) (Q:a.defers=[])
 (R:∀ a' w' D E,Knows a' 40 [(12,.pointer (Ry ⟨bx,0,RA⟩)),(10,.pointer (Ry ⟨cu,0,RA⟩))]→a'.defers=[{target:=.collected D,args:= #[]}]→Oz w w' tV cu bx (fL kb l.length ck eb l.length ce dO bs.length cJ co ah.length aF ro rs.length aI sk) (fq sk bs ah rs (aP l.length (ah ++ rs.map cj.col)) V (fun _=>RF) 0 bs.length [] 0) D E→Xe (aa.of Rz) Rz Post (ff w') ((base 13).at a' [.inBlock 0,.code (xL Tz)]) (c :: cs) w'):
 Xe (aa.of Rz) Rz Post (ff w) ((base 13).at a [.code (Lz Tz),.inBlock 0,.code (xL Tz)]) (c :: cs) w:=by
 intro cd b n be;have bt:cu<w.heap.size:=(RH.1 hc).1;have br:bx<w.heap.size:=(RH.1 O).1;have bu:xb<w.heap.size:=(RH.1 d).1;have bm:=n.size;generalize t:zV (base 13).fn a.tmps #[28,29] (.region 6 (eW Tz) RE) (.block 1 (.region 7 (dJ Tz) RE)) b.heap.size=i;have T:pi i bx:=by
  rw[← t];exact⟨rfl,rfl,rfl,f.size,f.slot 12 _ rfl⟩
 generalize o:(b.alloc (.deferred (Ry []))).alloc (.loop i)=j;have a1:∀ x,x<b.heap.size→j.heap[x]? =b.heap[x]? :=fun x d=>by
  rw[← o];show((b.heap.push _).push _)[x]? =_;rw[Sp,if_neg (by simp;omega),Sp,if_neg (by omega)]
 have a2:j.heap[b.heap.size]? =Ry (.deferred (Ry [])):=by
  rw[← o];show((b.heap.push _).push _)[b.heap.size]? =_;rw[Sp,if_neg (by simp),Sp,if_pos rfl]
 have a3:j.heap[b.heap.size+1]? =Ry (.loop i):=by
  rw[← o];show((b.heap.push _).push _)[b.heap.size+1]? =_;rw[Sp,if_pos (by simp)]
 have ca:j.heap.size=b.heap.size+2:=by
  rw[← o];show((b.heap.push _).push _).size=_;simp
 have m:∀ x,x<w.heap.size→j.heap[x]? =w.heap[x]? :=fun x d=>(a1 x (by omega)).trans (n.at_ x d);let X:Nat→Prop:=fun x=>x=b.heap.size+1∨x=b.heap.size∨x=bx;have bl:i.state= .ready:=by rw[← t];rfl
 have bj:i.pending=RA:=by rw[← t];rfl
 have a5:jY (b.heap.size+1) b.heap.size bx i [] X j:=by
  refine⟨bl,bj,a3,a2,.slice RA 0 0,[],(m bx br).trans O,T6 _ _ _ _,fun u x h=>by simp at h,fun u cp v G e h=>by simp at h,fun x=>?_⟩;show(x=_∨x=_∨x=_)↔_;simp[Tf]
 have P:=He (Post:=Post) (cu:=cu) (xb:=xb) (n0:=0) (e0:=0) (IX (Post:=Post) (D:=b.heap.size) (l:=b.heap.size+1) T) q a5 (fun b1 a9 ci=>hF.kept (by omega) fun x d=>by
  have g:=U x d;refine fun bv bd a8=>a9 x (by omega) (fun h=>?_) (by omega) bv ((m x (by omega)).trans bd) a8;rcases h with h|h|h<;>omega) (fun aw h=>by
  have g:=U db (.inr (.inr (.inl ⟨aw,rfl⟩)));rcases h with h|h|h<;>omega) (fun h=>by rcases h with h|h|h<;>omega) (fun h=>by rcases h with h|h|h<;>omega) (by omega) ((m xb bu).trans d) ((m cu bt).trans hc)
 generalize fq sk bs ah rs (aP l.length (ah ++ rs.map cj.col)) V (fun _=>RF) 0 bs.length [] 0=bA at P R;subst o;subst t;refine KZ dY (g:=.tmp 27) (gf:=53) (cap:= #[.pointer (Ry ⟨xb,0,RA⟩)]) (f.of rfl) (fun args w=>aa.call53 args w) (.inl (jJ rfl rfl rfl).symm) P (fun v r a4 A=>?_) (fun b4 w' h=>by cases h.1) (fun w' h=>by cases h.1) (fun s h=>?_) (ep rfl Q (by kernel_rfl)) be
 ·obtain⟨-,⟨I,a6,bb⟩,bc,ba,cl⟩:=a4;obtain⟨ad,K,L,ae,E,bB,al,am,ao,ar,M⟩:=a6;refine CP dY L (xN T K) (by rw[ad];decide) K (by intro s;simp) ?_;intro _ bi;refine Xe.go (own:=ff _) (R _ _ b.heap.size E ?_ (by show _ :: a.defers=_;rw[Q]) ?_) (fun b3 h=>h) bi
  ·exact((f.nil.cons (f.slot 10 _ rfl)).cons (f.slot 12 _ rfl)).same rfl
  ·have a7:∀ x,I x→tV≤x:=fun x d=>by
    rcases bb x d with h|h
    ·rcases h with h|h|h<;>omega
    ·omega
   have ch:b.heap.size+1<r.heap.size:=by omega
   have p:∀ x,x≠b.heap.size+1→(r.putObj (b.heap.size+1) (.loop {zV (base 13).fn a.tmps #[28,29] (.region 6 (eW Tz) RE) (.block 1 (.region 7 (dJ Tz) RE)) b.heap.size with state:=.exhausted})).heap[x]? =r.heap[x]? :=fun x d=>World.putObj_heap_other d;have W:∀ {k:RO} {F C:Nat} {v:RB} {H:List RB},r.ownsRow 0 k F v C H→(∀ e,v.ownBlock=Ry e→I e)→(r.putObj (b.heap.size+1) (.loop {zV (base 13).fn a.tmps #[28,29] (.region 6 (eW Tz) RE) (.block 1 (.region 7 (dJ Tz) RE)) b.heap.size with state:=.exhausted})).ownsRow tV k F v C H:=fun {k F C v H} h bo=>by
    obtain⟨S,⟨g,N⟩|⟨e,Z,ab,g,N,y,a0⟩⟩:=h
    ·exact⟨S,.inl ⟨g,N⟩⟩
    ·refine⟨S,.inr ⟨e,Z,ab,g,a7 e (bo e (by rw[g];rfl)),(p e (fun k=>?_)).trans y,a0⟩⟩;rw[k,L] at y;cases y
   refine⟨(p _ (by omega)).trans ae,bm,(p _ (by omega)).trans ba,(p _ (by omega)).trans al,⟨bB,by rw[Sy];exact W am (fun e z=>(M e).2 (.inr (.inr (.inr (.inl z.symm))))),fun u x d=>?_,ar⟩,fun x d=>?_,?_,A.tape.trans n.tape,A.os.trans n.os,A.output.trans n.output⟩
   ·rw[List.getElem?_map] at d;cases B:bA.1[u]? with
    |none=>rw[B] at d;cases d
    |some b0=>
     rw[B] at d;simp only[TG,SY] at d;subst d;obtain⟨G,J,b2,Y⟩:=ao u b0 B;exact⟨G,J,W Y fun e z=>(M e).2 (.inr (.inr (.inr (.inr ⟨G,Td J,z.symm⟩))))⟩
   ·refine(p x (by omega)).trans ((bc x (by omega) (fun h=>?_) (by omega)).trans (m x (by omega)));rcases h with h|h|h<;>omega
   ·rw[World.putObj_size];omega
 ·rw[enter_at _ aa.func53 rfl] at h;cases h
end
end Cc
namespace Cc
open Go Go.Conc
open Go.RowKit (Below)
open Ec (aD aE cj cY qv bO Bd aP gw tT oN j5 lG vQ)
theorem Mv(w:RD):(TO 26).run Rz w= .ok (.slice RA 0 0) w:=Tryz.zeroValue26 w
section
variable {Post:RB→RD→Prop}{s:ByteArray}{F:BS}{V:Nat→Nat→List aD}{ah:List Int}{rs:List cj}{co:Option Sl}{cb bk aF:Nat}{ro:Option Sl}{rb bq aI:Nat}{sk:Bool}{w0:RD}
theorem xM(cf:s.size≤R3)(hF:m9 s F)(bs:As F V)(aw:ah.length≤1000)(a2:rs.length≤1000)
 (bA:0<ah.length→co=Ry ⟨cb,bk,RA⟩) (b0:0<ah.length→cb<w0.heap.size) (bB:∀ j,j<ah.length→w0.cell? ⟨cb,bk+j,RA⟩=Ry (.int .i64 (ah.getD j 0))) (cs:cY w0 ro rb bq rs):
 kA (aa.of Rz) Rz Post 13 #[.string s,.slice co ah.length aF,.slice ro rs.length aI,.bool sk] w0 (zh (cg F V ah rs sk) w0):=by
 intro dk dl a4 du cl ao;have b:=fZ (aa.of Rz) Rz Post;refine Xe.go (own:=ff w0) ?_ (fun c d=>d) cl;rw[enter_at _ Tryz.func13 rfl];have a:=Rg (.string s) (.slice co ah.length aF) (.slice ro rs.length aI) (.bool sk) 40 (by decide);refine aM b ?_;refine aX b [0,1] rfl ?_;refine ak b (by decide) rfl rfl _ (aG rfl rfl) ?_;replace a:=a.put (d:=8) (by decide) (.slice RA 0 0);refine ak b (by decide) rfl rfl _ (aG rfl rfl) ?_;replace a:=a.put (d:=9) (by decide) (.int .i64 0);refine aj b ?_;refine aM b ?_;refine aX b [0,1,2,3,4,5,6,7,8,9] rfl ?_;refine ak b (by decide) rfl rfl _ (ay rfl (a.of rfl)) ?_;replace a:=a.put (d:=16) (by decide) (.string s);refine ak b (by decide) rfl rfl _ (ay rfl (a.of rfl)) ?_;replace a:=a.put (d:=17) (by decide) (.slice co ah.length aF);refine ak b (by decide) rfl rfl _ (ay rfl (a.of rfl)) ?_;replace a:=a.put (d:=18) (by decide) (.slice ro rs.length aI);refine ak b (by decide) rfl rfl _ (ay rfl (a.of rfl)) ?_;replace a:=a.put (d:=19) (by decide) (.bool sk);refine pY (vs:= #[.string s,.slice co ah.length aF,.slice ro rs.length aI,.bool sk]) (R:=fun o v w=>tT o F ah rs sk (.returned v) w) dY rfl rfl rfl rfl (rm (a.of rfl) (a.of rfl) (a.of rfl) (a.of rfl)) Tryz.func31 PO rfl (jJ rfl rfl rfl).symm (ep rfl (by simp only[put_defers]) (by kernel_rfl)) (fun o K G=>?_) fun v o w u K G dq cv S g=>?_
 ·refine(oN s F ah rs co cb bk aF ro rb bq aI sk o cf hF aw a2 bA (fun d=>RK (b0 d) G) (fun j cc=>kP K (bB j cc)) (Gf K G cs)).mono fun l w d=>⟨d.1,?_⟩
  ·rcases d.2 with⟨_,rfl⟩|⟨q,f,h,T,bl,Q,bj,ab,O,cJ,ct,mj,Z,N,bi,a8,U,c9,_,_,rfl,_⟩
   ·exact⟨_,rfl,d⟩
   ·exact⟨_,rfl,d⟩
 ·rcases cv.2 with⟨ck,l⟩|⟨q,f,h,T,bl,Q,bj,ab,O,cJ,ct,mj,Z,N,bi,a8,U,c9,J,am,l,b1,L,bo,a6⟩
  ·have P:=U0 l;subst P;have ch:gO F ah rs≠0:=ck;generalize ci:gO F ah rs=m at*;replace a:=a.put (d:=20) (by decide) (.tuple #[.pointer RA,.int .i64 (m:Int)]);refine ak b (by decide) rfl rfl _ (ay rfl (a.of rfl)) ?_;replace a:=a.put (d:=15) (by decide) (.tuple #[.pointer RA,.int .i64 (m:Int)]);refine ak b (by decide) rfl rfl _ (bT rfl (a.of rfl) rfl) ?_;replace a:=a.put (d:=21) (by decide) (.pointer RA);refine ak b (by decide) rfl rfl _ (bT rfl (a.of rfl) rfl) ?_;replace a:=a.put (d:=22) (by decide) (.int .i64 (m:Int));refine ak b (by decide) rfl rfl _ (aG rfl (a.of rfl)) ?_;replace a:=a.put (d:=10) (by decide) (.pointer RA);refine ak b (by decide) rfl rfl _ (aG rfl (a.of rfl)) ?_;replace a:=a.put (d:=11) (by decide) (.int .i64 (m:Int));refine aj b ?_;refine aM b ?_;refine aM b ?_;refine aX b [0,1] rfl ?_;refine ak b (by decide) rfl rfl _ (ay rfl (a.of rfl)) ?_;replace a:=a.put (d:=23) (by decide) (.int .i64 (m:Int));refine ak b (by decide) rfl rfl _ (pH (c:=RF) rfl (a.of rfl) rfl (by simp;omega)) ?_;replace a:=a.put (d:=24) (by decide) (.bool RF);refine aj b ?_;refine cN b RF (a.of rfl) ?_;refine aM b ?_;refine aX b [0,1,2] rfl ?_;refine ak b (by decide) rfl rfl _ (ay rfl (a.of rfl)) ?_;replace a:=a.put (d:=25) (by decide) (.int .i64 (m:Int));refine ak b (by decide) rfl rfl _ (aG rfl rfl) ?_;replace a:=a.put (d:=8) (by decide) (.slice RA 0 0);refine ak b (by decide) rfl rfl _ (aG rfl (a.of rfl)) ?_;replace a:=a.put (d:=9) (by decide) (.int .i64 (m:Int));refine aj b ?_;refine nZ b ?_;have a1:=fO (P:=Rz) Tryz.results13 (a.slot 8 _ rfl) (a.slot 9 _ rfl);refine gA b rfl (by simp only[put_defers]) Tryz.func13 a1.1 a1.2 ?_;intro _ I i cn;have A:cg F V ah rs sk=([],m):=by
    unfold cg;rw[ci,if_neg ch]
   refine ao (.returned (.tuple #[.slice RA 0 0,.int .i64 (m:Int)])) I ⟨.slice RA 0 0,by rw[A],by rw[A];exact qc.nil _ _,fun _=>rfl,fun c e=>(i.at_ c (RK e g.size)).trans (g.at_ c e),R4 g.size i.size⟩ cn ⟨i.tape.trans g.tape,i.os.trans g.os,i.output.trans g.output,R4 g.size i.size⟩ (lI a4 _)
  ·have P:=U0 l;subst P;have b2:w0.heap.size≤h:=R4 G b1;replace L:=S.row.1 L;have br:FM u q f ah rs T Q ab O ct mj Z N 0 a8 U 0:=bo.kept (by rw[S.size];exact RG _) (fun c _=>KS S);have c3:h<u.heap.size:=(RH.1 L).1;replace a:=a.put (d:=20) (by decide) (.tuple #[.pointer (Ry ⟨h,0,RA⟩),.int .i64 0]);refine ak b (by decide) rfl rfl _ (ay rfl (a.of rfl)) ?_;replace a:=a.put (d:=15) (by decide) (.tuple #[.pointer (Ry ⟨h,0,RA⟩),.int .i64 0]);refine ak b (by decide) rfl rfl _ (bT rfl (a.of rfl) rfl) ?_;replace a:=a.put (d:=21) (by decide) (.pointer (Ry ⟨h,0,RA⟩));refine ak b (by decide) rfl rfl _ (bT rfl (a.of rfl) rfl) ?_;replace a:=a.put (d:=22) (by decide) (.int .i64 0);refine ak b (by decide) rfl rfl _ (aG rfl (a.of rfl)) ?_;replace a:=a.put (d:=10) (by decide) (.pointer (Ry ⟨h,0,RA⟩));refine ak b (by decide) rfl rfl _ (aG rfl (a.of rfl)) ?_;replace a:=a.put (d:=11) (by decide) (.int .i64 0);refine aj b ?_;refine aM b ?_;refine aM b ?_;refine aX b [0,1] rfl ?_;refine ak b (by decide) rfl rfl _ (ay rfl (a.of rfl)) ?_;replace a:=a.put (d:=23) (by decide) (.int .i64 0);refine ak b (by decide) rfl rfl _ (pH (c:=RE) rfl (a.of rfl) rfl (by decide)) ?_;replace a:=a.put (d:=24) (by decide) (.bool RE);refine aj b ?_;refine cN b RE (a.of rfl) ?_;refine gB b ?_;refine aM b ?_;refine aX b [0] rfl ?_;refine kM b (fun c e=>e.elim Vt (fun d=>d)) (by decide) rfl rfl (.cells #[.slice RA 0 0] 26) trivial (fun H=>.pointer (Ry ⟨H,0,RA⟩)) (rK rfl Mv) fun B dT dt dC E bx=>?_;replace a:=a.put (d:=12) (by decide) (.pointer (Ry ⟨B,0,RA⟩));refine aj b ?_;refine PF fun I i=>?_;have x:RelB (ff u) u I:=⟨fun c e=>(i.at_ c (.inl e)).trans (E.at_ c (.inr e)),R4 E.size i.size,i.tape.trans E.tape,i.os.trans E.os,i.output.trans E.output⟩;have ar:I.heap[B]? =Ry (.cells #[.slice RA 0 0] 26 (0,0)):=(i.at_ B (.inr rfl)).trans bx;have c2:B<I.heap.size:=(RH.1 ar).1;refine aM b ?_;refine aM b ?_;refine aX b [0,1] rfl ?_;refine ak b (by decide) rfl rfl _ (ay rfl (a.of rfl)) ?_;replace a:=a.put (d:=26) (by decide) (.pointer (Ry ⟨h,0,RA⟩));refine pY (vs:= #[.pointer (Ry ⟨h,0,RA⟩)]) (R:=fun o v w=>v= .func (.func 53) #[] #[.pointer (Ry ⟨o.heap.size,0,RA⟩)]∧w=o.alloc (.cells #[.pointer (Ry ⟨h,0,RA⟩)] 74)) dY rfl rfl rfl rfl (mO (a.of rfl)) Tryz.func36 Jv rfl (jJ rfl rfl rfl).symm (ep rfl (by simp only[put_defers]) (by kernel_rfl)) (fun o K G=>(j5 h o).mono fun l w ⟨al,C⟩=>⟨by rw[C];exact(Below.refl _ _).alloc (RG _) _,_,al,rfl,C⟩) fun v be dc ba ds dv dr cx bu y=>?_;obtain⟨rfl,bt⟩:=cx;generalize c0:be.heap.size=bc at*;have cR:ba.heap[bc]? =Ry (.cells #[.pointer (Ry ⟨h,0,RA⟩)] 74 (0,0)):=by
    refine bu.row.1 ?_;rw[bt,← c0];exact Ec.bG _ _
   replace a:=a.put (d:=27) (by decide) (.func (.func 53) #[] #[.pointer (Ry ⟨bc,0,RA⟩)]);refine aj b ?_;refine fG b ?_;have bv:sB q.length ah rs=RF:=by
    obtain⟨dE,df,ad,bm,_⟩:=sC am;rw[J] at ad;cases ad;exact bm
   have b4:gw s q f:=by
    rw[J] at hF;exact hF.1
   have p:RelB (ff u) u ba:=⟨fun c e=>(y.at_ c (RK e x.size)).trans (x.at_ c e),R4 x.size y.size,y.tape.trans x.tape,y.os.trans x.os,y.output.trans x.output⟩;have ce:∀ n,ym T Q O ct N U f.length ah.length rs.length n→n<u.heap.size:=fun n t=>by have:=(a6 n t).2;omega
   refine Fc (tV:=w0.heap.size) (Qa b4 bv aw a2 (J▸bs)) (br.kept p.size fun n t=>CE (p.at_ n (ce n t))) (fun n t=>(a6 n t).2) b2 (by omega) (by omega) ((p.at_ h c3).trans L) ((y.at_ B c2).trans ar) cR (((a.nil.cons (a.slot 10 _ rfl)).cons (a.slot 12 _ rfl)).cons (a.slot 27 _ rfl)) (by simp only[put_defers]) fun dd bb D a9 bd b3 k=>?_;refine I2 bd b3 k.d k.c rfl k.b fun d0 r=>?_;intro _ M z cp;have a5:w0.heap.size≤bb.heap.size:=R4 g.size (R4 p.size k.size);have cu:qX F V ah rs sk (fun _=>RF)=fq sk f ah rs (aP q.length (ah ++ rs.map cj.col)) V (fun _=>RF) 0 f.length [] 0:=by rw[J];rfl
   have A:cg F V ah rs sk=if (fq sk f ah rs (aP q.length (ah ++ rs.map cj.col)) V (fun _=>RF) 0 f.length [] 0).2.2=0 then((fq sk f ah rs (aP q.length (ah ++ rs.map cj.col)) V (fun _=>RF) 0 f.length [] 0).1.map TK,0) else([],(fq sk f ah rs (aP q.length (ah ++ rs.map cj.col)) V (fun _=>RF) 0 f.length [] 0).2.2):=by
    unfold cg;rw[if_pos am,cu]
   generalize fq sk f ah rs (aP q.length (ah ++ rs.map cj.col)) V (fun _=>RF) 0 f.length [] 0=W at*;have dO:w0.heap.size≤D:=R4 g.size (R4 p.size k.dl);have cd:∀ c,c<w0.heap.size→M.heap[c]? =w0.heap[c]? :=fun c e=>(z.at_ c (RK e (R4 a5 r.size))).trans ((r.at_ c (by omega) (by omega)).trans ((k.keep c e).trans ((p.at_ c (RK e g.size)).trans (g.at_ c e))));have a3:w0.heap.size≤M.heap.size:=R4 a5 (R4 r.size z.size);refine ao (.returned (.tuple #[if W.2.2=0 then a9 else .slice RA 0 0,.int .i64 (W.2.2:Int)])) M ⟨if W.2.2=0 then a9 else .slice RA 0 0,?_,?_,?_,cd,a3⟩ cp ⟨z.tape.trans (r.tape.trans (k.tape.trans (p.tape.trans g.tape))),z.os.trans (r.os.trans (k.os.trans (p.os.trans g.os))),z.output.trans (r.output.trans (k.output.trans (p.output.trans g.output))),a3⟩ (lI a4 _)
   ·rw[A]
    split
    ·rename_i R;rw[R]
    ·rfl
   ·rw[A]
    split
    ·obtain⟨db,c4,c5,c6⟩:=k.own;have a7:∀ {l:RO} {X H:Nat} {v:RB} {Y:List RB},bb.ownsRow w0.heap.size l X v H Y→M.ownsRow w0.heap.size l X v H Y:=fun {l X H v Y} d=>jb d (RG _) fun ae ca al C=>by
      refine(z.at_ ae (RK C r.size)).trans (r.at_ ae C fun l=>?_);obtain⟨dp,a0⟩:=Ec.ES d ca;rw[l,k.d] at a0;cases a0
     exact⟨db,a7 c4,fun c1 n t=>by
      obtain⟨da,c7,c8⟩:=c5 c1 n t;exact⟨da,c7,a7 c8⟩,c6⟩
    ·exact qc.nil _ _
   ·rw[A];intro d
    split at d
    ·exact absurd rfl d
    ·rename_i R;rw[if_neg R]
end
end Cc
namespace Cc
open Go Go.Conc
open Ec
theorem F3(s:ByteArray)(w0:RD)(e:s.size≤R3):∃ b,m9 s b:=by
 obtain⟨k,m,l,⟨_,a⟩,_⟩:=zI s w0 e [];rcases a with⟨f,bs,g,h,i,j,_,c,_,_,d⟩|⟨_,a⟩
 ·exact⟨Ry (f,bs),c,d⟩
 ·exact⟨RA,a⟩
theorem NH(s:ByteArray)(k e cn:Int)(w0:RD)(g:s.size≤R3):∃ vs,oe s k e cn vs:=by
 obtain⟨n,m,j,⟨_,a⟩,_⟩:=oA s k e cn w0 g [];rcases a with⟨a,_⟩|⟨b,rfl,d,c,l,⟨v,i,_,_,f⟩|⟨_,h⟩⟩
 ·exact⟨[],.inr ⟨rfl,.inl a⟩⟩
 ·exact⟨i,.inl ⟨b,rfl,d,c,f⟩⟩
 ·exact⟨[],.inr ⟨rfl,.inr ⟨b,rfl,h⟩⟩⟩
theorem CC{s:ByteArray}{i:BS}(w0:RD)(hF:m9 s i):∃ V,As i V:=by
 cases i with
 |none=>exact⟨fun _ _=>[],trivial⟩
 |some v=>
  obtain⟨p,bs⟩:=v;have o:∀ e c:Nat,∃ l,∀ b d a,bs[e]? =Ry b→b.chunks[c]? =Ry d→p[c]? =Ry a→oe d.text a.1.kind a.2 (b.rows:Int) l:=fun e c=>by
   cases k:bs[e]? with
   |none=>exact⟨[],fun b d a h=>by cases h⟩
   |some b=>
    cases g:b.chunks[c]? with
    |none=>exact⟨[],fun m d a h f=>by cases h;rw[g] at f;cases f⟩
    |some d=>
     cases n:p[c]? with
     |none=>exact⟨[],fun m d a h f j=>by cases j⟩
     |some a=>
      have t:d.text.size≤R3:=by
       obtain⟨r,rfl⟩:=R8.1 g;have:=((hF.1.1.bU b (Td k)).each c r).n;unfold R3;omega
      obtain⟨l,u⟩:=NH d.text a.1.kind a.2 (b.rows:Int) w0 t;exact⟨l,fun m w x q f j=>by
       cases q;rw[g] at f;cases f;cases j;exact u⟩
  exact⟨fun e c=>S0 (o e c),fun e b k c d a g n=>RY (o e c) b d a k g n⟩
theorem wi:∀ (a pre:List cI),feed (fun _=>RF) pre a=(pre ++ a,RF)
 | [],pre=>by simp[feed]
 |x :: a,pre=>by
  rw[sS,if_pos rfl,wi a (pre ++ [x])];simp
section
variable {bs:List Bd}{ah:List Int}{rs:List cj}{ws:List Bool}{V:Nat→Nat→List aD}
theorem Bi(sk:Bool)(Go:List cI→Bool):∀ (r i:Nat) (pre:List cI) (n:Nat),(fq sk bs ah rs ws V Go i r pre n).2.2=0∨(fq sk bs ah rs ws V Go i r pre n).2.2=3
 |0,i,pre,n=>.inl rfl
 |r+1,i,pre,n=>by
  rw[fq]
  split
  ·exact Bi sk Go r _ _ _
  ·split
   ·split
    ·exact Bi sk Go r _ _ _
    ·exact .inl rfl
   ·exact .inr rfl
theorem oV(sk:Bool)(r i:Nat)(pre:List cI)(n:Nat):fq sk bs ah rs ws V (fun _=>RF) i (r+1) pre n=if sk && xd bs rs i then fq sk bs ah rs ws V (fun _=>RF) (i+1) r pre n else if EN bs ws V i then fq sk bs ah rs ws V (fun _=>RF) (i+1) r (pre ++ ix bs ah rs V i) (n+1) else(pre,n+1,3):=by
 rw[fq,wi];simp
theorem xI:∀ (r i:Nat) (pre b:List cI) (n d:Nat),(fq RE bs ah rs ws V (fun _=>RF) i r pre n).2.2=0→b.Sublist pre→(fq RF bs ah rs ws V (fun _=>RF) i r b d).2.2=0∧(fq RF bs ah rs ws V (fun _=>RF) i r b d).1.Sublist (fq RE bs ah rs ws V (fun _=>RF) i r pre n).1
 |0,i,pre,b,n,d,a,c=>⟨rfl,c⟩
 |r+1,i,pre,b,n,d,a,c=>by
  rw[oV] at a;rw[oV RF,oV RE];simp only[Bool.false_and,Sa,if_false,Bool.true_and] at a ⊢;cases e:EN bs ws V i with
  |false=>rw[e] at a;simp at a
  |true=>
   rw[e] at a;simp only[if_true] at a ⊢
   split
   ·exact xI r (i+1) _ _ _ _ a (c.trans (List.sublist_append_left _ _))
   ·exact xI r (i+1) _ _ _ _ a (c.append (V8 _))
end
theorem IZ{a:BS}{V:Nat→Nat→List aD}{ah:List Int}{rs:List cj}(h:(cg a V ah rs RE).2=0):(cg a V ah rs RF).2=0∧(cg a V ah rs RF).1.Sublist (cg a V ah rs RE).1:=by
 unfold cg at h ⊢;by_cases b:gO a ah rs=0
 ·simp only[b,if_true] at h ⊢;obtain⟨f,bs,rfl,_⟩:=sC b;simp only[qX] at h ⊢;by_cases c:(fq RE bs ah rs (aP f.length (ah ++ rs.map cj.col)) V (fun _=>RF) 0 bs.length [] 0).2.2=0
  ·obtain⟨d,e⟩:=xI bs.length 0 [] [] 0 0 c (V8 _);simp only[c,d,if_true];exact⟨trivial,e.map _⟩
  ·simp only[c,if_false] at h
 ·simp only[b,if_false] at h
theorem IY{a:BS}{V:Nat→Nat→List aD}{ah:List Int}{rs:List cj}(h:(cg a V ah rs RE).2≠0):(cg a V ah rs RE).2=3∨(cg a V ah rs RE).2=(cg a V ah rs RF).2:=by
 unfold cg at h ⊢;by_cases b:gO a ah rs=0
 ·simp only[b,if_true] at h ⊢;obtain⟨d,bs,rfl,_⟩:=sC b;simp only[qX] at h ⊢;rcases Bi (bs:=bs) (ah:=ah) (rs:=rs) (ws:=aP d.length (ah ++ rs.map cj.col)) (V:=V) RE (fun _=>RF) bs.length 0 [] 0 with c|c
  ·simp only[c,if_true] at h;exact absurd rfl h
  ·left
   simp[c]
 ·simp only[b,if_false];exact .inr trivial
end Cc
namespace Ec
open Go.RowKit Pk Pm
theorem vX:∀ A B C:List UInt8,S8 A B≤0→S8 B C≤0→S8 A C≤0
 | [],B,[],_,_=>by simp[S8]
 | [],B,_ :: _,_,_=>by simp[S8]
 |_ :: _,[],C,b,_=>by simp[S8] at b
 |_ :: _,_ :: _,[],_,b=>by simp[S8] at b
 |a :: A,h :: B,i :: C,b,c=>by
  have f:=vX A B C;simp only[S8] at b c ⊢;have g:∀ d e:UInt8,d<e↔d.toNat<e.toNat:=fun d e=>UInt8.lt_iff_toNat_lt;simp only[g] at b c ⊢
  split at b
  ·split at c
   ·rw[if_pos (by omega)];omega
   ·split at c
    ·omega
    ·rw[if_pos (by omega)];omega
  ·split at b
   ·omega
   ·split at c
    ·rw[if_pos (by omega)];omega
    ·split at c
     ·omega
     ·rw[if_neg (by omega),if_neg (by omega)];exact f b c
theorem yp{x y z:aD}(h:iN x y≤0)(a:iN y z≤0):iN x z≤0:=by
 unfold iN at h a ⊢
 split at h
 ·split at a
  ·rw[if_pos (by omega)];omega
  ·split at a
   ·omega
   ·rw[if_pos (by omega)];omega
 ·split at h
  ·omega
  ·split at a
   ·rw[if_pos (by omega)];omega
   ·split at a
    ·omega
    ·rw[if_neg (by omega),if_neg (by omega)];exact vX _ _ _ h a
def BQ (l:List aD)(b:kL):Prop:=(b=bZ∧∀ a∈l,a.null=RF)∨(b.there=RF∧b.least∈l∧b.least.null=RE∧b.most∈l∧b.most.null=RE∧∀ a∈l,a.null=RE→iN b.least a≤0∧iN a b.most≤0)
theorem Ee{l:List aD}{b:kL}(h:BQ l b)(v:aD):BQ (l ++ [v]) (mh b v):=by
 unfold mh;cases f:v.null with
 |true=>
  rw[if_pos rfl];rcases h with⟨g,e⟩|⟨g,e,i,j,k,m⟩
  ·refine .inl ⟨g,fun d a=>?_⟩;rcases SM.1 a with a|a
   ·exact e d a
   ·simp at a;rw[a];exact f
  ·refine .inr ⟨g,List.mem_append_left _ e,i,List.mem_append_left _ j,k,fun d a c=>?_⟩;rcases SM.1 a with a|a
   ·exact m d a c
   ·simp at a;rw[a,f] at c;cases c
 |false=>
  rw[if_neg (by simp)];rcases h with⟨rfl,e⟩|⟨g,e,i,j,k,m⟩
  ·refine .inr ⟨rfl,?_,?_,?_,?_,fun d a c=>?_⟩
   ·simp[bZ]
   ·simp[bZ,f]
   ·simp[bZ]
   ·simp[bZ,f]
   ·rcases SM.1 a with a|a
    ·rw[e d a] at c;cases c
    ·simp at a;subst a;simp[bZ,tQ]
  ·have p:v∈l ++ [v]:=by simp
   refine .inr ⟨rfl,?_,?_,?_,?_,fun d a c=>?_⟩
   ·dsimp only;split
    ·exact p
    ·exact List.mem_append_left _ e
   ·dsimp only;split
    ·exact f
    ·exact i
   ·dsimp only;split
    ·exact p
    ·exact List.mem_append_left _ j
   ·dsimp only;split
    ·exact f
    ·exact k
   ·dsimp only;simp only[g,Bool.true_eq_false,false_or];rcases SM.1 a with a|a
    ·obtain⟨n,o⟩:=m d a c;constructor
     ·split
      ·rename_i h;exact yp (by omega) n
      ·exact n
     ·split
      ·rename_i h;exact yp o (by have:=tP v b.most;omega)
      ·exact o
    ·simp at a;subst a;constructor
     ·split
      ·rw[tQ];omega
      ·rename_i h;have:=tP b.least d;omega
     ·split
      ·rw[tQ];omega
      ·rename_i h;omega
theorem P7(l:List aD):BQ l (bQ l):=by
 have g:∀ (a l:List aD) (b:kL),BQ l b→BQ (l ++ a) (a.foldl mh b):=by
  intro a
  induction a with
  |nil=>intro l b c;simpa using c
  |cons d a f=>
   intro l b c;have:=f (l ++ [d]) _ (Ee c d);rw[R9] at this;exact this
 exact g l [] bZ (.inl ⟨rfl,fun d e=>by cases e⟩)
theorem OH{k:Int}{l:List aD}(h:∀ x∈l,VC k x):Jz k (bQ l):=by
 rcases P7 l with⟨b,_⟩|⟨b,c,d,f,g,i⟩
 ·exact .inl b
 ·have e:∀ x∈l,x.null=RE→VK k x:=fun x m j=>by
   rcases h x m with⟨a,_⟩|a
   ·rw[j] at a;cases a
   ·exact a
  exact .inr ⟨b,e _ c d,e _ f g,by have:=(i _ c d).2;omega⟩
theorem rD{α:Type}{f:α→List Nat}{l:List α}(h:∀ a∈l,∀ x∈f a,x<256):∀ x∈l.flatMap f,x<256:=fun x b=>by
 obtain⟨a,c,b⟩:=List.mem_flatMap.1 b;exact h a c x b
theorem jA{a b:List Nat}(h1:∀ x∈a,x<256)(c:∀ x∈b,x<256):∀ x∈a ++ b,x<256:=fun x d=>(SM.1 d).elim (h1 x) (c x)
theorem G0(k:Int)(b:kL):∀ x∈bL k b,x<256:=by
 unfold bL
 split
 ·exact jA (by simp) (jA (td _ _) (td _ _))
 ·simp
theorem MO(cs:List bO)(es:List Int)(i:Nat):∀ x∈AI cs es i,x<256:=by
 unfold AI;refine jA (jV _) (jA (iH _) fun x a=>?_);simp only[Tq,U7,or_false] at a;rcases a with rfl|rfl<;>exact mS _
theorem Lc(cs:List bO)(l:List ju)(n:Nat):∀ x∈ek cs l n,x<256:=by
 unfold ek;refine rD fun a _=>?_;unfold qA;exact jA (jV _) (G0 _ _)
theorem Ky(cs:List bO)(es:List Int)(bs:List Bd):∀ x∈iX cs es bs,x<256:=by
 unfold iX;refine jA (jV _) (jA (rD fun a _=>MO cs es a) (jA (jV _) (rD fun b _=>?_)));unfold dW;exact jA (jV _) (Lc _ _ _)
theorem CG:∀ x∈de,x<256:=by decide
theorem M8(n:Nat):∀ x∈gu n,x<256:=by
 intro x a;unfold gu at a;simp only[Tq,U7,or_false] at a;omega
theorem Kv(cs:List bO)(es:List Int)(bs:List Bd):∀ x∈ua cs es bs,x<256:=by
 unfold ua;exact jA CG (jA (rD fun a _=>rD fun b _=>iH _) (jA (Ky _ _ _) (jA (M8 _) CG)))
section
variable {cs:List bO}{rows:List (List aD)}{es:List Int}{bd:Nat}
theorem vD(h:qj cs rows es bd):(cs.zip es).map Sb=cs:=List.map_fst_zip (by rw[h.Hr];exact RG _)
theorem GL(h:qj cs rows es bd):(cs.zip es).map TK=es:=List.map_snd_zip (by rw[h.Hr];exact RG _)
theorem F1(rows:List (List aD)){bd:Nat}(a:0<bd):∀ n,((Sw n).map fun j=>(dI rows bd j).length).sum=min (n*bd) rows.length
 |0=>by simp
 |n+1=>by
  rw[Vf,SQ,List.sum_append,F1 rows a n];simp only[UP,List.map_nil,List.sum_cons,List.sum_nil,gC,Nat.succ_mul];omega
theorem D9(h:qj cs rows es bd)(b:Bool):fC (dh rows cs es b bd (eY rows.length bd))=rows.length:=by
 unfold fC dh;rw[List.map_map];have:=F1 rows h.lo (eY rows.length bd);have d:((fun c:Bd=>c.rows) ∘ fun a=>mg (dI rows bd a) cs es b)=fun a=>(dI rows bd a).length:=rfl;rw[d,this];have f:¬ eY rows.length bd*bd<rows.length:=fun e=>Nat.lt_irrefl _ ((oz (len:=rows.length) h.lo (eY rows.length bd)).1 e);omega
theorem qj.vc(h:qj cs rows es bd)(j p:Nat)(a:p<cs.length):∀ x∈bJ (dI rows bd j) p,VC cs[p].kind x:=by
 intro x e;unfold bJ at e;obtain⟨f,k,rfl⟩:=S5.1 e;have d:=Cm k;obtain⟨m,g,l⟩:=To d;have c:=h.table.2.2 m g;rw[l] at c;have b:p<f.length:=by rw[c.1];exact a
 have i:=c.2 p b a;rw[RX,RS b];exact Jp (oI h.table.1 _ (RV a)) (h.vals f d _ (RV b)) i
theorem wK(h:qj cs rows es bd)(a:Bool)(k:(jw cs rows es a bd).length≤65536):gw (strOf (jw cs rows es a bd)) (cs.zip es) (dh rows cs es a bd (eY rows.length bd)):=by
 refine⟨⟨⟨by rw[vD h];exact h.table.1,by rw[vD h,GL h];exact h.mF⟩,fun m e=>?_,by rw[D9 h a];exact h.table.2.1⟩,by rw[lW];exact k,?_⟩
 ·rw[vD h];unfold dh at e;obtain⟨b,i,rfl⟩:=S5.1 e;have q:=(oz (len:=rows.length) h.lo b).2 (Tg.1 i);have f:(mg (dI rows bd b) cs es a).rows=min bd (rows.length - b*bd):=gC;have n:=h.lo;have o:=h.hi;refine⟨by rw[f];omega,by rw[f];omega,dn _ _ _ _ _,fun c p=>?_⟩;have d:c<cs.length:=by
   have:(mg (dI rows bd b) cs es a).chunks.length=cs.length:=dn _ _ _ _ _;omega
  have g:(mg (dI rows bd b) cs es a).chunks[c]=Cf (dI rows bd b) cs es a c:=by simp[mg,cE]
  rw[g];have l:Cf (dI rows bd b) cs es a c∈cE (dI rows bd b) cs es a cs.length:=S5.2 ⟨c,Tg.2 d,rfl⟩;have r:=(h.chunks a b _ l).1;refine⟨by omega,?_⟩;have j:(cs.getD c ⟨⟨#[]⟩,0⟩).kind=cs[c].kind:=by rw[RX,RS d];rfl
  rw[j,h.lF a b c d];cases a with
  |false=>exact .inl rfl
  |true=>exact OH (h.vc b c d)
 ·unfold jw;rw[qm _ (Kv _ _ _)];unfold ua;rw[← Kx,vD h,GL h]
end
theorem K8{cs:List bO}{b:List (List aD)}{es:List Int}{a:Int}(h:fF cs b)(d:kF a es cs)(e:∀ r∈b,∀ x∈r,D5 x):qj cs b es a.toNat∧a=(a.toNat:Int):=by
 obtain⟨f,g,c⟩:=d;exact⟨⟨h,c,by omega,by omega,e⟩,by omega⟩
theorem Fb(cs:List bO)(a:List (List aD))(b:Int)(es:List Int)(c:Bool)(a0 ba a1:RB)(w:RD)(ab:cs.length≤R3)(a5:a.length≤R3)(a6:∀ r∈a,r.length≤R3)(a7:es.length≤R3)(a9:∀ r∈a,∀ x∈r,D5 x)
 (G:yy w a0 cs) (Q:Av w ba a) (O:qi w a1 es):
 Sc (aa.of Rz) 20 #[.agg #[a0,ba],.agg #[.int .i64 b,a1,.bool c]] w fun e w'=>∃ s n,e= .returned (.tuple #[.string s,.int .i64 n])∧JK cs a b es c s n∧RQ w.heap.size w w':=by
 have bl:=G;have bo:=Q;have bm:=O;obtain⟨f,bt,bk,aF,rfl,bx,-⟩:=bl;obtain⟨l,bB,bq,aI,rfl,bA,-⟩:=bo;obtain⟨k,bu,bv,j,rfl,-,-,-⟩:=bm;have al:RJ (yy w (.slice f cs.length aF) cs):=G;have bc:RJ (Av w (.slice l a.length aI) a):=Q;have am:RJ (qi w (.slice k es.length j) es):=O;have bd:RJ (∀ r∈a,∀ x∈r,D5 x):=a9;have K:RJ (∀ d,RQ w.heap.size w d→Sc (aa.of Rz) 40 #[.agg #[.slice f cs.length aF,.slice l a.length aI]] d fun e w'=>∃ C,e= .returned (.bool C)∧(C=RF↔fF cs a)∧RQ d.heap.size d w'):=fun d p=>
  CD cs a _ _ d ab a5 a6 (G.below p) (Q.below p)
 have J:RJ (∀ d,RQ w.heap.size w d→Sc (aa.of Rz) 41 #[.agg #[.int .i64 b,.slice k es.length j,.bool c],.slice f cs.length aF] d fun e w'=>∃ C,e= .returned (.bool C)∧(C=RF↔kF b es cs)∧RQ d.heap.size d w'):=fun d p=>
  vO b es c cs _ _ d ab a7 (G.below p) (O.lower p)
 clear G Q O ab a5 a6 a7 a9;go_enter aa.func20,Tryz.ntmps20
 go_upto_region 1 with fail
 have a3:RQ w.heap.size w ((w.alloc (.cells #[.slice f cs.length aF,.slice l a.length aI] 46)).alloc (.cells #[.int .i64 b,.slice k es.length j,.bool c] 48)):=jB _ _;have ad:((w.alloc (.cells #[.slice f cs.length aF,.slice l a.length aI] 46)).alloc (.cells #[.int .i64 b,.slice k es.length j,.bool c] 48)).heap[w.heap.size]? =Ry (.cells #[.slice f cs.length aF,.slice l a.length aI] 46 (0,0)):=alloc_old _ (by simp) (bG w _);have ae:((w.alloc (.cells #[.slice f cs.length aF,.slice l a.length aI] 46)).alloc (.cells #[.int .i64 b,.slice k es.length j,.bool c] 48)).heap[w.heap.size+1]? =Ry (.cells #[.int .i64 b,.slice k es.length j,.bool c] 48 (0,0)):=jz w _ _;generalize (w.alloc (.cells #[.slice f cs.length aF,.slice l a.length aI] 46)).alloc (.cells #[.int .i64 b,.slice k es.length j,.bool c] 48)=i at*;have A:RJ (RQ w.heap.size w i):=a3;have W:RJ (∀ d,RQ i.heap.size i d→(d.cell? ⟨w.heap.size,0,RA⟩=Ry (.slice f cs.length aF)∧d.cell? ⟨w.heap.size,1,RA⟩=Ry (.slice l a.length aI))∧d.cell? ⟨w.heap.size+1,0,RA⟩=Ry (.int .i64 b)∧d.cell? ⟨w.heap.size+1,1,RA⟩=Ry (.slice k es.length j)∧d.cell? ⟨w.heap.size+1,2,RA⟩=Ry (.bool c)):=fun d p=>
  ⟨lX ((p.block _ (RP ad)).trans ad),bR ((p.block _ (RP ae)).trans ae)⟩
 clear a3 ad ae;obtain⟨⟨U,V⟩,R,S,T⟩:=W.out i (R5 _ _);by_cases B:fF cs a
 ·have H:RJ (Sc (aa.of Rz) 40 #[.agg #[.slice f cs.length aF,.slice l a.length aI]] i fun e w'=>e= .returned (.bool RF)∧RQ i.heap.size i w'):=oE (K.out _ A.out) B;have M:RJ (fF cs a):=B;clear K B
  go_upto_region 3 with(go_at_call 40;refine H.out.mono ?_;rintro e q ⟨rfl,E⟩)
  have u:RJ (RQ w.heap.size w q):=A.out.trans (E.mono A.out.size);have N:RJ (RQ i.heap.size i q):=E;clear U V R S T E H;obtain⟨⟨U,V⟩,R,S,T⟩:=W.out q N.out;by_cases y:kF b es cs
  ·have I:RJ (Sc (aa.of Rz) 41 #[.agg #[.int .i64 b,.slice k es.length j,.bool c],.slice f cs.length aF] q fun e w'=>e= .returned (.bool RF)∧RQ q.heap.size q w'):=oE (J.out _ u.out) y;obtain⟨a8,a4⟩:=K8 M.out y bd.out;have h:RJ (qj cs a es b.toNat):=a8;have bb:RJ (b=(b.toNat:Int)):=a4;have aw:RJ (kF b es cs):=y;clear J y a8 a4
   go_upto_region 5 with(go_at_call 41;refine I.out.mono ?_;rintro e t ⟨rfl,F⟩)
   have g:RJ (RQ w.heap.size w t):=u.out.trans (F.mono u.out.size);have be:RJ (RQ i.heap.size i t):=N.out.trans (F.mono N.out.size);clear U V R S T F I N u;obtain⟨⟨U,V⟩,R,S,T⟩:=W.out t be.out;have ao:RJ (Sc (aa.of Rz) 43 #[.agg #[.slice f cs.length aF,.slice l a.length aI],.agg #[.int .i64 b,.slice k es.length j,.bool c]] t fun e w'=>∃ o m,e= .returned (.agg #[.slice f cs.length aF,.slice k es.length j,o])∧m.map Sb=dh a cs es c b.toNat (eY a.length b.toNat)∧ij w' t.heap.size o m∧RQ t.heap.size t w'):=by
    have p:=ED a cs es b.toNat c (.slice l a.length aI) (.slice f cs.length aF) (.slice k es.length j) t h.out.lo h.out.hi h.out.table.2.1 h.out.len h.out.vals h.out.table.1.2.1 h.out.Hr (bc.out.below g.out) (al.out.below g.out) (am.out.lower g.out);rw[← bb.out] at p;exact p
   have ar:RJ (∀ d o m,RQ w.heap.size w d→m.map Sb=dh a cs es c b.toNat (eY a.length b.toNat)→(∃ base,ij d base o m)→Sc (aa.of Rz) 42 #[.agg #[.slice f cs.length aF,.slice k es.length j,o]] d fun e w'=>e= .returned (.string (strOf (jw cs a es c b.toNat)))∧RQ d.heap.size d w'):=fun d o m a2 D X=>by
    obtain⟨base,X⟩:=X;exact KI cs es (dh a cs es c b.toNat (eY a.length b.toNat)) _ _ o d h.out.table.1.2.1 h.out.Hr (CK h.out.table.1) (oI h.out.table.1) (by rw[mD];exact h.out.nb) (h.out.bU c _) (h.out.pos c) (h.out.body c) (al.out.below a2) (am.out.lower a2) ⟨base,m,D,X⟩
   have L:RJ ((strOf (jw cs a es c b.toNat)).size=(jw cs a es c b.toNat).length):=lW _;by_cases P:65536<(jw cs a es c b.toNat).length
   ·have v:RJ (JK cs a b es c ⟨#[]⟩ 6):=.inr (.inr (.inl ⟨M.out,aw.out,P,rfl,rfl⟩));have bi:decide (65536<((strOf (jw cs a es c b.toNat)).size:Int))=RF:=by rw[L.out];simp;omega
    clear P L;generalize strOf (jw cs a es c b.toNat)=bj at*
    go_wp2_with (first|(go_at_call 43;refine ao.out.mono ?_;rintro e br ⟨o,m,rfl,D,Z,z⟩)|(go_at_call 42;refine(ar.out _ o m ?_ D ⟨_,Z⟩).mono ?_;(exact g.out.trans (z.mono g.out.size));rintro e bs ⟨rfl,Y⟩))
    go_ret2
    exact⟨_,_,rfl,v.out,(g.out.trans (z.mono g.out.size)).trans (Y.mono (g.out.trans (z.mono g.out.size)).size)⟩
   ·have v:RJ (JK cs a b es c (strOf (jw cs a es c b.toNat)) 0):=.inr (.inr (.inr ⟨M.out,aw.out,P,rfl,rfl⟩));have bi:decide (65536<((strOf (jw cs a es c b.toNat)).size:Int))=RE:=by rw[L.out];simp;omega
    clear P L;generalize strOf (jw cs a es c b.toNat)=bj at*
    go_wp2_with (first|(go_at_call 43;refine ao.out.mono ?_;rintro e br ⟨o,m,rfl,D,Z,z⟩)|(go_at_call 42;refine(ar.out _ o m ?_ D ⟨_,Z⟩).mono ?_;(exact g.out.trans (z.mono g.out.size));rintro e bs ⟨rfl,Y⟩))
    go_ret2
    exact⟨_,_,rfl,v.out,(g.out.trans (z.mono g.out.size)).trans (Y.mono (g.out.trans (z.mono g.out.size)).size)⟩
  ·have I:RJ (Sc (aa.of Rz) 41 #[.agg #[.int .i64 b,.slice k es.length j,.bool c],.slice f cs.length aF] q fun e w'=>e= .returned (.bool RE)∧RQ q.heap.size q w'):=mU (J.out _ u.out) y;have v:RJ (JK cs a b es c ⟨#[]⟩ 2):=.inr (.inl ⟨M.out,y,rfl,rfl⟩);clear J y
   go_wp2_with (go_at_call 41;refine I.out.mono ?_;rintro e t ⟨rfl,F⟩)
   go_ret2
   exact⟨_,_,rfl,v.out,u.out.trans (F.mono u.out.size)⟩
 ·have H:RJ (Sc (aa.of Rz) 40 #[.agg #[.slice f cs.length aF,.slice l a.length aI]] i fun e w'=>e= .returned (.bool RE)∧RQ i.heap.size i w'):=mU (K.out _ A.out) B;have v:RJ (JK cs a b es c ⟨#[]⟩ 1):=.inl ⟨B,rfl,rfl⟩;clear K B
  go_wp2_with (go_at_call 40;refine H.out.mono ?_;rintro e q ⟨rfl,E⟩)
  go_ret2
  exact⟨_,_,rfl,v.out,A.out.trans (E.mono A.out.size)⟩
end Ec
namespace Cc
open Go Go.Conc
open Go.RowKit (Below)
open Ec
theorem yV{cs:List bO}{b:List (List aD)}{es:List Int}{a:Nat}{c:Bool}(h:qj cs b es a){V:Nat→Nat→List aD}(s:As (Ry (cs.zip es,dh b cs es c a (eY b.length a))) V):∀ j,j<eY b.length a→∀ p,p<cs.length→V j p=bJ (dI b a j) p:=by
 intro j v p d;have o:(dh b cs es c a (eY b.length a))[j]? =Ry (mg (dI b a j) cs es c):=by simp[dh,v]
 have q:(mg (dI b a j) cs es c).chunks[p]? =Ry (Cf (dI b a j) cs es c p):=by simp[mg,cE,d]
 have n:p<es.length:=by rw[h.Hr];exact d
 have r:(cs.zip es)[p]? =Ry (cs[p],es[p]):=by simp[List.getElem?_zip_eq_some,d,n]
 have g:=s j _ o p _ _ q r;have l:es.getD p 0=es[p]:=by rw[RX,RS n];rfl
 rw[h.lF c j p d,l] at g;have x:((mg (dI b a j) cs es c).rows:Int)=((bJ (dI b a j) p).length:Int):=by rw[iW];rfl
 rw[x] at g;have A:=h.cut j p;have m:=h.mF.2 p d;rw[l] at m;have t:iv ((bJ (dI b a j) p).length:Int) cs[p].kind es[p]=0:=by
  unfold iv;rw[if_neg (by omega),m];rfl
 have k:=Pk.qm _ (Er cs[p].kind es[p] (bJ (dI b a j) p));rcases g with⟨i,e,y,z,u⟩|⟨_,e|⟨i,e,w⟩⟩
 ·have f:(bJ (dI b a j) p).length=i:=by omega
  exact(u.GF _ f (h.vc j p d) (eu k.symm)).symm
 ·exact absurd t e
 ·have f:(bJ (dI b a j) p).length=i:=by omega
  exact absurd k.symm (w _ f (h.vc j p d))
def gm:List bO:=[⟨⟨#[120]⟩,1⟩]
def jr:List (List aD):=[[⟨RE,7,⟨#[]⟩⟩],[⟨RF,0,⟨#[]⟩⟩]]
def o9:ByteArray:=Pk.strOf (jw gm jr [0] RF 1)
theorem Mj:(jw gm jr [0] RF 1).length=31:=by decide +kernel
theorem DS:qj gm jr [0] 1:=by
 refine⟨⟨⟨by decide,by decide,fun a b=>?_⟩,by decide,fun a b=>?_⟩,⟨rfl,fun a b=>?_⟩,by decide,by decide,fun h f i d=>?_⟩
 ·have:a=0:=by simp[gm] at b;omega
  subst this;exact⟨(by decide +kernel:n6 ⟨⟨#[120]⟩,1⟩=RF),fun e c=>by omega⟩
 ·have:a=0∨a=1:=by simp[jr] at b;omega
  rcases this with rfl|rfl
  ·refine⟨rfl,fun e c g=>?_⟩;have:e=0:=by simp[jr] at c;omega
   subst this;exact(by decide +kernel:eU ⟨RE,7,⟨#[]⟩⟩ 1=RF)
  ·refine⟨rfl,fun e c g=>?_⟩;have:e=0:=by simp[jr] at c;omega
   subst this;exact(by decide +kernel:eU ⟨RF,0,⟨#[]⟩⟩ 1=RF)
 ·have:a=0:=by simp[gm] at b;omega
  subst this;exact(by decide +kernel:bf 1 0=RF)
 ·simp[jr] at f;rcases f with rfl|rfl
  ·simp at d;subst d;exact⟨by decide,by decide⟩
  ·simp at d;subst d;exact⟨by decide,by decide⟩
theorem NW:∃ a c1,dh jr gm [0] RF 1 (eY jr.length 1)=[⟨1,[a]⟩,⟨1,[c1]⟩]:=⟨_,_,rfl⟩
theorem Qs{V:Nat→Nat→List aD}(a c1:ju)(d:V 0 0=[⟨RE,7,⟨#[]⟩⟩])(h1:V 1 0=[⟨RF,0,⟨#[]⟩⟩]):cg (Ry (gm.zip [0],[⟨1,[a]⟩,⟨1,[c1]⟩])) V [0] [] RE=([[⟨RE,7,⟨#[]⟩⟩],[⟨RF,0,⟨#[]⟩⟩]],0):=by
 have e:gO (Ry (gm.zip [0],[⟨1,[a]⟩,⟨1,[c1]⟩])) [0] []=0:=rfl;have f:qX (Ry (gm.zip [0],[⟨1,[a]⟩,⟨1,[c1]⟩])) V [0] [] RE (fun _=>RF)=([(0,[⟨RE,7,⟨#[]⟩⟩]),(1,[⟨RF,0,⟨#[]⟩⟩])],2,0):=by
  have c:EN [⟨1,[a]⟩,⟨1,[c1]⟩] (aP (gm.zip [(0:Int)]).length ([0] ++ ([]:List cj).map cj.col)) V 0=RF:=by
   simp[EN,aP,gm,rowsOf,d]
  have b:EN [⟨1,[a]⟩,⟨1,[c1]⟩] (aP (gm.zip [(0:Int)]).length ([0] ++ ([]:List cj).map cj.col)) V 1=RF:=by
   simp[EN,aP,gm,rowsOf,h1]
  show fq RE [⟨1,[a]⟩,⟨1,[c1]⟩] [0] [] (aP (gm.zip [(0:Int)]).length ([0] ++ ([]:List cj).map cj.col)) V (fun _=>RF) 0 2 [] 0=_
  revert c b
  generalize aP (gm.zip [(0:Int)]).length ([0] ++ ([]:List cj).map cj.col)=g;intro c b;rw[oV,oV];simp only[Bool.false_and,Sa,if_false,c,b,if_true,SA];simp[fq,wi,b,ix,ed,mq,rowsOf,gd,BG,d,h1]
 unfold cg;rw[e,f];rfl
end Cc
namespace Cc
open Go Go.Conc
open Go.RowKit (Below)
section
variable {P0 P:RM}{Post:RB→RD→Prop}{cs:List RU}{w:RD}{b:RU}{a:TZ}{k:List Uk}
theorem PE(h:Twins P0 P){c:UR}{Q:RD→TZ→RD→Prop}(F:∀ s,Item.code (.refuse s)∉k)(J:ei P0 (b.at a (.code c :: k)) [])
 (G:∀ d,(∀ (b:Nat) o,w.heap[b]? =Ry o→aV P0 o→d.heap[b]? =Ry o)→w.heap.size≤d.heap.size→c.wp P0 (fun e a' W'=>e= .normal∧Below d.heap.size d W'∧Q d a' W') a d)
 (D:∀ a' d W' w',(∀ (b:Nat) o,w.heap[b]? =Ry o→aV P0 o→d.heap[b]? =Ry o)→w.heap.size≤d.heap.size→Below d.heap.size d W'→Q d a' W'→Un W' w'→RelB (ff w) w w'→Xe P0 P Post (ff w') (b.at a' k) cs w'):Xe P0 P Post (ff w) (b.at a (.code c :: k)) cs w:=by
 intro N M f H;refine Gh h (Q:=fun i e a' W'=>e= .normal∧∃ d,d.heap=i.heap∧Below d.heap.size d W'∧Q d a' W') (fun i l n=>?_) F (fun i id a w g=>by cases g.1) (fun i O a w g=>by cases g.1) (fun i a w g=>by cases g.1) (fun i e a' y w' n B l g j u=>?_) J H
 ·intro z L A;obtain⟨e,a',w',⟨p,j,C⟩,E⟩:=G (sh n 0 i) (fun b o m r=>l.at_ b o ((f.at_ b (RH.1 m).1).trans m) r) (by show w.heap.size≤i.heap.size;rw[← l.un.size];exact f.size) z L A;exact⟨e,a',w',⟨p,sh n 0 i,rfl,j,C⟩,E⟩
 ·obtain⟨rfl,d,t,q,g⟩:=g;have K:d.heap.size≤w'.heap.size:=by rw[j.un.size];exact q.size
  have v:d.heap.size=M.heap.size:=by rw[t,l.un.size]
  have hrel:RelB (ff w) w w':=⟨fun b x=>by
   have p:y.heap[b]? =d.heap[b]? :=q.block b (by rw[v];exact RK x f.size);exact(j.same l.un (by rw[p,t])).trans (f.at_ b x),R4 f.size (by rw[← v];exact K),u.tape.trans f.tape,u.os.trans f.os,u.output.trans f.output⟩
  intro _ I;exact Xe.go (D a' d (sh n B y) w' (fun b o m r=>by rw[t];exact l.at_ b o ((f.at_ b (RH.1 m).1).trans m) r) (by rw[v];exact f.size) q g ⟨j.un.size,j.un.at_,j.un.os,j.un.output⟩ hrel) (fun b h=>h) I
end
end Cc
namespace Cc
open Go Go.Conc
open Go.RowKit (Below)
open Ec
open Pk
theorem P8{a:TZ}{n:Nat}(h:a.tmps.size=n)(c:a.defers=[]):a=⟨((Sw n).map (aS a)).toArray,[]⟩:=by
 obtain⟨f,e⟩:=a;simp only at h c;subst c;congr 1;apply Array.ext_getElem?;intro d;simp only[List.getElem?_toArray,List.getElem?_map,List.getElem?_range];rcases Ts d n with b|b
 ·simp[b,aS,h]
 ·simp[b,h]
def Py (fn:Uj):UR:=match fn.body with
 |some (.seq _ (.seq a _))=>a
 |_=>.skip
def Pz (fn:Uj):UR:=match fn.body with
 |some (.seq _ (.seq _ (.seq a _)))=>a
 |_=>.skip
structure GQ(W:RD)(n:Nat):Prop where
 c:W.heap[n]? =Ry (.cells #[.string ⟨#[120]⟩,.int .i64 1] 63 (0,0))
 v0:W.heap[n+1]? =Ry (.cells #[.bool RE,.int .i64 7,.string ⟨#[]⟩] 59 (0,0))
 v1:W.heap[n+2]? =Ry (.cells #[.bool RF,.int .i64 0,.string ⟨#[]⟩] 59 (0,0))
 r:W.heap[n+3]? =Ry (.cells #[.slice (Ry ⟨n+1,0,RA⟩) 1 1,.slice (Ry ⟨n+2,0,RA⟩) 1 1] 43 (0,0))
 t:W.heap[n+4]? =Ry (.cells #[.slice (Ry ⟨n,0,RA⟩) 1 1,.slice (Ry ⟨n+3,0,RA⟩) 2 2] 46 (0,0))
theorem GQ.go{d W':RD}{n:Nat}(h:GQ d n)(a:∀ (b:Nat) c t,d.heap[b]? =Ry (.cells c t (0,0))→W'.heap[b]? =Ry (.cells c t (0,0))):GQ W' n:=⟨a _ _ _ h.c,a _ _ _ h.v0,a _ _ _ h.v1,a _ _ _ h.r,a _ _ _ h.t⟩
theorem PB(a:RD)(v:Nat→RB):(Py VT).wp (aa.of Rz) (fun e a' W'=>e= .normal∧Below a.heap.size a W'∧Knows a' 59 [(1,.pointer (Ry ⟨a.heap.size+4,0,RA⟩))]∧a'.defers=[]∧GQ W' a.heap.size) ⟨#[v 0,v 1,v 2,v 3,v 4,v 5,v 6,v 7,v 8,v 9,v 10,v 11,v 12,v 13,v 14,v 15,v 16,v 17,v 18,v 19,v 20,v 21,v 22,v 23,v 24,v 25,v 26,v 27,v 28,v 29,v 30,v 31,v 32,v 33,v 34,v 35,v 36,v 37,v 38,v 39,v 40,v 41,v 42,v 43,v 44,v 45,v 46,v 47,v 48,v 49,v 50,v 51,v 52,v 53,v 54,v 55,v 56,v 57,v 58],[]⟩ a:=by
 unfold Py VT;dsimp only;go_wp2;refine⟨(((((Below.refl _ _).alloc (RG _) _).alloc (by simp) _).alloc (by simp;omega) _).alloc (by simp;omega) _).alloc (by simp;omega) _,Knows.cons (l:=[]) ⟨rfl,fun s v b=>by simp at b⟩ rfl,⟨?_,?_,?_,?_,?_⟩⟩
 ·show(((((a.heap.push _).push _).push _).push _).push _)[a.heap.size]? =_;rw[Sp,if_neg (by simp only[Tx];omega)];rw[Sp,if_neg (by simp only[Tx];omega)];rw[Sp,if_neg (by simp only[Tx];omega)];rw[Sp,if_neg (by simp only[Tx];omega)];rw[Sp,if_pos (by simp only[Tx])]
 ·show(((((a.heap.push _).push _).push _).push _).push _)[a.heap.size+1]? =_;rw[Sp,if_neg (by simp only[Tx];omega)];rw[Sp,if_neg (by simp only[Tx];omega)];rw[Sp,if_neg (by simp only[Tx];omega)];rw[Sp,if_pos (by simp only[Tx])]
 ·show(((((a.heap.push _).push _).push _).push _).push _)[a.heap.size+2]? =_;rw[Sp,if_neg (by simp only[Tx];omega)];rw[Sp,if_neg (by simp only[Tx];omega)];rw[Sp,if_pos (by simp only[Tx])]
 ·show(((((a.heap.push _).push _).push _).push _).push _)[a.heap.size+3]? =_;rw[Sp,if_neg (by simp only[Tx];omega)];rw[Sp,if_pos (by simp only[Tx])]
 ·show(((((a.heap.push _).push _).push _).push _).push _)[a.heap.size+4]? =_;rw[Sp,if_pos (by simp only[Tx])]
theorem GQ.ah{c:RD}{n:Nat}(h:GQ c n):yy c (.slice (Ry ⟨n,0,RA⟩) 1 1) gm:=by
 obtain⟨d,e⟩:=lX h.c;refine⟨_,n,0,1,rfl,RG _,fun _=>rfl,fun _=>RP h.c,fun b a=>?_,fun b a=>?_⟩
 ·have:b=0:=by simp[gm] at a;omega
  subst this;exact d
 ·have:b=0:=by simp[gm] at a;omega
  subst this;exact e
theorem GQ.rows{c:RD}{n:Nat}(h:GQ c n):Av c (.slice (Ry ⟨n+3,0,RA⟩) 2 2) jr:=by
 obtain⟨d,i⟩:=lX h.r;obtain⟨e,f,g⟩:=bR h.v0;obtain⟨j,k,l⟩:=bR h.v1;refine⟨_,n+3,0,2,rfl,RG _,fun _=>rfl,fun _=>RP h.r,fun a b=>?_⟩;have:a=0∨a=1:=by simp[jr] at b;omega
 rcases this with rfl|rfl
 ·refine⟨_,d,_,n+1,0,1,rfl,fun _=>rfl,fun _=>RP h.v0,fun a b=>?_,fun a b=>?_,fun a b=>?_⟩
  all_goals have:a=0:=by simp[jr] at b;omega
  all_goals subst this
  ·exact e
  ·exact f
  ·exact g
 ·refine⟨_,i,_,n+2,0,1,rfl,fun _=>rfl,fun _=>RP h.v1,fun a b=>?_,fun a b=>?_,fun a b=>?_⟩
  all_goals have:a=0:=by simp[jr] at b;omega
  all_goals subst this
  ·exact j
  ·exact k
  ·exact l
theorem Mm{a:RD}{n:Nat}(h:GQ a n)(c:RB)(f:qi a c [0]):Sc (aa.of Rz) 20 #[.agg #[.slice (Ry ⟨n,0,RA⟩) 1 1,.slice (Ry ⟨n+3,0,RA⟩) 2 2],.agg #[.int .i64 1,c,.bool RF]] a fun e w'=>e= .returned (.tuple #[.string o9,.int .i64 0])∧Below a.heap.size a w':=by
 refine(Fb gm jr 1 [0] RF _ _ _ a (by decide) (by decide) (by decide) (by decide) DS.vals h.ah h.rows f).mono ?_;rintro e w' ⟨s,n,rfl,g,d⟩;refine⟨?_,d⟩;rcases g with⟨b,_⟩|⟨_,b,_⟩|⟨_,_,b,_⟩|⟨_,_,_,rfl,rfl⟩
 ·exact absurd DS.table b
 ·exact absurd ⟨by decide,by decide,DS.mF⟩ b
 ·exact absurd b (by have:=Mj;show ¬ 65536<(jw gm jr [0] RF 1).length;omega)
 ·rfl
theorem PC(a:RD)(n:Nat)(h:GQ a n)(v:Nat→RB)(f:v 1= .pointer (Ry ⟨n+4,0,RA⟩)):(Pz VT).wp (aa.of Rz) (fun e a' W'=>e= .normal∧Below a.heap.size a W'∧Knows a' 59 [(2,.string o9),(3,.int .i64 0)]∧a'.defers=[]) ⟨#[v 0,v 1,v 2,v 3,v 4,v 5,v 6,v 7,v 8,v 9,v 10,v 11,v 12,v 13,v 14,v 15,v 16,v 17,v 18,v 19,v 20,v 21,v 22,v 23,v 24,v 25,v 26,v 27,v 28,v 29,v 30,v 31,v 32,v 33,v 34,v 35,v 36,v 37,v 38,v 39,v 40,v 41,v 42,v 43,v 44,v 45,v 46,v 47,v 48,v 49,v 50,v 51,v 52,v 53,v 54,v 55,v 56,v 57,v 58],[]⟩ a:=by
 have c:RJ (GQ a n):=h;obtain⟨l,m⟩:=lX c.out.t;clear h;rw[f];unfold Pz VT;dsimp only
 go_wp2_with (go_at_call 20;refine(Mm (c.out.go fun i j k b=>alloc_old _ (RP b) b) _ ⟨_,a.heap.size,0,1,rfl,fun _=>rfl,fun _=>by simp,fun g d=>?_⟩).mono ?_)
 ·have:g=0:=by simp at d;omega
  subst this;simp
 rintro e o ⟨rfl,b⟩;go_wp2;refine⟨((Below.refl _ a).alloc (RG _) _).trans (b.mono (by simp)),Knows.cons (Knows.cons (l:=[]) ⟨rfl,fun s v h=>by simp at h⟩ rfl) rfl⟩
def PA (fn:Uj):UR:=match fn.body with
 |some (.seq _ (.seq _ (.seq _ (.seq _ (.seq a _)))))=>a
 |_=>.skip
theorem NZ{b:RD}{base:Nat}{v:RB}(h:qc b base v [[⟨RE,7,⟨#[]⟩⟩],[⟨RF,0,⟨#[]⟩⟩]]):∃ g cap a c,v= .slice (Ry ⟨g,0,RA⟩) 2 cap∧b.cell? ⟨g,0,RA⟩=Ry (.slice (Ry ⟨a,0,RA⟩) 1 c)∧b.cell? ⟨a,0,RA⟩=Ry (.bool RE)∧b.cell? ⟨a,1,RA⟩=Ry (.int .i64 7)∧b.cell? ⟨a,2,RA⟩=Ry (.string ⟨#[]⟩):=by
 obtain⟨p,f,j,-⟩:=h;obtain⟨o,k,i⟩:=j 0 _ rfl;have l:=f;have e:=i;rcases f.2 with⟨_,d⟩|⟨g,cap,m,rfl,-⟩
 ·cases d
 rcases i.2 with⟨_,d⟩|⟨a,c,n,rfl,-⟩
 ·cases d
 exact⟨g,cap,a,c,rfl,l.cells (g:=g) rfl 0 _ k,e.cells (g:=a) rfl 0 _ rfl,e.cells (g:=a) rfl 1 _ rfl,e.cells (g:=a) rfl 2 _ rfl⟩
theorem yw:o9.size=31:=by
 show(Pk.strOf _).size=31;rw[Pk.lW];exact Mj
theorem NY(a:RD)(v:Nat→RB)(c:v 2= .string o9)(d:v 3= .int .i64 0)(g:v 5= .int .i64 0){base:Nat}(f:qc a base (v 4) [[⟨RE,7,⟨#[]⟩⟩],[⟨RF,0,⟨#[]⟩⟩]]):(PA VT).wp (aa.of Rz) (fun e a' W'=>e= .normal∧Below a.heap.size a W'∧Knows a' 59 [(0,.bool RF)]∧a'.defers=[]) ⟨#[v 0,v 1,v 2,v 3,v 4,v 5,v 6,v 7,v 8,v 9,v 10,v 11,v 12,v 13,v 14,v 15,v 16,v 17,v 18,v 19,v 20,v 21,v 22,v 23,v 24,v 25,v 26,v 27,v 28,v 29,v 30,v 31,v 32,v 33,v 34,v 35,v 36,v 37,v 38,v 39,v 40,v 41,v 42,v 43,v 44,v 45,v 46,v 47,v 48,v 49,v 50,v 51,v 52,v 53,v 54,v 55,v 56,v 57,v 58],[]⟩ a:=by
 obtain⟨n,l,o,m,b,q,i,j,k⟩:=NZ f;have p:=yw;clear f;rw[c,d,g,b];clear c d g b;generalize o9=s at*;unfold PA VT;dsimp only;go_wp2;exact⟨Below.refl _ _,Knows.cons (l:=[]) ⟨rfl,fun s v h=>by simp at h⟩ rfl⟩
end Cc
namespace Cc
open Go Go.Conc
open Go.RowKit (Below)
open Ec
section
variable {P0 P:RM}{S own:Nat→Prop}{w:RD}{a:TZ}{o:Te}
theorem EQ{t e:RO}{i:Ur}{z v:RB}{x:SG}(m:o.op= .buildSlice t 1 #[(0,x)])(q:a.eval x=v)(y:v.cells=#[v])(p:P.underlying t=Ry (.slice e))(l:P.info? e=Ry i)(r:i.zero=Ry z)(C:z.cells.size=1)(d:i.size=1):
 ∀ c,RelB (fun b=>S b∨own b) w c→∃ w',(Sd a.eval o).run P c= .ok (.value (.slice (Ry ⟨c.heap.size,0,RA⟩) 1 1)) w'∧w'.heap=c.heap.push (.cells #[v] e)∧w'.tape=c.tape∧w'.os=c.os∧w'.output=c.output∧∀ h∈(Sd a.eval o).events P c #[],iG c.heap.size S own h:=by
 intro c B;have g:UZ (fun s=>Ry (s*i.size,i.size)) ((Vg (1*i.size)).map (z.cells[· % z.cells.size]!)) #[(0,v)].toList=Ry #[v]:=by
  rw[d];simp[UZ,y,Vg,Array.zipIdx];apply Array.ext
  ·simp
  ·intro s A j;simp at j;subst j;simp
 have n:=run_buildSlice (P:=P) c t e 1 #[(0,v)] #[v] i z p l r (by rw[d];decide) (by rw[d];decide) g;refine⟨c.alloc (.cells #[v] e),?_,rfl,rfl,rfl,rfl,fun h f=>?_⟩
 ·unfold Sd;simp[m,q,n]
 ·have u:(Uq t 1 #[(0,v)]).events P c #[]=#[]:=by
   simp only[List.toArray,Nat.one_mul,Vs,d] at g;simp[Uq,run_underlying p,VH,UE,TO,l,r,d,g,newRow]
  unfold Sd at f;simp only[m] at f;simp[q,n,u] at f
end
section
variable {P0 P:RM}{Post:RB→RD→Prop}{cs:List RU}{w:RD}{b:RU}{a:TZ}{k:List Uk}
theorem BK(h:Twins P0 P){n:Nat}{l:List (Nat×RB)}(f:Knows a n l)(j:a.defers=[])(c:UR)(Q:RD→TZ→RD→Prop)(m:∀ s,Item.code (.refuse s)∉k)(r:ei P0 (b.at a (.code c :: k)) [])
 (p:∀ v d,(∀ s x,l.lookup s=Ry x→v s=x)→(∀ (b:Nat) o,w.heap[b]? =Ry o→aV P0 o→d.heap[b]? =Ry o)→w.heap.size≤d.heap.size→c.wp P0 (fun e a' W'=>e= .normal∧Below d.heap.size d W'∧Q d a' W') ⟨((Sw n).map v).toArray,[]⟩ d)
 (g:∀ a' d W' w',(∀ (b:Nat) o,w.heap[b]? =Ry o→aV P0 o→d.heap[b]? =Ry o)→w.heap.size≤d.heap.size→Below d.heap.size d W'→Q d a' W'→Un W' w'→RelB (ff w) w w'→Xe P0 P Post (ff w') (b.at a' k) cs w'):Xe P0 P Post (ff w) (b.at a (.code c :: k)) cs w:=
 PE h m r (fun d i q=>by
  have:=p (aS a) d f.slot i q;rwa [← P8 f.size j] at this) g
end
theorem Rq(m:Nat):Knows ⟨#[] ++ SN (m - 0) SP,[]⟩ m []:=⟨by simp,fun s v c=>by simp at c⟩
theorem QZ{c:UR}(hc:∀ s,c≠.refuse s):∀ s,Item.code (.refuse s)∉[Item.code c]:=fun s d=>by
 simp only[List.mem_singleton,Item.code.injEq] at d;exact hc s d.symm
theorem qc.like{P0:RM}{w e:RD}{base:Nat}{v:RB}{p:List (List aD)}(h:qc w base v p)(y:∀ (b:Nat) o,w.heap[b]? =Ry o→aV P0 o→e.heap[b]? =Ry o):qc e base v p:=by
 have q:∀ {f:RO} {j i:Nat} {v:RB} {l:List RB},w.ownsRow base f j v i l→e.ownsRow base f j v i l:=fun {f j i v l} h=>by
  obtain⟨n,⟨c,d⟩|⟨m,t,u,c,d,g,x⟩⟩:=h
  ·exact⟨n,.inl ⟨c,d⟩⟩
  ·exact⟨n,.inr ⟨m,t,u,c,d,y m _ g trivial,x⟩⟩
 obtain⟨C,c,d,g⟩:=h;exact⟨C,q c,fun A D z=>by
  obtain⟨B,r,s⟩:=d A D z;exact⟨B,r,q s⟩,g⟩
theorem Qw:∃ c,Rz.info? 3=Ry c∧c.zero=Ry (.int .i64 0)∧c.size=1:=⟨Tryz.t3,by kernel_rfl,rfl,rfl⟩
theorem FT:(Tz.name == "runtime.NumGoroutine")=RE:=by kernel_rfl
theorem N0{Post:RB→RD→Prop}{w0:RD}{cb aF:Nat}(u:cb<w0.heap.size)(t:w0.cell? ⟨cb,0,RA⟩=Ry (.int .i64 0)):kA (aa.of Rz) Rz Post 13 #[.string o9,.slice (Ry ⟨cb,0,RA⟩) 1 aF,.slice RA 0 0,.bool RE] w0 (zh ([[⟨RE,7,⟨#[]⟩⟩],[⟨RF,0,⟨#[]⟩⟩]],0) w0):=by
 have i:o9.size≤R3:=by rw[yw];decide
 obtain⟨e,hF⟩:=F3 o9 w0 i;have f:=wK DS RF (by rw[Mj];decide);have r:e=Ry (gm.zip [0],dh jr gm [0] RF 1 (eY jr.length 1)):=by
  cases e with
  |none=>exact absurd f (hF _ _)
  |some y=>
   obtain⟨A,z⟩:=y;obtain⟨m,n⟩:=hF.2 _ _ f;rw[← m,← n]
 subst r;obtain⟨V,g⟩:=CC w0 hF;have h:=yV DS g;have p:V 0 0=[⟨RE,7,⟨#[]⟩⟩]:=h 0 (by decide) 0 (by decide);have q:V 1 0=[⟨RF,0,⟨#[]⟩⟩]:=h 1 (by decide) 0 (by decide);have x:cg (Ry (gm.zip [0],dh jr gm [0] RF 1 (eY jr.length 1))) V [0] [] RE=([[⟨RE,7,⟨#[]⟩⟩],[⟨RF,0,⟨#[]⟩⟩]],0):=by
  obtain⟨j,l,s⟩:=NW;rw[s];exact Qs j l p q
 have:=xM (Post:=Post) (ah:=[0]) (rs:=[]) (co:=Ry ⟨cb,0,RA⟩) (cb:=cb) (bk:=0) (aF:=aF) (ro:=RA) (rb:=0) (bq:=0) (aI:=0) (sk:=RE) (w0:=w0) i hF g (by decide) (by decide) (fun _=>rfl) (fun _=>u) (fun d v=>by
  have:d=0:=by simp at v;omega
  subst this;exact t) ⟨fun c=>by simp at c,fun c=>by simp at c,fun d c=>by simp at c,fun d c=>by simp at c,fun d c=>by simp at c,fun d c=>by simp at c,fun d c=>by simp at c,fun d c=>by simp at c,fun d c=>by simp at c⟩
 rw[x] at this;exact this
theorem DT{Post:RB→RD→Prop}{w0:RD}:kA (aa.of Rz) Rz Post 26 #[] w0 (fun e w'=>e= .returned (.bool RF)∧(∀ b,b<w0.heap.size→w'.heap[b]? =w0.heap[b]?)∧w0.heap.size≤w'.heap.size):=by
 intro K cs ar bs ab Q;have d:=fZ (aa.of Rz) Rz Post;refine Xe.go (own:=ff w0) ?_ (fun b f=>f) ab;rw[enter_at _ Tryz.func26 rfl];have c:=Rq 59;refine aM d ?_;refine aX d [0] rfl ?_;refine ak d (by decide) rfl rfl _ (aG rfl rfl) ?_;replace c:=c.put (d:=0) (by decide) (.bool RE);refine aj d ?_;refine aM d ?_;refine BK dY c (by simp only[put_defers]) (Py VT) (fun g j C=>Knows j 59 [(1,.pointer (Ry ⟨g.heap.size+4,0,RA⟩))]∧j.defers=[]∧GQ C g.heap.size) (QZ fun s f=>by cases f) (ep rfl (by simp only[put_defers]) (by kernel_rfl)) (fun v g n x E=>PB g v) fun a8 g a3 B x E bc al U p=>?_;clear c;obtain⟨c,i,L⟩:=al;have T:GQ B g.heap.size:=L.go fun b K a0 h=>U.row.1 h;clear L;generalize g.heap.size=H at*;refine aM d ?_;refine BK dY c i (Pz VT) (fun g j C=>Knows j 59 [(2,.string o9),(3,.int .i64 0)]∧j.defers=[]) (QZ fun s f=>by cases f) (ep rfl i (by kernel_rfl)) (fun v g n x E=>PC g H (T.go fun b K a0 h=>x b _ h trivial) v (n 1 _ rfl)) fun a9 a4 a5 a1 bl bt bd am bi q=>?_;clear i c;obtain⟨c,i⟩:=am;refine aM d ?_;refine aX d [0,1,2,3,4,5,6,7] rfl ?_;refine ak d (by decide) rfl rfl _ (ay rfl (c.of rfl)) ?_;replace c:=c.put (d:=22) (by decide) (.string o9);obtain⟨bx,W,aw,G⟩:=Qw;refine kM d (fun b h=>h.elim Vt (fun f=>f)) (by decide) rfl rfl (.cells #[.int .i64 0] 3) trivial (fun H=>.slice (Ry ⟨H,0,RA⟩) 1 1) (EQ rfl rfl rfl Tryz.underlying22 W aw rfl G) fun z bA br bv r V=>?_;replace c:=c.put (d:=23) (by decide) (.slice (Ry ⟨z,0,RA⟩) 1 1);refine nV (vs:= #[.string o9,.slice (Ry ⟨z,0,RA⟩) 1 1,.slice RA 0 0,.bool RE]) (R:=fun B e w'=>zh ([[⟨RE,7,⟨#[]⟩⟩],[⟨RF,0,⟨#[]⟩⟩]],0) B e w') rfl rfl rfl rfl (rm (c.of rfl) (c.of rfl) rfl rfl) Tryz.func13 FT rfl (ep rfl (by simp only[put_defers];exact i) (by kernel_rfl)) (fun y l=>?_) (fun y v I l R F ad=>?_) (fun y bb w' f=>?_) (fun y w' f=>?_)
 ·have M:y.heap[z]? =_:=(l.at_ z (.inr rfl)).trans V;exact N0 (RH.1 M).1 (by unfold R2;rw[M];rfl)
 ·obtain⟨u,e,Z,-,Y,G⟩:=R;have O:=U0 e;subst O;have X:∀ b,b<w0.heap.size→I.heap[b]? =w0.heap[b]? :=fun b h=>by
   have J:b<B.heap.size:=RK h p.size;have D:b<a1.heap.size:=RK J q.size;refine(Y b ?_).trans ((l.at_ b (.inl D)).trans ((r.at_ b (.inr D)).trans ((q.at_ b J).trans (p.at_ b h))));exact RK D (R4 r.size l.size)
  have A:w0.heap.size≤I.heap.size:=R4 p.size (R4 q.size (R4 r.size (R4 l.size G)));refine Xe.go (own:=ff I) ?_ (fun b f=>f) ad;replace c:=c.put (d:=24) (by decide) (.tuple #[u,.int .i64 0]);refine ak d (by decide) rfl rfl _ (ay rfl (c.of rfl)) ?_;replace c:=c.put (d:=21) (by decide) (.tuple #[u,.int .i64 0]);refine ak d (by decide) rfl rfl _ (bT rfl (c.of rfl) rfl) ?_;replace c:=c.put (d:=25) (by decide) u;refine ak d (by decide) rfl rfl _ (bT rfl (c.of rfl) rfl) ?_;replace c:=c.put (d:=26) (by decide) (.int .i64 0);refine ak d (by decide) rfl rfl _ (aG rfl (c.of rfl)) ?_;replace c:=c.put (d:=4) (by decide) u;refine ak d (by decide) rfl rfl _ (aG rfl (c.of rfl)) ?_;replace c:=c.put (d:=5) (by decide) (.int .i64 0);refine aj d ?_;refine aM d ?_;have bo:=i;refine BK dY c (by simp only[put_defers];exact i) (PA VT) (fun g j C=>Knows j 59 [(0,.bool RF)]∧j.defers=[]) (QZ fun s f=>by cases f) (ep rfl (by simp only[put_defers];exact i) (by kernel_rfl)) (fun v g n x E=>NY g v (n 2 _ rfl) (n 3 _ rfl) (n 5 _ rfl) (base:=y.heap.size) (by rw[n 4 _ rfl];exact Z.like x)) fun ba a6 a7 bB bm bu be ao bj m=>?_
  ·obtain⟨c,i⟩:=ao;refine nZ d ?_;have N:=jl (P:=Rz) Tryz.results26 (c.slot 0 _ rfl);refine gA d rfl i Tryz.func26 N.1 N.2 ?_;intro _ a2 t ae;refine Q (.returned (.bool RF)) a2 ⟨rfl,fun b h=>(t.at_ b (RK h (R4 A m.size))).trans ((m.at_ b (RK h A)).trans (X b h)),R4 A (R4 m.size t.size)⟩ ae ⟨?_,?_,?_,R4 A (R4 m.size t.size)⟩ (lI ar _)
   ·exact t.tape.trans (m.tape.trans (F.tape.trans (l.tape.trans (r.tape.trans (q.tape.trans p.tape)))))
   ·exact t.os.trans (m.os.trans (F.os.trans (l.os.trans (r.os.trans (q.os.trans p.os)))))
   ·exact t.output.trans (m.output.trans (F.output.trans (l.output.trans (r.output.trans (q.output.trans p.output)))))
 ·obtain⟨u,e,-⟩:=f;cases e
 ·obtain⟨u,e,-⟩:=f;cases e
end Cc
namespace Ec
open Go.RowKit Pk
theorem Ho{Q:Prop}{P:RM}{f:Nat}{args:Array RB}{w:RD}(h:Sc P f args w fun e w'=>∃ b,e= .returned (.bool b)∧(b=RF↔Q)∧∃ n,w'=w.drewN n)(d:Q):Sc P f args w fun e w'=>e= .returned (.bool RF)∧∃ n,w'=w.drewN n:=
 h.mono (by rintro e w' ⟨g,rfl,c,a⟩;rw[c.2 d];exact⟨rfl,a⟩)
theorem Ew{Q:Prop}{P:RM}{f:Nat}{args:Array RB}{w:RD}(h:Sc P f args w fun e w'=>∃ b,e= .returned (.bool b)∧(b=RF↔Q)∧∃ n,w'=w.drewN n)(g:¬ Q):Sc P f args w fun e w'=>e= .returned (.bool RE)∧∃ n,w'=w.drewN n:=
 h.mono (by
  rintro e w' ⟨a,rfl,d,c⟩;cases a
  ·exact⟨rfl,c⟩
  ·exact absurd (d.1 rfl) g)
end Ec
namespace Ec
open Go.RowKit Pk Pm
theorem MV(a:Option Sl)(n cap:Nat)(w:RD)(g:n≤R3)(hc:n≤cap)(f:0<n→∃ b off,a=Ry ⟨b,off,RA⟩):
 Sc (aa.of Rz) 8 #[.slice a n cap] w fun e w'=>(∃ d,min n 16≤d∧e= .returned (.slice a (min n 16) d))∧w'=w:=by
 unfold R3 at g;by_cases h:16<n
 ·obtain⟨b,off,rfl⟩:=f (by omega);have c:min n 16=16:=by omega
  rw[c];go_enter aa.func8,Tryz.ntmps8;go_wp2;go_ret;exact⟨⟨_,by omega,rfl⟩,rfl⟩
 ·have c:min n 16=n:=by omega
  rw[c];go_enter aa.func8,Tryz.ntmps8;go_wp2;go_ret;exact⟨⟨_,hc,rfl⟩,rfl⟩
theorem yP(a:Option Sl)(n cap:Nat)(w:RD)(g:n≤R3)(hc:n≤cap)(f:0<n→∃ b off,a=Ry ⟨b,off,RA⟩):
 Sc (aa.of Rz) 9 #[.slice a n cap] w fun e w'=>(∃ d,min n 16≤d∧e= .returned (.slice a (min n 16) d))∧w'=w:=by
 unfold R3 at g;by_cases h:16<n
 ·obtain⟨b,off,rfl⟩:=f (by omega);have c:min n 16=16:=by omega
  rw[c];go_enter aa.func9,Tryz.ntmps9;go_wp2;go_ret;exact⟨⟨_,by omega,rfl⟩,rfl⟩
 ·have c:min n 16=n:=by omega
  rw[c];go_enter aa.func9,Tryz.ntmps9;go_wp2;go_ret;exact⟨⟨_,hc,rfl⟩,rfl⟩
end Ec
namespace Cc
open Go Go.Conc
open Go.RowKit
open Ec
open Pk
section
variable {P0 P:RM}{Post:RB→RD→Prop}{cs:List RU}{w:RD}{b:RU}{a:TZ}{k:List Uk}
theorem N2(h:Twins P0 P){n:Nat}{l:List (Nat×RB)}(B:Knows a n l)(L:a.defers=[])(c:UR)(Q:RD→TZ→RD→Prop)(M:∀ s,Item.code (.refuse s)∉k)(S:ei P0 (b.at a (.code c :: k)) [])
 (N:∀ v d,(∀ s x,l.lookup s=Ry x→v s=x)→(∀ (b:Nat) o,w.heap[b]? =Ry o→aV P0 o→d.heap[b]? =Ry o)→w.heap.size≤d.heap.size→c.wp P0 (fun e a' W'=>e= .ret∧RQ d.heap.size d W'∧Q d a' W') ⟨((Sw n).map v).toArray,[]⟩ d)
 (J:∀ a' d W' w' todo,(∀ (b:Nat) o,w.heap[b]? =Ry o→aV P0 o→d.heap[b]? =Ry o)→w.heap.size≤d.heap.size→RQ d.heap.size d W'→Q d a' W'→Un W' w'→RelB (ff w) w w'→Xe P0 P Post (ff w') {b.at a' todo with mode:=.returning} cs w'):Xe P0 P Post (ff w) (b.at a (.code c :: k)) cs w:=by
 intro W V f O;refine Gh h (Q:=fun i e a' W'=>e= .ret∧∃ d,d.heap=i.heap∧RQ d.heap.size d W'∧Q d a' W') (fun i m q=>?_) M (fun i id a w g=>by cases g.1) (fun i l a w g=>by cases g.1) (fun i a w g=>by cases g.1) (fun i e a' E w' q H m g j z=>?_) S O
 ·intro F U G;have C:=N (aS a) (sh q 0 i) B.slot (fun b o p u=>m.at_ b o ((f.at_ b (RH.1 p).1).trans p) u) (by show w.heap.size≤i.heap.size;rw[← m.un.size];exact f.size);rw[← P8 B.size L] at C;obtain⟨e,a',w',⟨r,j,I⟩,K⟩:=C F U G;exact⟨e,a',w',⟨r,sh q 0 i,rfl,j,I⟩,K⟩
 ·obtain⟨rfl,d,y,t,g⟩:=g;have T:d.heap.size≤w'.heap.size:=by rw[j.un.size];exact t.size
  have A:d.heap.size=V.heap.size:=by rw[y,m.un.size]
  have hrel:RelB (ff w) w w':=⟨fun b D=>by
   have r:E.heap[b]? =d.heap[b]? :=t.block b (by rw[A];exact RK D f.size);exact(j.same m.un (by rw[r,y])).trans (f.at_ b D),R4 f.size (by rw[← A];exact T),z.tape.trans f.tape,z.os.trans f.os,z.output.trans f.output⟩
  intro todo _ R;exact Xe.go (J a' d (sh q H E) w' todo (fun b o p u=>by rw[y];exact m.at_ b o ((f.at_ b (RH.1 p).1).trans p) u) (by rw[A];exact f.size) t g ⟨j.un.size,j.un.at_,j.un.os,j.un.output⟩ hrel) (fun b h=>h) R
end
def sW (fn:Uj):UR:=match fn.body with
 |some (.seq _ (.seq _ (.seq _ (.seq _ (.seq _ (.seq _ c))))))=>c
 |_=>.skip
theorem L0{j k:Nat}{c d:List (List aD)}(e:j<d.length)(f:k<c.length)(g:c[k]=d[j])(h:(d.drop j).Sublist (c.drop k)):(d.drop (j+1)).Sublist (c.drop (k+1)):=by
 rw[S6 e,S6 f,g] at h;exact List.cons_sublist_cons.1 h
theorem Pv{x y:List aD}{c d:List (List aD)}(h:(y :: d).Sublist (x :: c))(e:x≠y):(y :: d).Sublist c:=by
 cases h with
 |cons _ h=>exact h
 |cons_cons _ h=>exact absurd rfl e
theorem Jg{j k:Nat}{c d:List (List aD)}(e:j<d.length)(f:k<c.length)(g:c[k]≠d[j])(h:(d.drop j).Sublist (c.drop k)):(d.drop j).Sublist (c.drop (k+1)):=by
 rw[S6 e,S6 f] at h;rw[S6 e];exact Pv h g
theorem NL{j:Nat}{c d:List (List aD)}{k:Nat}(f:¬ k<c.length)(e:j≤d.length)(h:(d.drop j).Sublist (c.drop k)):j=d.length:=by
 rw[List.drop_of_length_le (l:=c) (by omega)] at h;have:=List.drop_eq_nil_iff.1 (List.sublist_nil.1 h);omega
theorem MX(g:RD)(v:Nat→RB)(f c:List (List aD))(n m:Nat)(p:v 7= .bool RF)(q:v 9= .int .i64 (n:Int))(o:v 11= .int .i64 (m:Int))(N:Av g (v 8) f)(O:Av g (v 10) c)(L:f.length≤R3)(M:c.length≤R3)(y:∀ r∈f,r.length≤R3)(z:∀ r∈c,r.length≤R3)
 (B:n≠0→v 8= .slice RA 0 0) (A:n≠0→n=3∨n=m) (u:n=0→m=0∧c.Sublist f):
 (sW VO).wp (aa.of Rz) (fun e a' W'=>e= .ret∧RQ g.heap.size g W'∧Knows a' 86 [(6,.bool RF)]∧a'.defers=[]) ⟨#[v 0,v 1,v 2,v 3,v 4,v 5,v 6,v 7,v 8,v 9,v 10,v 11,v 12,v 13,v 14,v 15,v 16,v 17,v 18,v 19,v 20,v 21,v 22,v 23,v 24,v 25,v 26,v 27,v 28,v 29,v 30,v 31,v 32,v 33,v 34,v 35,v 36,v 37,v 38,v 39,v 40,v 41,v 42,v 43,v 44,v 45,v 46,v 47,v 48,v 49,v 50,v 51,v 52,v 53,v 54,v 55,v 56,v 57,v 58,v 59,v 60,v 61,v 62,v 63,v 64,v 65,v 66,v 67,v 68,v 69,v 70,v 71,v 72,v 73,v 74,v 75,v 76,v 77,v 78,v 79,v 80,v 81,v 82,v 83,v 84,v 85],[]⟩ g:=by
 by_cases j:n=0
 ·obtain⟨bb,C⟩:=u j;subst j;subst bb;obtain⟨b3,bm,bo,b2,a2,bA,D⟩:=N;obtain⟨ca,br,bs,b4,a3,bB,E⟩:=O;rw[p,q,o,a2,a3];have a4:RJ (∀ r∈f,r.length≤R3):=y;have a5:RJ (∀ r∈c,r.length≤R3):=z;have a6:RJ (c.Sublist f):=C;unfold R3 at L M;clear p q o a2 a3 B A u y z C;unfold sW VO;dsimp only
  go_wp2_with fail
  go_loopw [12,13] (fun a7 Z wr=>∃ d k:Nat,d≤c.length∧k≤f.length∧a7= .int .i64 d∧Z= .int .i64 k∧(c.drop d).Sublist (f.drop k)∧∃ n,wr=g.drewN n) (fun _ Z _=>f.length - (SC Z).toNat)
  case atStart=>exact⟨0,0,Sk _,Sk _,rfl,rfl,a6.out,0,rfl⟩
  case round=>
   obtain⟨d,k,ba,bt,rfl,rfl,C,n,i⟩:=hrel;have I:RJ ((c.drop d).Sublist (f.drop k)):=C;clear C;by_cases x:k<f.length
   ·by_cases K:d<c.length
    ·obtain rfl:=D.addr (by omega);obtain rfl:=E.addr (by omega);obtain⟨be,ae,a8⟩:=D.c k x;obtain⟨bi,al,a9⟩:=E.c d K;have b0:wr.cell? ⟨bm,bo+k,RA⟩=Ry be:=by rw[i];exact ae
     have b1:wr.cell? ⟨br,bs+d,RA⟩=Ry bi:=by rw[i];exact al
     have l:RJ (wr=g.drewN n):=i;have U:RJ (f[k]≠c[d]→(c.drop d).Sublist (f.drop (k+1))):=fun h=>Jg K x h I.out;have W:RJ (f[k]=c[d]→(c.drop (d+1)).Sublist (f.drop (k+1))):=fun h=>L0 K x h I.out;have ao:=a4.out f[k] (RV x);have ar:=a5.out c[d] (RV K);have bu:(d:Int)<(c.length:Int):=by omega
     obtain⟨T,bj,bl,S,rfl,a0⟩:=a8;obtain⟨R,bc,bd,Q,rfl,a1⟩:=a9;have H:RJ (∀ m,Sc (aa.of Rz) 29 #[.slice T f[k].length S,.slice R c[d].length Q] (wr.drewN m) fun e G=>∃ b,e= .returned (.bool b)∧(b=RF↔f[k]=c[d])∧∃ n,G=(wr.drewN m).drewN n):=fun m=>by
      have am:RQ g.heap.size g (wr.drewN m):=by rw[i];exact Pk.below_drewN (Pk.below_drewN (R5 _ _) n) m
      exact xK f[k] c[d] T R bj bl S bc bd Q _ ao ar (a0.below am) (a1.below am)
     clear i D E I ae al a0 a1 ao ar;generalize f[k]=ab at*;generalize c[d]=ad at*;by_cases t:ab=ad
     ·have X:RJ ((c.drop (d+1)).Sublist (f.drop (k+1))):=W.out t;have V:RJ (∀ m,Sc (aa.of Rz) 29 #[.slice T ab.length S,.slice R ad.length Q] (wr.drewN m) fun e G=>e= .returned (.bool RF)∧∃ n,G=(wr.drewN m).drewN n):=fun m=>Ho (H.out m) t;clear W U t H
      go_wp2_with fail
      go_quiet ((go_at_call 29;exact Calls.quiet_of (V.out _)))
      go_wp2
      go_roundw
      case rel=>exact⟨d+1,k+1,by omega,by omega,by go_num,by go_num,X.out,n+nq,by rw[l.out];exact World.drewN_drewN _ _ _⟩
      case measure=>simp[SC];omega
     ·have X:RJ ((c.drop d).Sublist (f.drop (k+1))):=U.out t;have V:RJ (∀ m,Sc (aa.of Rz) 29 #[.slice T ab.length S,.slice R ad.length Q] (wr.drewN m) fun e G=>e= .returned (.bool RE)∧∃ n,G=(wr.drewN m).drewN n):=fun m=>Ew (H.out m) t;clear W U t H
      go_wp2_with fail
      go_quiet ((go_at_call 29;exact Calls.quiet_of (V.out _)))
      go_wp2
      go_roundw
      case rel=>exact⟨d,k+1,by omega,by omega,rfl,by go_num,X.out,n+nq,by rw[l.out];exact World.drewN_drewN _ _ _⟩
      case measure=>simp[SC];omega
    ·have Y:d=c.length:=by omega
     subst Y;have l:RJ (wr=g.drewN n):=i;clear i D E;go_wp2;exact⟨by rw[l.out];exact Pk.below_drewN (R5 _ _) n,Knows.cons (l:=[]) ⟨rfl,fun s v h=>by simp at h⟩ rfl⟩
   ·have Y:d=c.length:=NL x ba I.out;subst Y;have l:RJ (wr=g.drewN n):=i;clear i D E;go_wp2;exact⟨by rw[l.out];exact Pk.below_drewN (R5 _ _) n,Knows.cons (l:=[]) ⟨rfl,fun s v h=>by simp at h⟩ rfl⟩
 ·rw[p,q,o,B j];have bx:∀ g:RD,(binOp .eql 26 (.slice RA 0 0) (.slice RA 0 0)).run (aa.of Rz) g= .ok (.bool RF) g:=fun g=>by simp only[binOp];simp[run_equal_slice_nil g 26 43 _ _ _ aa.underlying26]
  have aw:((n:Int) != 0)=RF:=by simp;omega
  rcases A j with J|rfl
  ·have F:(n:Int)=3:=by omega
   rw[F];clear p q o N O B A u j aw L M y z J F;unfold sW VO;dsimp only;go_wp2;exact⟨R5 _ _,Knows.cons (l:=[]) ⟨rfl,fun s v h=>by simp at h⟩ rfl⟩
  ·by_cases J:n=3
   ·have F:(n:Int)=3:=by omega
    rw[F];clear p q o N O B A u j aw L M y z J F;unfold sW VO;dsimp only;go_wp2;exact⟨R5 _ _,Knows.cons (l:=[]) ⟨rfl,fun s v h=>by simp at h⟩ rfl⟩
   ·have bv:((n:Int) == 3)=RE:=by simp;omega
    clear p q o N O B A u j L M y z J;unfold sW VO;dsimp only;go_wp2;exact⟨R5 _ _,Knows.cons (l:=[]) ⟨rfl,fun s v h=>by simp at h⟩ rfl⟩
end Cc
namespace Cc
open Go Go.Conc
open Go.RowKit (Below)
open Ec
theorem jj{w0 a b:RD}(h:RelB (ff w0) w0 a)(c:RelB (ff a) a b):RelB (ff w0) w0 b:=h.trans (c.mono fun e d=>RK d h.size)
theorem xD{w0 a c:RD}(h:RelB (ff w0) w0 a)(e:∀ b,b<a.heap.size→c.heap[b]? =a.heap[b]?)(f:a.heap.size≤c.heap.size)(d:Sm a c):RelB (ff w0) w0 c:=jj h ⟨e,f,d.tape,d.os,d.output⟩
theorem xE{w0 c:RD}(h:RelB (ff w0) w0 c):∀ (b:Nat) o,w0.heap[b]? =Ry o→aV (aa.of Rz) o→c.heap[b]? =Ry o:=fun b o a _=>(h.at_ b (RH.1 a).1).trans a
theorem qc.Rj{d:RD}{base:Nat}{v:RB}{a:List (List aD)}(h:qc d base v a):Av d v a∧a.length≤R3∧∀ r∈a,r.length≤R3:=by
 obtain⟨H,e,m,-⟩:=h;have o:∀ {k:RO} {u g:Nat} {v:RB} {w:List RB},d.ownsRow base k u v g w→g≤R3:=fun {k u g v w} h=>by
  rcases h.2 with⟨_,l⟩|⟨b,j,x,_,_,_,p,y,_⟩
  ·omega
  ·omega
 refine⟨?_,o e,fun r C=>?_⟩
 ·have D:=e;rcases e.2 with⟨rfl,l⟩|⟨b,j,x,rfl,E,z,p,y,F,G⟩
  ·have:a=[]:=Ta l;subst this;exact⟨RA,0,0,0,rfl,RG _,fun h=>by simp at h,fun h=>by simp at h,fun c h=>by simp at h⟩
  ·refine⟨Ry ⟨b,0,RA⟩,b,0,j,rfl,p,fun _=>rfl,fun _=>(RH.1 z).1,fun c B=>?_⟩;obtain⟨i,q,f⟩:=m c a[c] (RS B);have n:=D.cells (g:=b) rfl c i q;rw[U2] at n;exact⟨i,n,ql.cm f⟩
 ·obtain⟨t,A,rfl⟩:=To C;obtain⟨i,q,f⟩:=m t a[t] (RS A);exact o f
theorem cY.take{w:RD}{f:Option Sl}{b off:Nat}{l:List cj}(h:cY w f b off l)(n:Nat):cY w f b off (l.take n):=by
 have d:∀ a,a<(l.take n).length→a<l.length:=fun a c=>by simp at c;omega
 exact⟨fun e=>h.addr (d 0 e),fun e=>h.lt (d 0 e),fun a c=>by rw[Tj];exact h.c0 a (d a c),fun a c=>by rw[Tj];exact h.c1 a (d a c),fun a c=>by rw[Tj];exact h.c2 a (d a c),fun a c=>by rw[Tj];exact h.c3 a (d a c),fun a c=>by rw[Tj];exact h.c4 a (d a c),fun a c=>by rw[Tj];exact h.c5 a (d a c),fun a c=>by rw[Tj];exact h.c6 a (d a c)⟩
theorem Qv:(Tryz.f8.name == "runtime.NumGoroutine")=RE:=by kernel_rfl
theorem DX:(Tryz.f9.name == "runtime.NumGoroutine")=RE:=by kernel_rfl
theorem N5:(VT.name == "runtime.NumGoroutine")=RE:=by kernel_rfl
theorem Qu{Post:RB→RD→Prop}{b:RU}{a:TZ}{todo:List Uk}{w:RD}{fn:Uj}{v:RB}(q:Rz.inits.idxOf? b.fn=RA)(n:b.kind= .normal)(o:a.defers=[])(i:Rz.funcs[b.fn]? =Ry fn)(j:(∀ w,(SD fn a.tmps).run Rz w= .ok v w)∧∀ w,(SD fn a.tmps).events Rz w #[]=#[])(r:∀ e,RelB (ff w) w e→Post v e):Xe (aa.of Rz) Rz Post (ff w) {b.at a todo with mode:=.returning} [] w:=by
 intro u e t x;refine EP (v:=v) q (fun y k=>⟨rfl,o,n,fn,i,j.1 _⟩) (fun c f d p l g=>?_) (fun c f=>?_)
 ·have:d=fn:=Vx (p.symm.trans i);subst this;rw[Vr] at g;have m:(SD d a.tmps).events Rz c #[]=#[]:=j.2 c;have h:l∈(SD d a.tmps).events Rz c #[]:=g;rw[m] at h;simp at h
 ·obtain⟨k,rfl⟩:=f;exact r _ (t.trans (RelB.at _ _ _))
section
variable {Post:RB→RD→Prop}{s:ByteArray}{ah:List Int}{rs:List cj}{co:Option Sl}{cb bk aF:Nat}{ro:Option Sl}{rb bq aI:Nat}{w0:RD}
theorem Ku(U:s.size≤R3)(a3:ah.length≤R3)(a1:ah.length≤aF)(bl:rs.length≤R3)(bj:rs.length≤aI)
 (Q:0<ah.length→co=Ry ⟨cb,bk,RA⟩) (a2:0<ah.length→cb<w0.heap.size) (a0:∀ j,j<ah.length→w0.cell? ⟨cb,bk+j,RA⟩=Ry (.int .i64 (ah.getD j 0))) (W:cY w0 ro rb bq rs) (a7:vH (aa.of Rz) w0)
 (bb:∀ g,RelB (ff w0) w0 g→Post (.bool RF) g):
 sn (aa.of Rz) Rz Post (RN (Sz Rz 6 #[.string s,.slice co ah.length aF,.slice ro rs.length aI] .normal) []) w0:=by
 have b:=fZ (aa.of Rz) Rz Post;refine Xe.go (own:=ff w0) ?_ (fun l c=>c) a7;rw[enter_at _ Tryz.func6 rfl];have a:=Rf (.string s) (.slice co ah.length aF) (.slice ro rs.length aI) 86 (by decide);obtain⟨f,hF⟩:=F3 s w0 U;obtain⟨V,aw⟩:=CC w0 hF;have bm:(ah.take 16).length=min ah.length 16:=by rw[Tb];omega
 have bo:(rs.take 16).length=min rs.length 16:=by rw[Tb];omega
 refine aM b ?_;refine aX b [0] rfl ?_;refine ak b (by decide) rfl rfl _ (aG rfl rfl) ?_;replace a:=a.put (d:=6) (by decide) (.bool RE);refine aj b ?_;refine aM b ?_;refine aX b [0,1,2] rfl ?_;refine ak b (by decide) rfl rfl _ (ay rfl (a.of rfl)) ?_;replace a:=a.put (d:=15) (by decide) (.slice co ah.length aF);refine pY (vs:= #[.slice co ah.length aF]) (R:=fun h v q=>∃ m,v= .slice co (ah.take 16).length m) dY rfl rfl rfl rfl (mO (a.of rfl)) Tryz.func8 Qv rfl (jJ rfl rfl rfl).symm (ep rfl (by simp only[put_defers]) (by kernel_rfl)) (fun h w L=>(MV co ah.length aF h a3 a1 fun c=>⟨_,_,Q c⟩).mono fun d q ⟨⟨m,_,y⟩,t⟩=>⟨by rw[t];exact Below.refl _ _,_,y,m,by rw[bm]⟩) fun v h q g w L cd i cl Y=>?_;obtain⟨n,rfl⟩:=i;replace a:=a.put (d:=16) (by decide) (.slice co (ah.take 16).length n);refine ak b (by decide) rfl rfl _ (aG rfl (a.of rfl)) ?_;replace a:=a.put (d:=1) (by decide) (.slice co (ah.take 16).length n);refine aj b ?_;refine aM b ?_;refine aX b [0,1,2] rfl ?_;refine ak b (by decide) rfl rfl _ (ay rfl (a.of rfl)) ?_;replace a:=a.put (d:=17) (by decide) (.slice ro rs.length aI);refine pY (vs:= #[.slice ro rs.length aI]) (R:=fun h v q=>∃ m,v= .slice ro (rs.take 16).length m) dY rfl rfl rfl rfl (mO (a.of rfl)) Tryz.func9 DX rfl (jJ rfl rfl rfl).symm (ep rfl (by simp only[put_defers]) (by kernel_rfl)) (fun h w L=>(yP ro rs.length aI h bl bj fun c=>⟨_,_,W.addr c⟩).mono fun d q ⟨⟨m,_,y⟩,t⟩=>⟨by rw[t];exact Below.refl _ _,_,y,m,by rw[bo]⟩) fun v b2 b3 cv ci cp ce i cn Z=>?_;obtain⟨o,rfl⟩:=i;replace a:=a.put (d:=18) (by decide) (.slice ro (rs.take 16).length o);refine ak b (by decide) rfl rfl _ (aG rfl (a.of rfl)) ?_;replace a:=a.put (d:=2) (by decide) (.slice ro (rs.take 16).length o);refine aj b ?_;have X:=jj Y Z;refine aM b ?_;refine aX b [0,1] rfl ?_;refine nV (vs:= #[]) (R:=fun g d e=>d= .returned (.bool RF)∧(∀ l,l<g.heap.size→e.heap[l]? =g.heap[l]?)∧g.heap.size≤e.heap.size) rfl rfl rfl rfl (by simp) Tryz.func26 N5 rfl (ep rfl (by simp only[put_defers]) (by kernel_rfl)) (fun bs J=>DT) (fun bs v p J u k a8=>?_) (fun p O e c=>by cases c.1) (fun p e c=>by cases c.1);obtain⟨d,R,ab⟩:=u;have r:=U0 d;subst r;have H:=xD (jj X J) R ab k;clear Y Z X R ab k J d;refine Xe.go (own:=ff p) ?_ (fun l c=>c) a8;replace a:=a.put (d:=19) (by decide) (.bool RF);refine ak b (by decide) rfl rfl _ (aG rfl (a.of rfl)) ?_;replace a:=a.put (d:=7) (by decide) (.bool RF);refine aj b ?_;have al:∀ (M:Bool) (D:RD),RelB (ff w0) w0 D→kA (aa.of Rz) Rz Post 13 #[.string s,.slice co (ah.take 16).length n,.slice ro (rs.take 16).length o,.bool M] D (zh (cg f V (ah.take 16) (rs.take 16) M) D):=fun M D C=>by
  have z:∀ j,j<(ah.take 16).length→j<ah.length:=fun j x=>by simp at x;omega
  refine xM (cb:=cb) (bk:=bk) (rb:=rb) (bq:=bq) U hF aw (by simp;omega) (by simp;omega) (fun c=>Q (z 0 c)) (fun c=>RK (a2 (z 0 c)) C.size) (fun j x=>?_) (Gf (xE C) C.size (cY.take W 16));rw[kP (xE C) (a0 j (z j x))];have y:=z j x;have t:j<16:=by simp at x;omega
  simp[RX,TJ,t]
 refine aM b ?_;refine aX b [0,1,2,3,4,5,6,7,8] rfl ?_;refine ak b (by decide) rfl rfl _ (ay rfl (a.of rfl)) ?_;replace a:=a.put (d:=21) (by decide) (.string s);refine ak b (by decide) rfl rfl _ (ay rfl (a.of rfl)) ?_;replace a:=a.put (d:=22) (by decide) (.slice co (ah.take 16).length n);refine ak b (by decide) rfl rfl _ (ay rfl (a.of rfl)) ?_;replace a:=a.put (d:=23) (by decide) (.slice ro (rs.take 16).length o);refine nV (vs:= #[.string s,.slice co (ah.take 16).length n,.slice ro (rs.take 16).length o,.bool RE]) (R:=fun g d e=>zh (cg f V (ah.take 16) (rs.take 16) RE) g d e) rfl rfl rfl rfl (rm (a.of rfl) (a.of rfl) (a.of rfl) rfl) Tryz.func13 FT rfl (ep rfl (by simp only[put_defers]) (by kernel_rfl)) (fun am A=>al RE am (jj H A)) (fun am v bt A u k a9=>?_) (fun p O e ⟨_,d,_⟩=>by cases d) (fun p e ⟨_,d,_⟩=>by cases d);obtain⟨E,d,G,a5,S,ad⟩:=u;have r:=U0 d;subst r;have I:=xD (jj H A) S ad k;clear H A S ad k d;refine Xe.go (own:=ff bt) ?_ (fun l c=>c) a9;replace a:=a.put (d:=24) (by decide) (.tuple #[E,.int .i64 ((cg f V (ah.take 16) (rs.take 16) RE).2:Int)]);refine ak b (by decide) rfl rfl _ (ay rfl (a.of rfl)) ?_;replace a:=a.put (d:=20) (by decide) (.tuple #[E,.int .i64 ((cg f V (ah.take 16) (rs.take 16) RE).2:Int)]);refine ak b (by decide) rfl rfl _ (bT rfl (a.of rfl) rfl) ?_;replace a:=a.put (d:=25) (by decide) E;refine ak b (by decide) rfl rfl _ (bT rfl (a.of rfl) rfl) ?_;replace a:=a.put (d:=26) (by decide) (.int .i64 ((cg f V (ah.take 16) (rs.take 16) RE).2:Int));refine ak b (by decide) rfl rfl _ (aG rfl (a.of rfl)) ?_;replace a:=a.put (d:=8) (by decide) E;refine ak b (by decide) rfl rfl _ (aG rfl (a.of rfl)) ?_;replace a:=a.put (d:=9) (by decide) (.int .i64 ((cg f V (ah.take 16) (rs.take 16) RE).2:Int));refine aj b ?_;refine aM b ?_;refine aX b [0,1,2,3,4,5,6,7,8] rfl ?_;refine ak b (by decide) rfl rfl _ (ay rfl (a.of rfl)) ?_;replace a:=a.put (d:=28) (by decide) (.string s);refine ak b (by decide) rfl rfl _ (ay rfl (a.of rfl)) ?_;replace a:=a.put (d:=29) (by decide) (.slice co (ah.take 16).length n);refine ak b (by decide) rfl rfl _ (ay rfl (a.of rfl)) ?_;replace a:=a.put (d:=30) (by decide) (.slice ro (rs.take 16).length o);refine nV (vs:= #[.string s,.slice co (ah.take 16).length n,.slice ro (rs.take 16).length o,.bool RF]) (R:=fun g d e=>zh (cg f V (ah.take 16) (rs.take 16) RF) g d e) rfl rfl rfl rfl (rm (a.of rfl) (a.of rfl) (a.of rfl) rfl) Tryz.func13 FT rfl (ep rfl (by simp only[put_defers]) (by kernel_rfl)) (fun ao B=>al RF ao (jj I B)) (fun ao v bu B u k ba=>?_) (fun p O e ⟨_,d,_⟩=>by cases d) (fun p e ⟨_,d,_⟩=>by cases d);obtain⟨F,d,a6,-,T,ae⟩:=u;have r:=U0 d;subst r;have K:=xD B T ae k;have bd:=jj I K;replace G:=qc.like G (xE K);clear I B T ae k d K;refine Xe.go (own:=ff bu) ?_ (fun l c=>c) ba;replace a:=a.put (d:=31) (by decide) (.tuple #[F,.int .i64 ((cg f V (ah.take 16) (rs.take 16) RF).2:Int)]);refine ak b (by decide) rfl rfl _ (ay rfl (a.of rfl)) ?_;replace a:=a.put (d:=27) (by decide) (.tuple #[F,.int .i64 ((cg f V (ah.take 16) (rs.take 16) RF).2:Int)]);refine ak b (by decide) rfl rfl _ (bT rfl (a.of rfl) rfl) ?_;replace a:=a.put (d:=32) (by decide) F;refine ak b (by decide) rfl rfl _ (bT rfl (a.of rfl) rfl) ?_;replace a:=a.put (d:=33) (by decide) (.int .i64 ((cg f V (ah.take 16) (rs.take 16) RF).2:Int));refine ak b (by decide) rfl rfl _ (aG rfl (a.of rfl)) ?_;replace a:=a.put (d:=10) (by decide) F;refine ak b (by decide) rfl rfl _ (aG rfl (a.of rfl)) ?_;replace a:=a.put (d:=11) (by decide) (.int .i64 ((cg f V (ah.take 16) (rs.take 16) RF).2:Int));refine aj b ?_;refine N2 dY a (by simp only[put_defers]) (sW VO) (fun h N q=>Knows N 86 [(6,.bool RF)]∧N.defers=[]) (fun s c=>by simp at c) (ep rfl (by simp only[put_defers]) (by kernel_rfl)) (fun v h i w L=>?_) fun cc b4 ca cx cu ck cs cf bc ch bi=>?_
 ·have P:=i 8 _ rfl;have ar:=i 10 _ rfl;obtain⟨bv,bx,bA⟩:=(qc.like G w).Rj;obtain⟨bB,b0,b1⟩:=(qc.like a6 w).Rj;exact MX h v _ _ _ _ (i 7 _ rfl) (i 9 _ rfl) (i 11 _ rfl) (by rw[P];exact bv) (by rw[ar];exact bB) bx b0 bA b1 (fun c=>by rw[P];exact a5 c) (fun c=>IY c) (fun c=>IZ c)
 ·obtain⟨a,a4⟩:=bc;exact Qu (by kernel_rfl) rfl a4 Tryz.func6 (jl Tryz.results6 (a.slot 6 _ rfl)) fun br be=>bb br (jj (jj bd bi) be)
end
end Cc
end Go.Proofs.YtjidbonhhpkljaaGreat
