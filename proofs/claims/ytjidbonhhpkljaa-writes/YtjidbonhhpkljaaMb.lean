/- What the proof stands on: EcRuns, EcRunsR, EcPlain, EcWide, EcList, EcColC, EcPacked, EcKeys, EcDictC, EcColumnC. -/
import Derived.Test.YtjidbonhhpkljaaMa
import Derived.Lib.AppendStr
import Derived.Lib.Strings
import Derived.Lib.Slices
import Derived.Lib.Small
import Derived.Lib.Walk
import Derived.Lib.BitFns
import Derived.Maps.OwnSet
import Derived.Maps.OwnOps
import Derived.DeepKeys4

/- Runs: as a plain function, and the contracts on both sides. -/
set_option linter.unusedVariables false
namespace Go.Proofs.Ytjidbonhhpkljaa.Ec
open Go.RowKit Go.Proofs.Ytjidbonhhpkljaa.Pk Go.Proofs.Ytjidbonhhpkljaa.Pm

/-- How many at the beginning are x. -/
def runLen (x : Int) : List Int → Nat
  | [] => 0
  | y :: r => if y = x then runLen x r + 1 else 0

def byteOf (x : Int) : Nat := (x % 256).toNat

/-- Runs, at most so many. -/
def runsF : Nat → List Int → List Nat
  | 0, _ => []
  | f + 1, l => match l with
    | [] => []
    | x :: r => vint (runLen x (x :: r)) ++ ([byteOf x] ++ runsF f ((x :: r).drop (runLen x (x :: r))))

def runsB (l : List Int) : List Nat := runsF l.length l

theorem runLen_le (x : Int) (l : List Int) : runLen x l ≤ l.length := by
  induction l with
  | nil => simp [runLen]
  | cons y r ih => simp only [runLen]; split <;> simp <;> omega
theorem runLen_in (x : Int) (l : List Int) (n : Nat) (h : n < runLen x l) : ∃ hn : n < l.length, l[n] = x := by
  induction l generalizing n with
  | nil => simp [runLen] at h
  | cons y r ih =>
    simp only [runLen] at h
    split at h
    · rename_i hy
      cases n with
      | zero => exact ⟨by simp, by simpa using hy⟩
      | succ m =>
        obtain ⟨h1, h2⟩ := ih m (by omega)
        exact ⟨by simp; exact h1, by simpa using h2⟩
    · omega
theorem runLen_out (x : Int) (l : List Int) (h : runLen x l < l.length) : l[runLen x l] ≠ x := by
  induction l with
  | nil => simp at h
  | cons y r ih =>
    simp only [runLen] at h ⊢
    by_cases hy : y = x
    · simp only [hy, if_true] at h ⊢
      have := ih (by simpa using h)
      simpa using this
    · simp only [hy, if_false] at h ⊢
      simpa using hy

/-- The run that begins at i. -/
def runAt (zs : List Int) (i : Nat) : Nat := runLen (zs.getD i 0) (zs.drop i)

theorem runAt_pos (zs : List Int) (i : Nat) (h : i < zs.length) : 0 < runAt zs i := by
  unfold runAt
  rw [List.drop_eq_getElem_cons h, getD_get h]
  simp [runLen]
theorem runAt_le (zs : List Int) (i : Nat) (h : i < zs.length) : i + runAt zs i ≤ zs.length := by
  have := runLen_le (zs.getD i 0) (zs.drop i)
  unfold runAt
  rw [List.length_drop] at this
  omega
theorem runAt_in (zs : List Int) (i n : Nat) (h : n < runAt zs i) : ∃ hn : i + n < zs.length, zs[i + n] = zs.getD i 0 := by
  obtain ⟨h1, h2⟩ := runLen_in _ _ n h
  have h3 : i + n < zs.length := by simp at h1; omega
  exact ⟨h3, by simpa using h2⟩
theorem runAt_out (zs : List Int) (i : Nat) (h : i + runAt zs i < zs.length) : zs[i + runAt zs i] ≠ zs.getD i 0 := by
  have := runLen_out (zs.getD i 0) (zs.drop i) (by unfold runAt at h; rw [List.length_drop]; omega)
  simpa [runAt] using this
theorem runsF_step (f : Nat) (zs : List Int) (i : Nat) (h : i < zs.length) : runsF (f + 1) (zs.drop i) = vint (runAt zs i) ++ ([byteOf (zs.getD i 0)] ++ runsF f (zs.drop (i + runAt zs i))) := by
  unfold runAt
  rw [List.drop_eq_getElem_cons h, getD_get h]
  simp only [runsF]
  rw [← List.drop_eq_getElem_cons h, List.drop_drop]
theorem runsF_end (f : Nat) (zs : List Int) (i : Nat) (h : ¬ i < zs.length) : runsF f (zs.drop i) = [] := by
  rw [List.drop_of_length_le (by omega)]
  cases f <;> rfl

theorem byteOf_lt (x : Int) : byteOf x < 256 := by unfold byteOf; omega
theorem byteOf_int (x : Int) : x % 256 = (byteOf x : Int) := by unfold byteOf; omega

theorem runsF_length (f : Nat) (l : List Int) : (runsF f l).length ≤ 11 * f := by
  induction f generalizing l with
  | zero => simp [runsF]
  | succ f ih =>
    cases l with
    | nil => simp [runsF]
    | cons x r =>
      simp only [runsF]
      have h1 := vintF_length 10 (runLen x (x :: r))
      have h2 := ih ((x :: r).drop (runLen x (x :: r)))
      simp only [List.length_append, List.length_singleton]
      unfold vint
      omega

set_option maxRecDepth 100000 in
set_option maxHeartbeats 4000000 in
theorem appendRuns_any (v : Value) (pre : List Nat) (zs : List Int) (ao : Option Addr) (b off cap base : Nat) (w : World) (hz : zs.length ≤ 100) (hl : pre.length ≤ 100000) (hbase : base ≤ w.heap.size)
    (hs : 0 < zs.length → ao = some ⟨b, off, none⟩) (hb : 0 < zs.length → b < w.heap.size) (hne : 0 < zs.length → v.ownBlock ≠ some b) (hc : ∀ j, j < zs.length → w.cell? ⟨b, off + j, none⟩ = some (.int .i64 (zs.getD j 0)))
    (hown : w.ownsRow base 5 1 v pre.length (bcells pre)) :
    Calls Try.prog 72 #[v, .slice ao zs.length cap] w fun e w' => ∃ v', e = .returned v' ∧ w'.ownsRow base 5 1 v' (pre ++ runsB zs).length (bcells (pre ++ runsB zs)) ∧ Grew w w' v v' := by
  obtain ⟨i0, hi, hz0, hz1, hz2⟩ := info_parts Try.info5
  go_enter Try.func72, Try.ntmps72
  go_wp2_with fail
  go_loopw [0, 5] (fun bv i wr => ∃ (k f : Nat) (bs : List Nat), k ≤ zs.length ∧ i = .int .i64 k ∧ zs.length ≤ k + f ∧ f ≤ 100 ∧ bs.length + 11 * f ≤ 1100 ∧ bs ++ runsF f (zs.drop k) = runsB zs ∧ wr.ownsRow base 5 1 bv (pre ++ bs).length (bcells (pre ++ bs)) ∧ Grew w wr v bv) (fun _ i _ => zs.length - (intOf i).toNat)
  case atStart => exact ⟨0, zs.length, [], Nat.zero_le _, rfl, by omega, hz, by simp; omega, rfl, by simpa using hown, Grew.refl _ _⟩
  case round =>
    clear hown
    obtain ⟨k, f, bs, hk, rfl, hkf, hf, hbl, hbs, hown, hgr⟩ := hrel
    rename World => wo
    have HBS : Hid (bs ++ runsF f (zs.drop k) = runsB zs) := hbs
    have HG : Hid (Grew w wo v u0) := hgr
    have hszr : w.heap.size ≤ wo.heap.size := hgr.by_.size
    clear hbs hgr
    have hpl : (pre ++ bs).length ≤ 200000 := by simp; omega
    generalize hpb : pre ++ bs = pb at *
    have HPB : Hid (pre ++ bs = pb) := hpb
    clear hpb
    by_cases hlt : k < zs.length
    · obtain rfl := hs (by omega)
      have hcr : ∀ j, j < zs.length → wo.cell? ⟨b, off + j, none⟩ = some (.int .i64 (zs.getD j 0)) := fun j hj => HG.out.by_.cell (hc j hj) (fun h => hne (by omega) h.symm)
      have HC : Hid (∀ j, j < zs.length → wo.cell? ⟨b, off + j, none⟩ = some (.int .i64 (zs.getD j 0))) := hcr
      have HRS : Hid _ := runsF_step (f - 1) zs k hlt
      have hrp := runAt_pos zs k hlt
      have hrl := runAt_le zs k hlt
      have HIN : Hid (∀ n, n < runAt zs k → ∃ hn : k + n < zs.length, zs[k + n] = zs.getD k 0) := fun n hn => runAt_in zs k n hn
      have HOUT : Hid (∀ h : k + runAt zs k < zs.length, zs[k + runAt zs k] ≠ zs.getD k 0) := fun h => runAt_out zs k h
      have hck := hcr k hlt
      clear hcr
      generalize runAt zs k = R at *
      generalize hx : zs.getD k 0 = x at *
      have HX : Hid (zs.getD k 0 = x) := hx
      clear hx
      go_wp2_with fail
      go_loopw [6] (fun j wq => ∃ m : Nat, k + 1 ≤ m ∧ m ≤ k + R ∧ j = .int .i64 (m : Int) ∧ ∃ n, wq = wo.drewN n) (fun j _ => zs.length + 1 - (intOf j).toNat)
      case atStart => exact ⟨k + 1, by omega, by omega, by go_num, 0, rfl⟩
      case round =>
        obtain ⟨m, hm1, hm2, rfl, n, hwq⟩ := hrel
        have HW : Hid (wr = wo.drewN n) := hwq
        have hck' : wr.cell? ⟨b, off + k, none⟩ = some (.int .i64 x) := by rw [hwq]; exact hck
        by_cases hmR : m < k + R
        · obtain ⟨hn, hv⟩ := HIN.out (m - k) (by omega)
          have hml : m < zs.length := by omega
          have hct : wr.cell? ⟨b, off + m, none⟩ = some (.int .i64 x) := by
            rw [hwq]
            have := HC.out m hml
            rw [getD_get hml] at this
            rw [show zs[m] = x from by rw [← hv]; congr 1; omega] at this
            exact this
          have hg : decide ((m : Int) < (zs.length : Int)) = true := by simpa using hml
          clear hck hwq hown hn hv
          go_wp2_with fail
          go_quiet (fail)
          go_wp2
          go_roundw
          case rel => exact ⟨m + 1, by omega, by omega, by go_num, n + nq, by rw [HW.out]; exact World.drewN_drewN _ _ _⟩
          case measure => simp [intOf]; omega
        · have HMR : Hid (m = k + R) := by show m = k + R; omega
          have hmk : k ≤ m := by omega
          have HSU : Hid (wrap64 ((m : Int) - (k : Int)) = (R : Int)) := by have := HMR.out; show _ = _; unfold wrap64; omega
          by_cases hml : m < zs.length
          · have hct : ∃ y, wr.cell? ⟨b, off + m, none⟩ = some (.int .i64 y) ∧ y ≠ x := by
              refine ⟨zs.getD m 0, by rw [hwq]; exact HC.out m hml, ?_⟩
              have e := HMR.out
              clear HSU
              subst e
              rw [getD_get hml]
              exact HOUT.out hml
            obtain ⟨y, hct, hyx⟩ := hct
            have hg : decide ((m : Int) < (zs.length : Int)) = true := by simpa using hml
            have he : (y == x) = false := by simpa using hyx
            have HOW : Hid (∀ q, (wr.drewN q).ownsRow base 5 1 u0 pb.length (bcells pb)) := fun q => by rw [hwq]; exact ownsRow_below hown (below_drewN (below_drewN (Below.refl _ _) n) q)
            have HGW : Hid (∀ q, Grew w (wr.drewN q) v u0) := fun q => by rw [hwq]; exact (HG.out.drewN n).drewN q
            clear hck hwq hown hmR hyx
            go_wp2_with fail
            go_quiet (fail)
            try clear hct
            have hwb : IntKind.u8.wrap x = x % 256 := by simp [IntKind.wrap, IntKind.bits, IntKind.signed]
            rw [byteOf_int] at hwb
            have hbl2 := byteOf_lt x
            have HBX : Hid (∃ y, y = byteOf x) := ⟨_, rfl⟩
            generalize hyb : byteOf x = yb at *
            have HYB : Hid (byteOf x = yb) := hyb
            clear HBX hyb
            have hvl := vintF_length 10 R
            have HV : Hid (∃ q, q = pb ++ vint R) := ⟨_, rfl⟩
            generalize hpv : pb ++ vint R = pv at *
            have hpvl : pv.length ≤ 200010 := by rw [← hpv, List.length_append]; unfold vint; omega
            have HPV : Hid (pb ++ vint R = pv) := hpv
            clear hpv HV
            have HA : Hid (Calls Try.prog 105 #[u0, .int .i64 ((m : Int) - (k : Int))] (wr.drewN nq) fun e w' => ∃ v', e = .returned v' ∧ w'.ownsRow base 5 1 v' pv.length (bcells pv) ∧ Grew (wr.drewN nq) w' u0 v') := by
              have h0 := appendNumber_any u0 pb R base (wr.drewN nq) (by omega) (by omega) (Nat.le_trans hbase (HGW.out nq).by_.size) (HOW.out nq)
              rw [HPV.out] at h0
              rw [show (m : Int) - (k : Int) = (R : Int) from by have := HMR.out; omega]
              exact h0
            go_wp2_with first
              | (go_at_call 105; refine HA.out.mono ?_; rintro e w1 ⟨v1, rfl, hown1, hg1⟩; have hg2 := (HGW.out nq).trans hg1; have hck1 := hg2.by_.cell (hc k hlt) (fun h => hne (by omega) h.symm); have HG2 : Hid (Grew w w1 v v1) := hg2; have hsz1 : w.heap.size ≤ w1.heap.size := hg2.by_.size; rw [HX.out] at hck1; clear hg2 hg1 hck')
              | (at_builtin; refine wpList_append_keep _ rfl _ _ 44 rfl base 5 i0 (.int .u8 0) 1 1 Try.underlying44 hi hz0 hz1 hz2 rfl (by decide) _ pv.length _ rfl (hown1.alloc _) ⟨w1.heap.size, 0, none⟩ 1 1 [.int .u8 (yb : Int)] rfl (by decide) rfl (one_at _ _ _) (one_oneB _) (by unfold maxLen; omega) (by omega) (by simp; omega) ?_; intro v2 w2 hown2 hgr2)
            have hgr3 := HG2.out.trans (Grew.append hgr2)
            rw [bcells_snoc] at hown2
            have e1 : pre ++ (bs ++ (vint R ++ [yb])) = pv ++ [yb] := by rw [← HPV.out, ← HPB.out]; simp [List.append_assoc]
            have e2 : (bs ++ (vint R ++ [yb])) ++ runsF (f - 1) (zs.drop m) = runsB zs := by
              have h1 := HRS.out
              rw [show f - 1 + 1 = f by omega] at h1
              rw [← HBS.out, h1, HMR.out]
              simp [List.append_assoc]
            refine ⟨⟨m, f - 1, bs ++ (vint R ++ [yb]), by omega, rfl, by omega, by omega, ?_, e2, ?_, hgr3⟩, by simp [intOf]; omega⟩
            · rw [List.length_append, List.length_append]; unfold vint; simp; omega
            · rw [e1]; simpa using hown2
          · have hg : decide ((m : Int) < (zs.length : Int)) = false := by simpa using hml
            have HOW : Hid (∀ q, (wr.drewN q).ownsRow base 5 1 u0 pb.length (bcells pb)) := fun q => by rw [hwq]; exact ownsRow_below hown (below_drewN (below_drewN (Below.refl _ _) n) q)
            have HGW : Hid (∀ q, Grew w (wr.drewN q) v u0) := fun q => by rw [hwq]; exact (HG.out.drewN n).drewN q
            clear hck hwq hown hmR
            go_wp2_with fail
            go_quiet (fail)
            try clear hct
            have hwb : IntKind.u8.wrap x = x % 256 := by simp [IntKind.wrap, IntKind.bits, IntKind.signed]
            rw [byteOf_int] at hwb
            have hbl2 := byteOf_lt x
            have HBX : Hid (∃ y, y = byteOf x) := ⟨_, rfl⟩
            generalize hyb : byteOf x = yb at *
            have HYB : Hid (byteOf x = yb) := hyb
            clear HBX hyb
            have hvl := vintF_length 10 R
            have HV : Hid (∃ q, q = pb ++ vint R) := ⟨_, rfl⟩
            generalize hpv : pb ++ vint R = pv at *
            have hpvl : pv.length ≤ 200010 := by rw [← hpv, List.length_append]; unfold vint; omega
            have HPV : Hid (pb ++ vint R = pv) := hpv
            clear hpv HV
            have HA : Hid (Calls Try.prog 105 #[u0, .int .i64 ((m : Int) - (k : Int))] (wr.drewN nq) fun e w' => ∃ v', e = .returned v' ∧ w'.ownsRow base 5 1 v' pv.length (bcells pv) ∧ Grew (wr.drewN nq) w' u0 v') := by
              have h0 := appendNumber_any u0 pb R base (wr.drewN nq) (by omega) (by omega) (Nat.le_trans hbase (HGW.out nq).by_.size) (HOW.out nq)
              rw [HPV.out] at h0
              rw [show (m : Int) - (k : Int) = (R : Int) from by have := HMR.out; omega]
              exact h0
            go_wp2_with first
              | (go_at_call 105; refine HA.out.mono ?_; rintro e w1 ⟨v1, rfl, hown1, hg1⟩; have hg2 := (HGW.out nq).trans hg1; have hck1 := hg2.by_.cell (hc k hlt) (fun h => hne (by omega) h.symm); have HG2 : Hid (Grew w w1 v v1) := hg2; have hsz1 : w.heap.size ≤ w1.heap.size := hg2.by_.size; rw [HX.out] at hck1; clear hg2 hg1 hck')
              | (at_builtin; refine wpList_append_keep _ rfl _ _ 44 rfl base 5 i0 (.int .u8 0) 1 1 Try.underlying44 hi hz0 hz1 hz2 rfl (by decide) _ pv.length _ rfl (hown1.alloc _) ⟨w1.heap.size, 0, none⟩ 1 1 [.int .u8 (yb : Int)] rfl (by decide) rfl (one_at _ _ _) (one_oneB _) (by unfold maxLen; omega) (by omega) (by simp; omega) ?_; intro v2 w2 hown2 hgr2)
            have hgr3 := HG2.out.trans (Grew.append hgr2)
            rw [bcells_snoc] at hown2
            have e1 : pre ++ (bs ++ (vint R ++ [yb])) = pv ++ [yb] := by rw [← HPV.out, ← HPB.out]; simp [List.append_assoc]
            have e2 : (bs ++ (vint R ++ [yb])) ++ runsF (f - 1) (zs.drop m) = runsB zs := by
              have h1 := HRS.out
              rw [show f - 1 + 1 = f by omega] at h1
              rw [← HBS.out, h1, HMR.out]
              simp [List.append_assoc]
            refine ⟨⟨m, f - 1, bs ++ (vint R ++ [yb]), by omega, rfl, by omega, by omega, ?_, e2, ?_, hgr3⟩, by simp [intOf]; omega⟩
            · rw [List.length_append, List.length_append]; unfold vint; simp; omega
            · rw [e1]; simpa using hown2
    · have hke : runsF f (zs.drop k) = [] := runsF_end f zs k hlt
      have HE : Hid (pre ++ runsB zs = pb) := by show _ = _; rw [← HBS.out, hke, List.append_nil]; exact HPB.out
      clear hke
      go_wp2
      go_ret
      exact ⟨_, rfl, by rw [HE.out]; exact hown, HG.out⟩
end Go.Proofs.Ytjidbonhhpkljaa.Ec

/- Runs: the document's side. -/
set_option linter.unusedVariables false
namespace Go.Proofs.Ytjidbonhhpkljaa.Ec
open Go.RowKit Go.Proofs.Ytjidbonhhpkljaa.Pk Go.Proofs.Ytjidbonhhpkljaa.Pm

theorem cell_after {W w1 : World} {p : Addr} {v : Value} (hb : Below W.heap.size W w1) (h : W.cell? p = some v) (hp : p.block < W.heap.size) : w1.cell? p = some v :=
  (hb.cell hp).trans h

theorem old_one {w w1 : World} {o : Obj} {p : Addr} {v : Value} (hp : p.block < w.heap.size) (hc : w.cell? p = some v) (h : Below ((w.alloc o).drew).heap.size (w.alloc o).drew w1) : w1.cell? p = some v :=
  ((below_one h).cell hp).trans hc
theorem old_two {w w1 : World} {p : Addr} {v : Value} (hp : p.block < w.heap.size) (hc : w.cell? p = some v) (h : Below w.drew.heap.size w.drew w1) : w1.cell? p = some v :=
  (h.cell (by simpa using hp)).trans hc

set_option maxRecDepth 100000 in
set_option maxHeartbeats 4000000 in
theorem runs_any (zs : List Int) (ao : Option Addr) (b off cap : Nat) (w : World) (hz : zs.length ≤ 100)
    (hs : 0 < zs.length → ao = some ⟨b, off, none⟩) (hb : 0 < zs.length → b < w.heap.size) (hc : ∀ j, j < zs.length → w.cell? ⟨b, off + j, none⟩ = some (.int .i64 (zs.getD j 0))) :
    Calls Try.prog 68 #[.slice ao zs.length cap] w fun e w' => e = .returned (.string (strOf (runsB zs))) ∧ Below w.heap.size w w' := by
  go_enter Try.func68, Try.ntmps68
  go_wp2_with fail
  go_loopw [3, 4] (fun sv i wr => ∃ (k f : Nat) (bs : List Nat), k ≤ zs.length ∧ sv = .string (strOf bs) ∧ i = .int .i64 k ∧ zs.length ≤ k + f ∧ f ≤ 100 ∧ bs.length + 11 * f ≤ 1100 ∧ bs ++ runsF f (zs.drop k) = runsB zs ∧ Below w.heap.size w wr) (fun _ i _ => zs.length - (intOf i).toNat)
  case atStart => exact ⟨0, zs.length, [], Nat.zero_le _, rfl, rfl, by omega, hz, by simp; omega, rfl, Below.refl _ _⟩
  case round =>
    obtain ⟨k, f, bs, hk, rfl, rfl, hkf, hf, hbl, hbs, hbel⟩ := hrel
    rename World => wo
    have HBS : Hid (bs ++ runsF f (zs.drop k) = runsB zs) := hbs
    have HB : Hid (Below w.heap.size w wo) := hbel
    have hszr : w.heap.size ≤ wo.heap.size := hbel.size
    have hSz : (strOf bs).size ≤ 1100 := by rw [Pk.strOf_size]; omega
    have hST : Hid (∃ S, S = strOf bs) := ⟨_, rfl⟩
    generalize hS : strOf bs = S at *
    have HS : Hid (strOf bs = S) := hS
    clear hbs hbel hS hST
    by_cases hlt : k < zs.length
    · obtain rfl := hs (by omega)
      have hcr : ∀ j, j < zs.length → wo.cell? ⟨b, off + j, none⟩ = some (.int .i64 (zs.getD j 0)) := fun j hj => (HB.out.cell (hb (by omega))).trans (hc j hj)
      have HC : Hid (∀ j, j < zs.length → wo.cell? ⟨b, off + j, none⟩ = some (.int .i64 (zs.getD j 0))) := hcr
      have HRS : Hid _ := runsF_step (f - 1) zs k hlt
      have hrp := runAt_pos zs k hlt
      have hrl := runAt_le zs k hlt
      have HIN : Hid (∀ n, n < runAt zs k → ∃ hn : k + n < zs.length, zs[k + n] = zs.getD k 0) := fun n hn => runAt_in zs k n hn
      have HOUT : Hid (∀ h : k + runAt zs k < zs.length, zs[k + runAt zs k] ≠ zs.getD k 0) := fun h => runAt_out zs k h
      have hck := hcr k hlt
      clear hcr
      generalize runAt zs k = R at *
      generalize hx : zs.getD k 0 = x at *
      have HX : Hid (zs.getD k 0 = x) := hx
      clear hx
      go_wp2_with fail
      go_loopw [5] (fun j wq => ∃ t : Nat, t ≤ R ∧ j = .int .i64 (t : Int) ∧ ∃ n, wq = wo.drewN n) (fun j _ => zs.length + 1 - (intOf j).toNat)
      case atStart => exact ⟨0, by omega, rfl, 0, rfl⟩
      case round =>
        obtain ⟨t, ht, rfl, n, hwq⟩ := hrel
        have HW : Hid (wr = wo.drewN n) := hwq
        have hck' : wr.cell? ⟨b, off + k, none⟩ = some (.int .i64 x) := by rw [hwq]; exact hck
        by_cases htR : t < R
        · obtain ⟨hn, hv⟩ := HIN.out t htR
          have hct : wr.cell? ⟨b, off + (k + t), none⟩ = some (.int .i64 x) := by
            rw [hwq]
            have := HC.out (k + t) hn
            rwa [getD_get hn, hv] at this
          have hg : decide ((k : Int) + (t : Int) < (zs.length : Int)) = true := by simp; omega
          clear hck hwq hv
          go_wp2_with fail
          go_quiet (fail)
          go_wp2
          go_roundw
          case rel => exact ⟨t + 1, by omega, by go_num, n + nq, by rw [HW.out]; exact World.drewN_drewN _ _ _⟩
          case measure => simp [intOf]; omega
        · have HMR : Hid (t = R) := by show t = R; omega
          have hwb : IntKind.u8.wrap x = x % 256 := by simp [IntKind.wrap, IntKind.bits, IntKind.signed]
          rw [byteOf_int] at hwb
          have hwt : IntKind.u64.wrap (t : Int) = (t : Int) := by rw [wrap_u64]; omega
          generalize hyb : byteOf x = yb at *
          have HYB : Hid (byteOf x = yb) := hyb
          clear hyb
          have hvl := vintF_length 10 R
          have hVz : (strOf (vint R)).size ≤ 10 := by rw [Pk.strOf_size]; unfold vint; omega
          have HV : Hid (∀ W : World, Calls Try.prog 87 #[.int .u64 (t : Int)] W fun e w' => e = .returned (.string (strOf (vint R))) ∧ Below W.heap.size W w') := fun W => by
            rw [HMR.out]; exact varint_any R W (by omega)
          generalize hVV : strOf (vint R) = V at *
          have HVV : Hid (strOf (vint R) = V) := hVV
          clear hVV hvl
          have hYz : (strOf [yb]).size = 1 := by rw [Pk.strOf_size]; rfl
          have hs1 : ¬ 9223372036854775807 < S.size + V.size := by omega
          have hs2 : ¬ 9223372036854775807 < S.size + V.size + (strOf [yb]).size := by omega
          have hcv : ∀ (W : World) (g : Nat), W.cell? ⟨g, 0, none⟩ = some (.int .u8 (yb : Int)) → (convert 44 9 (.slice (some ⟨g, 0, none⟩) 1 1)).run Try.prog W = .ok (.string (strOf [yb])) W := fun W g h => conv_one h
          have HBW : Hid (Below w.heap.size w wr) := by show Below _ _ _; rw [hwq]; exact below_drewN HB.out n
          have hbw : b < wr.heap.size := Nat.lt_of_lt_of_le (hb (by omega)) HBW.out.size
          have hkz : (k : Int) < (zs.length : Int) := by omega
          have HEND : Hid (∀ W : World, Below w.heap.size w W → ∃ (k1 f : Nat) (bs : List Nat), k1 ≤ zs.length ∧ Value.string (S ++ V ++ strOf [yb]) = .string (strOf bs) ∧ Value.int .i64 ((k : Int) + (t : Int)) = .int .i64 (k1 : Int) ∧ zs.length ≤ k1 + f ∧ f ≤ 100 ∧ bs.length + 11 * f ≤ 1100 ∧ bs ++ runsF f (zs.drop k1) = runsB zs ∧ Below w.heap.size w W) := fun W hW => by
            have h1 := HRS.out
            rw [show f - 1 + 1 = f by omega] at h1
            have h2 := HMR.out
            have h3 := vintF_length 10 R
            refine ⟨k + t, f - 1, bs ++ (vint R ++ [yb]), by omega, ?_, by simp, by omega, by omega, ?_, ?_, hW⟩
            · rw [← HS.out, ← HVV.out, strOf_append, strOf_append, ByteArray.append_assoc]
            · rw [List.length_append, List.length_append]; unfold vint; simp; omega
            · rw [← HBS.out, h1, h2]; simp [List.append_assoc]
          have htp : 0 < t := by have := HMR.out; omega
          by_cases htl : k + t < zs.length
          · have hct : ∃ y, wr.cell? ⟨b, off + (k + t), none⟩ = some (.int .i64 y) ∧ y ≠ x := by
              refine ⟨zs.getD (k + t) 0, by rw [hwq]; exact HC.out (k + t) htl, ?_⟩
              have e := HMR.out
              subst e
              rw [getD_get htl]
              exact HOUT.out htl
            obtain ⟨y, hct, hyx⟩ := hct
            have hg : decide ((k : Int) + (t : Int) < (zs.length : Int)) = true := by simp; omega
            have he : (y == x) = false := by simpa using hyx
            clear hck hwq htR hyx
            go_wp2_with fail
            go_quiet (fail)
            try clear hct
            go_wp2_with fail
            have hckz : (wr.drewN nq).cell? ⟨b, off + k, none⟩ = some (.int .i64 x) := hck'
            have hbz : b < (wr.drewN nq).heap.size := hbw
            have HBZ : Hid (Below w.heap.size w (wr.drewN nq)) := below_drewN HBW.out nq
            clear hck' hbw
            generalize wr.drewN nq = wz at *
            have hbz' : (⟨b, off + k, none⟩ : Addr).block < wz.heap.size := hbz
            go_region_with (go_at_call 87; refine (HV.out _).mono ?_; rintro e w1 ⟨rfl, hb1⟩; (try have hcc := after_new hb1); (first | have hk1 := old_two hbz' hckz hb1 | have hk1 := old_one hbz' hckz hb1))
            all_goals go_wp2
            all_goals go_roundw
            all_goals first
              | exact HEND.out _ (HBZ.out.trans ((below_one hb1).mono HBZ.out.size))
              | exact HEND.out _ (HBZ.out.trans ((below_two _ hb1).mono HBZ.out.size))
              | (simp [intOf]; omega)
          · have hg : decide ((k : Int) + (t : Int) < (zs.length : Int)) = false := by simp; omega
            clear hck hwq htR
            go_wp2_with fail
            go_quiet (fail)
            go_wp2_with fail
            have hckz : (wr.drewN nq).cell? ⟨b, off + k, none⟩ = some (.int .i64 x) := hck'
            have hbz : b < (wr.drewN nq).heap.size := hbw
            have HBZ : Hid (Below w.heap.size w (wr.drewN nq)) := below_drewN HBW.out nq
            clear hck' hbw
            generalize wr.drewN nq = wz at *
            have hbz' : (⟨b, off + k, none⟩ : Addr).block < wz.heap.size := hbz
            go_region_with (go_at_call 87; refine (HV.out _).mono ?_; rintro e w1 ⟨rfl, hb1⟩; (try have hcc := after_new hb1); (first | have hk1 := old_two hbz' hckz hb1 | have hk1 := old_one hbz' hckz hb1))
            all_goals go_wp2
            all_goals go_roundw
            all_goals first
              | exact HEND.out _ (HBZ.out.trans ((below_one hb1).mono HBZ.out.size))
              | exact HEND.out _ (HBZ.out.trans ((below_two _ hb1).mono HBZ.out.size))
              | (simp [intOf]; omega)
    · have hke : runsF f (zs.drop k) = [] := runsF_end f zs k hlt
      have HE : Hid (strOf (runsB zs) = S) := by show _ = _; rw [← HBS.out, hke, List.append_nil]; exact HS.out
      clear hke
      go_wp2
      go_ret
      exact ⟨by rw [HE.out]; rfl, HB.out⟩
end Go.Proofs.Ytjidbonhhpkljaa.Ec

/- Single values as Plain: as a plain function, and the contracts on both sides. -/
set_option linter.unusedVariables false
namespace Go.Proofs.Ytjidbonhhpkljaa.Ec
open Go.RowKit Go.Proofs.Ytjidbonhhpkljaa.Pk Go.Proofs.Ytjidbonhhpkljaa.Pm

theorem strOf_bytesOf (s : ByteArray) : strOf (bytesOf s) = s := by
  unfold strOf bytesOf strOfNums
  apply ByteArray.ext
  apply Array.ext'
  have h : ∀ x : UInt8, ((fun n : Int => UInt8.ofNat n.toNat) ∘ (fun n : Nat => (n : Int)) ∘ UInt8.toNat) x = x := fun x => by simp
  simp
  rw [List.map_congr_left (fun x _ => h x)]
  simp
theorem bytesOf_length (s : ByteArray) : (bytesOf s).length = s.size := by
  unfold bytesOf
  simp
theorem strCells_bytes (s : ByteArray) : Lib.strCells s = bcells (bytesOf s) := by
  unfold Lib.strCells bcells bytesOf
  simp
theorem bytesOf_lt (s : ByteArray) : ∀ x ∈ bytesOf s, x < 256 := by
  intro x hx
  unfold bytesOf at hx
  obtain ⟨y, _, rfl⟩ := List.mem_map.1 hx
  exact y.toNat_lt

/-- 'append(b, s...)', s a string: the row lies where it lay, or in new memory. -/
theorem run_append_str_keep {P : Program} (w : World) (base : Nat) (t u ty e : TypeId) (i : TypeInfo) (ht : P.underlying t = some (.slice e)) (hu : P.underlying u = some .string) (hi : P.info? e = some i) (hz : i.zero = some (.int .u8 0))
    (hsize : i.size = 1) (hby : i.bytes = 1) (v : Value) (n : Nat) (xs : List Value) (hown : w.ownsRow base e 1 v n xs) (s : ByteArray)
    (h63 : n + s.size ≤ maxLen) (hbytes : n + s.size ≤ 140737488355328) (hbase : base ≤ w.heap.size) :
    ∃ v' w', (Builtin.append_ #[t, u] ty #[v, .string s]).run P w = .ok v' w' ∧ w'.ownsRow base e 1 v' (n + s.size) (xs ++ Lib.strCells s) ∧ Grew w w' v v' := by
  obtain ⟨v', w', hr, ho, hg, hn⟩ := Lib.run_append_own_string (P := P) w base t u ty e i ht hu hi hz hsize hby v n xs hown s h63 hbytes hbase
  refine ⟨v', w', hr, ho, hg, ?_⟩
  unfold maxLen at h63
  rcases hown.2 with ⟨rfl, rfl⟩ | ⟨g, cap, cur, rfl, hbg, hgb, hnc, hcm, hcs, htake⟩
  · by_cases hs : s.size = 0
    · rw [hn.2 ⟨rfl, hs⟩]
      exact fun _ h => .inl h
    · have h2 := Lib.run_append_own_string (P := P) w w.heap.size t u ty e i ht hu hi hz hsize hby _ 0 xs ⟨hown.1, .inl ⟨rfl, rfl⟩⟩ s h63 hbytes (Nat.le_refl _)
      obtain ⟨v2, w2, hr2, ho2, -, -⟩ := h2
      rw [hr] at hr2
      cases hr2
      exact fun k hk => .inr (ho2.lt k hk).1
  · by_cases hroom : n + s.size ≤ cap
    · by_cases hc0 : 0 < cap
      · obtain ⟨w2, hr2, -, -⟩ : ∃ w2, (Builtin.append_ #[t, u] ty #[.slice (some ⟨g, 0, none⟩) n cap, .string s]).run P w = .ok (.slice (some ⟨g, 0, none⟩) (n + s.size) cap) w2 ∧ True ∧ True := by
          have hcs' : cur.size = cap := by simpa using hcs
          exact ⟨_, Lib.run_append_room_string (P := P) w t u ty e i ht hu hi hsize g n cap cur hgb s hroom (by omega), trivial, trivial⟩
        rw [hr] at hr2
        cases hr2
        exact fun k hk => .inl hk
      · have hcs' : cur.size = cap := by simpa using hcs
        have hr2 := Lib.run_append_room_string (P := P) w t u ty e i ht hu hi hsize g n cap cur hgb s hroom (by omega)
        rw [hr] at hr2
        cases hr2
        exact fun k hk => .inl hk
    · have hxl : xs.length = n := by simpa using hown.1
      have hr2 := Lib.run_append_grow_string (P := P) w t u ty e i (.int .u8 0) ht hu hi hz ⟨g, 0, none⟩ n cap xs (by rw [hsize]; simpa using hxl) (hown.cells (g := g) rfl) s (by omega) (by omega) (by rw [hby]; exact growslice_fits (by omega) (by omega))
      rw [hr] at hr2
      cases hr2
      intro k hk
      simp [Value.ownBlock] at hk
      exact .inr (by omega)

theorem wpList_append_str_keep {P : Program} (w : World) {ops : Array Oper} {rest : List Oper} {o : Oper} {a : Act} {Q : Exit → Act → World → Prop} (hgd : o.guard = none) (sl x : Operand) (t u : TypeId)
    (ho : o.op = .call { callee := .builtin .append, args := #[sl, x], argTypes := #[t, u] })
    (base : Nat) (e : TypeId) (i : TypeInfo) (ht : P.underlying t = some (.slice e)) (hu : P.underlying u = some .string) (hi : P.info? e = some i) (hz : i.zero = some (.int .u8 0))
    (hsize : i.size = 1) (hby : i.bytes = 1) (v : Value) (n : Nat) (xs : List Value) (hs : a.eval sl = v) (hown : w.ownsRow base e 1 v n xs) (s : ByteArray) (hx : a.eval x = .string s)
    (h63 : n + s.size ≤ maxLen) (hbytes : n + s.size ≤ 140737488355328) (hbase : base ≤ w.heap.size)
    (h : ∀ v' w', w'.ownsRow base e 1 v' (n + s.size) (xs ++ Lib.strCells s) → Grew w w' v v' → wpList P ops Q rest (a.put o.dst v') w') : wpList P ops Q (o :: rest) a w := by
  refine wpList_plain hgd fun K hK => ?_
  obtain ⟨v', w', hr, h2, h3⟩ := run_append_str_keep (P := P) w base t u o.type e i ht hu hi hz hsize hby v n xs hown s h63 hbytes hbase
  unfold Oper.wp execOp
  simp only [ho, resolve, invoke, builtin, Sem.run_bind, Sem.run_pure, Result.andThen_ok, List.map_toArray, List.map_cons, List.map_nil, hs, hx, hr]
  exact hK _ _ (h v' w' h2 h3)

/-- A value as Plain. -/
def plainB (k : Int) (v : Val) : List Nat := if k = 1 then vint (zz v.n) else if k = 2 then [byteOf v.n] else vint v.s.size ++ bytesOf v.s

theorem plainB_length (k : Int) (v : Val) (h : v.s.size ≤ 32) : (plainB k v).length ≤ 42 := by
  have h1 := vintF_length 10 (zz v.n)
  have h2 := vintF_length 10 v.s.size
  unfold plainB
  split
  · unfold vint; omega
  · split
    · simp
    · rw [List.length_append, bytesOf_length]; unfold vint; omega

/-- What is asked of a value ahead of being written. -/
structure VOk (v : Val) : Prop where
  lo : -9223372036854775808 ≤ v.n
  hi : v.n ≤ 9223372036854775807
  sz : v.s.size ≤ 32

theorem Grew.box {w w1 : World} {v v1 : Value} {o : Obj} (h : Grew (w.alloc o) w1 v v1) : Grew w w1 v v1 := ((Grew.refl w v).alloc o).trans h
theorem below_box {w w1 : World} {o : Obj} (h : Below (w.alloc o).heap.size (w.alloc o) w1) : Below w.heap.size w w1 :=
  ((Below.refl _ _).alloc (Nat.le_refl _) o).trans (h.mono (by simp))

theorem box_two {w w1 : World} {a b c : Value} {t : TypeId} (h : Below ((w.alloc (.cells #[a, b, c] t)).drew).heap.size (w.alloc (.cells #[a, b, c] t)).drew w1) : w1.cell? ⟨w.heap.size, 2, none⟩ = some c :=
  (h.cell (p := ⟨w.heap.size, 2, none⟩) (by simp)).trans (by simp)

set_option maxRecDepth 100000 in
set_option maxHeartbeats 2000000 in
theorem plain_any (v : Val) (k : Int) (w : World) (hk : k = 1 ∨ k = 2 ∨ k = 3) (hv : VOk v) :
    Calls Try.prog 88 #[.agg #[.bool v.null, .int .i64 v.n, .string v.s], .int .i64 k] w fun e w' => e = .returned (.string (strOf (plainB k v))) ∧ Below w.heap.size w w' := by
  obtain ⟨h0, h1, h2⟩ := hv
  rcases hk with rfl | rfl | rfl
  · rw [show plainB 1 v = vint (zz v.n) from by simp [plainB]]
    have HZ := zigzag_any v.n h0 h1
    have HV := fun W => varint_any (zz v.n) W (zz_lt _ h0 h1)
    go_enter Try.func88, Try.ntmps88
    go_wp2_with first
      | (go_at_call 103; refine (HZ _).mono ?_; rintro e w1 ⟨rfl, rfl⟩)
      | (go_at_call 87; refine (HV _).mono ?_; rintro e w1 ⟨rfl, hb1⟩)
    go_ret
    exact ⟨rfl, below_box hb1⟩
  · rw [show plainB 2 v = [byteOf v.n] from by simp [plainB]]
    have hwb : IntKind.u8.wrap v.n = v.n % 256 := by simp [IntKind.wrap, IntKind.bits, IntKind.signed]
    rw [byteOf_int] at hwb
    have hcv : ∀ (W : World) (g : Nat), W.cell? ⟨g, 0, none⟩ = some (.int .u8 (byteOf v.n : Int)) → (convert 44 9 (.slice (some ⟨g, 0, none⟩) 1 1)).run Try.prog W = .ok (.string (strOf [byteOf v.n])) W := fun W g h => conv_one h
    go_enter Try.func88, Try.ntmps88
    go_wp2
    go_ret
    exact ⟨rfl, ((Below.refl _ _).alloc (Nat.le_refl _) _).alloc (by simp) _⟩
  · rw [show plainB 3 v = vint v.s.size ++ bytesOf v.s from by simp [plainB], strOf_append, strOf_bytesOf]
    have HV := fun W => varint_any v.s.size W (by omega)
    have hl := vintF_length 10 v.s.size
    have hsz : ¬ 9223372036854775807 < (strOf (vint v.s.size)).size + v.s.size := by rw [Pk.strOf_size]; unfold vint; omega
    go_enter Try.func88, Try.ntmps88
    go_wp2_with fail
    have hwz : IntKind.u64.wrap (v.s.size : Int) = (v.s.size : Int) := by rw [wrap_u64]; omega
    go_region_with (go_at_call 87; refine (HV _).mono ?_; rintro e w1 ⟨rfl, hb1⟩; have hk1 := box_two hb1)
    all_goals
      go_wp2
      go_ret
      exact ⟨rfl, below_one hb1⟩

theorem box_kept {w w1 : World} {u u1 a b c : Value} {t : TypeId} (hub : u.ownBlock ≠ some w.heap.size) (h : Grew (w.alloc (.cells #[a, b, c] t)) w1 u u1) : w1.cell? ⟨w.heap.size, 2, none⟩ = some c :=
  h.by_.cell (a := ⟨w.heap.size, 2, none⟩) (v := c) (by simp) (fun h => hub h.symm)

set_option maxRecDepth 100000 in
set_option maxHeartbeats 2000000 in
theorem appendPlain1_any (u : Value) (pre : List Nat) (v : Val) (k : Int) (base : Nat) (w : World) (hk : k = 1 ∨ k = 2 ∨ k = 3) (hv : VOk v) (hl : pre.length ≤ 4000000) (hb : base ≤ w.heap.size)
    (hown : w.ownsRow base 5 1 u pre.length (bcells pre)) :
    Calls Try.prog 106 #[u, .agg #[.bool v.null, .int .i64 v.n, .string v.s], .int .i64 k] w fun e w' => ∃ u', e = .returned u' ∧ w'.ownsRow base 5 1 u' (pre ++ plainB k v).length (bcells (pre ++ plainB k v)) ∧ Grew w w' u u' := by
  obtain ⟨i0, hi, hz0, hz1, hz2⟩ := info_parts Try.info5
  obtain ⟨h0, h1, h2⟩ := hv
  rcases hk with rfl | rfl | rfl
  · rw [show plainB 1 v = vint (zz v.n) from by simp [plainB]]
    have HZ := czigzag_any v.n h0 h1
    have HA : Hid (∀ o, Calls Try.prog 136 #[u, .int .u64 (zz v.n)] (w.alloc o) fun e w' => ∃ v', e = .returned v' ∧ w'.ownsRow base 5 1 v' (pre ++ vint (zz v.n)).length (bcells (pre ++ vint (zz v.n))) ∧ Grew (w.alloc o) w' u v') := fun o =>
      appendVarint_any u pre (zz v.n) base (w.alloc o) (zz_lt _ h0 h1) (by omega) (by simp; omega) (hown.alloc o)
    clear hown
    go_enter Try.func106, Try.ntmps106
    go_wp2_with first
      | (go_at_call 137; refine (HZ _).mono ?_; rintro e w1 ⟨rfl, rfl⟩)
      | (go_at_call 136; refine (HA.out _).mono ?_; rintro e w1 ⟨v1, rfl, hw1, hg1⟩)
    go_ret
    exact ⟨_, rfl, hw1, hg1.box⟩
  · rw [show plainB 2 v = [byteOf v.n] from by simp [plainB]]
    have hwb : IntKind.u8.wrap v.n = v.n % 256 := by simp [IntKind.wrap, IntKind.bits, IntKind.signed]
    rw [byteOf_int] at hwb
    generalize byteOf v.n = y at *
    go_enter Try.func106, Try.ntmps106
    go_wp2_with (at_builtin; refine wpList_append_keep _ rfl _ _ 44 rfl base 5 i0 (.int .u8 0) 1 1 Try.underlying44 hi hz0 hz1 hz2 rfl (by decide) _ pre.length _ rfl ((hown.alloc _).alloc _) ⟨w.heap.size + 1, 0, none⟩ 1 1 [.int .u8 (y : Int)] rfl (by decide) rfl (by simpa using one_at (w.alloc _) _ _) (one_oneB _) (by unfold maxLen; omega) (by omega) (by simp; omega) ?_; intro v2 w2 hown2 hgr2)
    go_ret
    have hg3 : Grew w w2 u v2 := Grew.box (Grew.append hgr2)
    rw [bcells_snoc] at hown2
    exact ⟨_, rfl, by simpa using hown2, hg3⟩
  · rw [show plainB 3 v = vint v.s.size ++ bytesOf v.s from by simp [plainB], ← List.append_assoc]
    have hvl := vintF_length 10 v.s.size
    have hub : u.ownBlock ≠ some w.heap.size := fun h => by have := (hown.lt _ h).2; omega
    have HA : Hid (∀ o, Calls Try.prog 105 #[u, .int .i64 (v.s.size : Int)] (w.alloc o) fun e w' => ∃ v', e = .returned v' ∧ w'.ownsRow base 5 1 v' (pre ++ vint v.s.size).length (bcells (pre ++ vint v.s.size)) ∧ Grew (w.alloc o) w' u v') := fun o =>
      appendNumber_any u pre v.s.size base (w.alloc o) (by omega) (by omega) (by simp; omega) (hown.alloc o)
    have hql : (pre ++ vint v.s.size).length ≤ 4000010 := by rw [List.length_append]; unfold vint; omega
    generalize pre ++ vint v.s.size = pv at *
    have hbl := bytesOf_length v.s
    have hsc := strCells_bytes v.s
    generalize bytesOf v.s = ys at *
    clear hown
    go_enter Try.func106, Try.ntmps106
    go_wp2_with first
      | (go_at_call 105; refine (HA.out _).mono ?_; rintro e w1 ⟨v1, rfl, hw1, hg1⟩; have hk1 := box_kept hub hg1; have hz1' := hg1.by_.size)
      | (at_builtin; refine wpList_append_str_keep _ rfl _ _ 44 9 rfl base 5 i0 Try.underlying44 Try.underlying9 hi hz0 hz1 hz2 _ pv.length _ rfl hw1 v.s rfl ?_ ?_ ?_ ?_; (unfold maxLen; omega); omega; (simp at hz1'; omega); intro v2 w2 hown2 hgr2)
    go_ret
    rw [hsc] at hown2
    refine ⟨_, rfl, ?_, (hg1.box).trans hgr2⟩
    rw [← hbl] at hown2
    simpa [bcells] using hown2
end Go.Proofs.Ytjidbonhhpkljaa.Ec

/- How many bits a place among so many wants: on both sides. -/
set_option linter.unusedVariables false
namespace Go.Proofs.Ytjidbonhhpkljaa.Ec
open Go.RowKit Go.Proofs.Ytjidbonhhpkljaa.Pk Go.Proofs.Ytjidbonhhpkljaa.Pm

def wid (n : Nat) : Nat := if n ≤ 1 then 0 else if n ≤ 2 then 1 else if n ≤ 4 then 2 else if n ≤ 8 then 3 else if n ≤ 16 then 4 else if n ≤ 32 then 5 else if n ≤ 64 then 6 else 7

theorem wid_le (n : Nat) : wid n ≤ 7 := by unfold wid; repeat' split
                                           all_goals omega
theorem wid_pow : ∀ n, n < 101 → ∀ t, t < 8 → (2 ^ t < n ↔ t < wid n) := by decide +kernel
theorem wid_fits (n : Nat) (h : n ≤ 100) (j : Nat) (hj : j < n) : j < 2 ^ wid n := by
  have h1 := wid_le n
  have h2 := (wid_pow n (by omega) (wid n) (by omega))
  omega

theorem wid_bits : ∀ x, x < 128 → Lib.bitLen x = wid (x + 1) := by decide +kernel

set_option maxRecDepth 100000 in
set_option maxHeartbeats 1000000 in
theorem wide_any (n : Nat) (hn : n ≤ 100) (w : World) : Calls Try.prog 104 #[.int .i64 n] w fun e w' => e = .returned (.int .i64 (wid n)) ∧ w' = w := by
  have hw7 := wid_le n
  have HP : Hid (∀ t, t ≤ 7 → (pw t < (n : Int) ↔ t < wid n)) := fun t ht => by
    have := wid_pow n (by omega) t (by omega)
    unfold pw; omega
  generalize wid n = W at *
  go_enter Try.func104, Try.ntmps104
  go_wp2_with fail
  go_loopw [3] (fun i wr => ∃ t : Nat, t ≤ W ∧ i = .int .i64 t ∧ wr = w) (fun i _ => 8 - (intOf i).toNat)
  case atStart => exact ⟨0, Nat.zero_le _, rfl, rfl⟩
  case round =>
    obtain ⟨t, ht, rfl, rfl⟩ := hrel
    have HQ : Hid (∀ w, Calls Try.prog 34 #[.int .i64 t] w fun e w' => e = .returned (.int .i64 (pw t)) ∧ w' = w) := fun w => power_nat t (by omega) w
    have HP1 := HP.out t (by omega)
    generalize pw t = q at *
    by_cases hlt : t < W
    · have hp := HP1.2 hlt
      clear HP1
      go_wp2_with (go_at_call 34; refine (HQ.out _).mono ?_; rintro e w1 ⟨rfl, rfl⟩)
      go_roundw
      case rel => exact ⟨t + 1, by omega, by go_num, trivial⟩
      case measure => simp [intOf]; omega
    · have hp : ¬ q < (n : Int) := fun h => hlt (HP1.1 h)
      have HE : Hid (t = W) := by show t = W; omega
      clear HP1 HP
      go_wp2_with (go_at_call 34; refine (HQ.out _).mono ?_; rintro e w1 ⟨rfl, rfl⟩)
      go_ret
      exact ⟨by rw [← HE.out]; rfl, rfl⟩

theorem tab_bits : ∀ y : Nat, y < 128 → ∀ h : y < Lib.len8tab.size, Lib.len8tab[y].toNat = Lib.bitLen y := by decide +kernel

set_option maxRecDepth 100000 in
set_option maxHeartbeats 4000000 in
theorem len64_int (x : Int) (w : World) (h0 : 0 ≤ x) (h1 : x ≤ 127) : Calls Try.prog 150 #[.int .u64 x] w fun e w' => e = .returned (.int .i64 (Lib.bitLen x.toNat)) ∧ w' = w := by
  go_enter Try.func150, Try.ntmps150
  go_wp2
  all_goals (go_ret; refine ⟨congrArg Ending.returned (congrArg (Value.int IntKind.i64) ?_), rfl⟩)
  all_goals
    have l := tab_bits x.toNat (by omega) (by omega)
    have l2 := Lib.bitLen_le8' x h0 (by omega)
    rw [l]
    unfold wrap64
    omega

theorem len_int (x : Int) (w : World) (h0 : 0 ≤ x) (h1 : x ≤ 127) : Calls Try.prog 138 #[.int .u64 x] w fun e w' => e = .returned (.int .i64 (Lib.bitLen x.toNat)) ∧ w' = w := by
  go_enter Try.func138, Try.ntmps138
  go_wp2_with (go_at_call 150; refine (len64_int x _ h0 h1).mono ?_; rintro e w' ⟨rfl, rfl⟩)
  go_ret
  exact ⟨rfl, rfl⟩

theorem widthOf_any (n : Nat) (hn : n ≤ 100) (w : World) : Calls Try.prog 107 #[.int .i64 n] w fun e w' => e = .returned (.int .i64 (wid n)) ∧ w' = w := by
  by_cases h : n < 2
  · rw [show wid n = 0 from by unfold wid; rw [if_pos (by omega)]]
    go_enter Try.func107, Try.ntmps107
    go_wp2
    go_ret
    exact ⟨rfl, rfl⟩
  · have HL : Hid (∀ w, Calls Try.prog 138 #[.int .u64 ((n : Int) - 1)] w fun e w' => e = .returned (.int .i64 (wid n)) ∧ w' = w) := fun w => by
      have h1 := len_int ((n : Int) - 1) w (by omega) (by omega)
      rw [wid_bits _ (by omega), show ((n : Int) - 1).toNat + 1 = n by omega] at h1
      exact h1
    go_enter Try.func107, Try.ntmps107
    go_wp2_with (go_at_call 138; refine (HL.out _).mono ?_; rintro e w' ⟨rfl, rfl⟩)
    go_ret
    exact ⟨rfl, rfl⟩
end Go.Proofs.Ytjidbonhhpkljaa.Ec

/- Lists of values: rows of the call's own, the place of a value, and values as Plain one behind the other. -/
set_option linter.unusedVariables false
namespace Go.Proofs.Ytjidbonhhpkljaa.Ec
open Go.RowKit Go.Proofs.Ytjidbonhhpkljaa.Pk Go.Proofs.Ytjidbonhhpkljaa.Pm

/-- Two rows of the call's own do not lie in the same memory. -/
def Apart (u v : Value) : Prop := u.ownBlock = none ∨ u.ownBlock ≠ v.ownBlock

theorem Apart.symm {u v : Value} (h : Apart u v) : Apart v u := by
  rcases h with h | h
  · cases hv : v.ownBlock with
    | none => exact .inl hv
    | some g => exact .inr (by rw [h, hv]; simp)
  · exact .inr (fun e => h e.symm)
theorem Apart.nil (u : Value) : Apart u (.slice none 0 0) := by
  cases hu : u.ownBlock with
  | none => exact .inl hu
  | some g => exact .inr (by rw [hu]; simp [Value.ownBlock])
theorem kept_grew {w w' : World} {base e size n : Nat} {u v v' : Value} {xs : List Value} (h : w.ownsRow base e size u n xs) (hg : Grew w w' v v') (ha : Apart u v) : w'.ownsRow base e size u n xs :=
  h.kept hg.by_ ha
theorem Apart.grew {w w' : World} {base e size n : Nat} {u v v' : Value} {xs : List Value} (ha : Apart u v) (h : w.ownsRow base e size u n xs) (hg : Grew w w' v v') : Apart u v' := by
  rcases ha with h1 | h1
  · exact .inl h1
  · cases hu : u.ownBlock with
    | none => exact .inl hu
    | some g =>
      right
      intro e
      rw [hu] at e h1
      have hlt := (h.lt g hu).2
      rcases hg.at_ g e.symm with h2 | h2
      · exact h1 h2.symm
      · omega
theorem Apart.new {w : World} {base B e size n : Nat} {e2 size2 n2 : Nat} {u v : Value} {xs ys : List Value} {w' : World} (h : w.ownsRow base e size u n xs) (hn : w'.ownsRow w.heap.size e2 size2 v n2 ys) : Apart u v := by
  cases hu : u.ownBlock with
  | none => exact .inl hu
  | some g =>
    right
    intro e2
    rw [hu] at e2
    have h1 := (h.lt g hu).2
    have h2 := (hn.lt g e2.symm).1
    omega

/-- A slice of values. -/
def VSl (w : World) (v : Value) (l : List Val) : Prop := ∃ ao b off cap, v = .slice ao l.length cap ∧ VRow w ao b off l
theorem VSl.below {w w' : World} {v : Value} {l : List Val} (h : VSl w v l) (hb : Below w.heap.size w w') : VSl w' v l := by
  obtain ⟨ao, b, off, cap, rfl, h⟩ := h
  exact ⟨ao, b, off, cap, rfl, h.below hb⟩

theorem vcells_length (l : List Val) : (vcells l).length = l.length * 3 := by
  induction l with
  | nil => rfl
  | cons x r ih => unfold vcells at ih ⊢; simp at ih ⊢; omega
theorem vcells_cons (x : Val) (r : List Val) : vcells (x :: r) = [.bool x.null, .int .i64 x.n, .string x.s] ++ vcells r := by simp [vcells]
theorem vcells_append (a b : List Val) : vcells (a ++ b) = vcells a ++ vcells b := by simp [vcells]
theorem vcells_one (x : Val) : vcells [x] = [.bool x.null, .int .i64 x.n, .string x.s] := by simp [vcells]
theorem vcells_at (l : List Val) : ∀ (j : Nat) (h : j < l.length), (vcells l)[j * 3]? = some (.bool l[j].null) ∧ (vcells l)[j * 3 + 1]? = some (.int .i64 l[j].n) ∧ (vcells l)[j * 3 + 2]? = some (.string l[j].s) := by
  induction l with
  | nil => intro j h; simp at h
  | cons x r ih =>
    intro j h
    rw [vcells_cons]
    cases j with
    | zero => simp
    | succ j =>
      have := ih j (by simpa using h)
      have e0 : (j + 1) * 3 = j * 3 + 3 := by omega
      rw [e0, List.getElem?_append_right (by simp), List.getElem?_append_right (by simp), List.getElem?_append_right (by simp)]
      simpa [show j * 3 + 3 + 1 - 3 = j * 3 + 1 by omega, show j * 3 + 3 + 2 - 3 = j * 3 + 2 by omega] using this

theorem VSl.of_owns {w : World} {base : Nat} {v : Value} {l : List Val} (h : w.ownsRow base 39 3 v l.length (vcells l)) : VSl w v l := by
  rcases h.2 with ⟨rfl, h0⟩ | ⟨g, cap, cur, rfl, hbg, hgb, hnc, hcm, hcs, htake⟩
  · have : l = [] := List.eq_nil_of_length_eq_zero h0
    subst this
    exact ⟨none, 0, 0, 0, rfl, ⟨fun h => by simp at h, fun h => by simp at h, fun j h => by simp at h, fun j h => by simp at h, fun j h => by simp at h⟩⟩
  · have hc := h.cells (g := g) rfl
    refine ⟨some ⟨g, 0, none⟩, g, 0, cap, rfl, ⟨fun _ => rfl, fun _ => (h.lt g rfl).2, ?_, ?_, ?_⟩⟩
    · intro j hj
      have := hc _ _ (vcells_at l j hj).1
      simpa [Addr.add_lit] using this
    · intro j hj
      have := hc _ _ (vcells_at l j hj).2.1
      simpa [Addr.add_lit] using this
    · intro j hj
      have := hc _ _ (vcells_at l j hj).2.2
      simpa [Addr.add_lit] using this

/-- Where a value stands first. -/
def idx : List Val → Val → Nat
  | [], _ => 0
  | y :: r, x => if veq y x then 0 else idx r x + 1
theorem idx_le (l : List Val) (x : Val) : idx l x ≤ l.length := by
  induction l with
  | nil => simp [idx]
  | cons y r ih => simp only [idx]; split <;> simp <;> omega
theorem idx_before (l : List Val) (x : Val) : ∀ j, (h : j < l.length) → j < idx l x → veq l[j] x = false := by
  induction l with
  | nil => intro j h; simp at h
  | cons y r ih =>
    intro j h hj
    simp only [idx] at hj
    split at hj
    · omega
    · rename_i hy
      cases j with
      | zero => simpa using hy
      | succ j => exact ih j (by simpa using h) (by omega)
theorem idx_at (l : List Val) (x : Val) (h : idx l x < l.length) : l[idx l x] = x := by
  induction l with
  | nil => simp at h
  | cons y r ih =>
    simp only [idx] at h ⊢
    by_cases hy : veq y x = true
    · simp only [hy, if_true]
      exact veq_iff.1 hy
    · simp only [hy] at h ⊢
      exact ih (by simpa using h)

/-- The place, as the document's side tells it. -/
def plc (l : List Val) (x : Val) : Int := if idx l x < l.length then (idx l x : Int) else -1

set_option maxRecDepth 100000 in
set_option maxHeartbeats 2000000 in
theorem place_any (d : List Val) (v : Value) (x : Val) (w : World) (h : VSl w v d) (hd : d.length ≤ 100) :
    Calls Try.prog 102 #[v, .agg #[.bool x.null, .int .i64 x.n, .string x.s]] w fun e w' => e = .returned (.int .i64 (plc d x)) ∧ Below w.heap.size w w' := by
  obtain ⟨ao, b, off, cap, rfl, hr⟩ := h
  have HX : Hid (∀ j, (h : j < d.length) → j < idx d x → veq d[j] x = false) := idx_before d x
  have HI : Hid (∀ h : idx d x < d.length, d[idx d x] = x) := fun h => idx_at d x h
  have hil := idx_le d x
  have HP : Hid (plc d x = if idx d x < d.length then (idx d x : Int) else -1) := rfl
  generalize plc d x = P at *
  generalize idx d x = I at *
  go_enter Try.func102, Try.ntmps102
  go_wp2_with fail
  go_loopw [5] (fun i wr => ∃ k : Nat, k ≤ I ∧ i = .int .i64 k ∧ ∃ n, wr = (w.alloc (.cells #[.bool x.null, .int .i64 x.n, .string x.s] 39)).drewN n) (fun i _ => d.length - (intOf i).toNat)
  case atStart => exact ⟨0, Nat.zero_le _, rfl, 0, rfl⟩
  case round =>
    obtain ⟨k, hk, rfl, n, hwr⟩ := hrel
    have HW : Hid (Below w.heap.size w wr) := by show Below _ _ _; rw [hwr]; exact below_drewN ((Below.refl _ _).alloc (Nat.le_refl _) _) n
    have HWN : Hid (wr = (w.alloc (.cells #[.bool x.null, .int .i64 x.n, .string x.s] 39)).drewN n) := hwr
    have q0 : wr.cell? ⟨w.heap.size, 0, none⟩ = some (.bool x.null) := by rw [hwr]; simp
    have q1 : wr.cell? ⟨w.heap.size, 1, none⟩ = some (.int .i64 x.n) := by rw [hwr]; simp
    have q2 : wr.cell? ⟨w.heap.size, 2, none⟩ = some (.string x.s) := by rw [hwr]; simp
    by_cases hlt : k < d.length
    · have hr2 := hr.below HW.out
      obtain rfl := hr.addr (by omega)
      have p0 := hr2.c0 k hlt
      have p1 := hr2.c1 k hlt
      have p2 := hr2.c2 k hlt
      have hq := fun w => run_eql_val w d[k] x
      have HV : Hid ((k < I → veq d[k] x = false) ∧ (k = I → d[k] = x)) := ⟨fun h => HX.out k hlt h, fun h => by subst h; exact HI.out hlt⟩
      clear hr2 hwr
      generalize d[k] = y at *
      by_cases hI : k < I
      · have hb := HV.out.1 hI
        rw [hb] at hq
        clear hb
        go_wp2_with fail
        go_quiet (fail)
        go_wp2
        go_roundw
        case rel => exact ⟨k + 1, by omega, by go_num, n + nq, by rw [HWN.out]; exact World.drewN_drewN _ _ _⟩
        case measure => simp [intOf]; omega
      · have hkI : k = I := by omega
        have hb : veq y x = true := veq_iff.2 (HV.out.2 hkI)
        have HE : Hid (P = (k : Int)) := by show _ = _; rw [HP.out, if_pos (by omega), hkI]
        rw [hb] at hq
        clear hb hkI hI
        go_wp2_with fail
        go_quiet (fail)
        go_wp2
        go_ret
        exact ⟨by rw [HE.out]; rfl, below_drewN HW.out nq⟩
    · have HE : Hid (P = -1) := by show _ = _; rw [HP.out, if_neg (by omega)]
      clear hwr
      go_wp2
      go_ret
      exact ⟨by rw [HE.out]; rfl, HW.out⟩
end Go.Proofs.Ytjidbonhhpkljaa.Ec

/- The program's side, list by list: Plain, Delta, the bits of Bools. -/
set_option linter.unusedVariables false
namespace Go.Proofs.Ytjidbonhhpkljaa.Ec
open Go.RowKit Go.Proofs.Ytjidbonhhpkljaa.Pk Go.Proofs.Ytjidbonhhpkljaa.Pm

/-- Values as Plain, one behind the other. -/
def plainsB (k : Int) (l : List Val) : List Nat := l.flatMap (plainB k)
theorem plainsB_take (k : Int) (l : List Val) (i : Nat) (h : i < l.length) : plainsB k (l.take (i + 1)) = plainsB k (l.take i) ++ plainB k l[i] := by
  rw [List.take_succ_eq_append_getElem h]
  unfold plainsB
  rw [List.flatMap_append, List.flatMap_singleton]
theorem plainsB_length (k : Int) (l : List Val) (h : ∀ x ∈ l, VOk x) : (plainsB k l).length ≤ 42 * l.length := by
  induction l with
  | nil => simp [plainsB]
  | cons x r ih =>
    have h1 := ih (fun y hy => h y (by simp [hy]))
    have h2 := plainB_length k x (h x (by simp)).sz
    unfold plainsB at h1 ⊢
    simp at h1 ⊢
    omega

set_option maxRecDepth 100000 in
set_option maxHeartbeats 2000000 in
theorem appendPlain_any (u lv : Value) (pre : List Nat) (l : List Val) (k : Int) (base : Nat) (w : World) (hk : k = 1 ∨ k = 2 ∨ k = 3) (hv : ∀ x ∈ l, VOk x) (hn : l.length ≤ 100) (hl : pre.length ≤ 50000) (hb : base ≤ w.heap.size)
    (hown : w.ownsRow base 5 1 u pre.length (bcells pre)) (hkeep : ∀ w' u', Grew w w' u u' → VSl w' lv l) :
    Calls Try.prog 76 #[u, lv, .int .i64 k] w fun e w' => ∃ u', e = .returned u' ∧ w'.ownsRow base 5 1 u' (pre ++ plainsB k l).length (bcells (pre ++ plainsB k l)) ∧ Grew w w' u u' := by
  obtain ⟨ao, b, off, cap, rfl, hr⟩ := hkeep w u (Grew.refl _ _)
  have HK : Hid (∀ w' u', Grew w w' u u' → ∃ b off, VRow w' ao b off l) := fun w' u' hg => by
    obtain ⟨ao2, b2, off2, cap2, he, h2⟩ := hkeep w' u' hg
    cases he
    exact ⟨b2, off2, h2⟩
  have HVO : Hid (∀ x ∈ l, VOk x) := hv
  clear hkeep hr hv
  go_enter Try.func76, Try.ntmps76
  go_wp2_with fail
  go_loopw [0, 11] (fun bv i wr => ∃ (j : Nat), j ≤ l.length ∧ i = .int .i64 j ∧ wr.ownsRow base 5 1 bv (pre ++ plainsB k (l.take j)).length (bcells (pre ++ plainsB k (l.take j))) ∧ Grew w wr u bv) (fun _ i _ => l.length - (intOf i).toNat)
  case atStart => exact ⟨0, Nat.zero_le _, rfl, by simpa [plainsB] using hown, Grew.refl _ _⟩
  case round =>
    clear hown
    obtain ⟨j, hj, rfl, hown, hgr⟩ := hrel
    have HG : Hid (Grew w wr u u0) := hgr
    have hsz : w.heap.size ≤ wr.heap.size := hgr.by_.size
    by_cases hlt : j < l.length
    · obtain ⟨b1, off1, hr⟩ := HK.out wr u0 hgr
      obtain rfl := hr.addr (by omega)
      have p0 := hr.c0 j hlt
      have p1 := hr.c1 j hlt
      have p2 := hr.c2 j hlt
      have HT := plainsB_take k l j hlt
      have hpl : (plainsB k (l.take j)).length ≤ 4200 := by
        have := plainsB_length k (l.take j) (fun x hx => HVO.out x (List.mem_of_mem_take hx))
        rw [List.length_take] at this
        omega
      have HX : Hid (VOk l[j]) := HVO.out _ (List.getElem_mem hlt)
      have HTT : Hid (plainsB k (l.take (j + 1)) = plainsB k (l.take j) ++ plainB k l[j]) := HT
      clear HT hr hgr
      generalize l[j] = x at *
      have hpl2 : (pre ++ plainsB k (l.take j)).length ≤ 60000 := by rw [List.length_append]; omega
      generalize hpb : pre ++ plainsB k (l.take j) = pb at *
      have HPB : Hid (pre ++ plainsB k (l.take j) = pb) := hpb
      clear hpb hpl
      have HA : Hid (∀ o, Calls Try.prog 106 #[u0, .agg #[.bool x.null, .int .i64 x.n, .string x.s], .int .i64 k] (wr.alloc o) fun e w' => ∃ u', e = .returned u' ∧ w'.ownsRow base 5 1 u' (pb ++ plainB k x).length (bcells (pb ++ plainB k x)) ∧ Grew (wr.alloc o) w' u0 u') := fun o =>
        appendPlain1_any u0 pb x k base (wr.alloc o) hk HX.out (by omega) (by simp; omega) (hown.alloc o)
      go_wp2_with (go_at_call 106; refine (HA.out _).mono ?_; rintro e w1 ⟨v1, rfl, hw1, hg1⟩)
      go_roundw
      case rel =>
        refine ⟨j + 1, by omega, by go_num, ?_, HG.out.trans hg1.box⟩
        rw [HTT.out, ← List.append_assoc, HPB.out]
        exact hw1
      case measure => simp [intOf]; omega
    · have hj2 : l.take j = l := List.take_of_length_le (by omega)
      rw [hj2] at hown
      have HO : Hid (wr.ownsRow base 5 1 u0 (pre ++ plainsB k l).length (bcells (pre ++ plainsB k l))) := hown
      clear hown hj2 hgr
      go_wp2
      go_ret
      exact ⟨_, rfl, HO.out, HG.out⟩

/-- Differences. -/
def deltaF : Int → List Val → List Nat
  | _, [] => []
  | a, v :: r => vint (zz (wrap64 (v.n - a))) ++ deltaF v.n r
def lastF : Int → List Val → Int
  | a, [] => a
  | _, v :: r => lastF v.n r
theorem deltaF_snoc (a : Int) (l : List Val) (x : Val) : deltaF a (l ++ [x]) = deltaF a l ++ vint (zz (wrap64 (x.n - lastF a l))) := by
  induction l generalizing a with
  | nil => simp [deltaF, lastF]
  | cons y r ih => simp [deltaF, lastF, ih]
theorem lastF_snoc (a : Int) (l : List Val) (x : Val) : lastF a (l ++ [x]) = x.n := by
  induction l generalizing a with
  | nil => simp [lastF]
  | cons y r ih => simp [lastF, ih]
theorem deltaF_length (a : Int) (l : List Val) : (deltaF a l).length ≤ 10 * l.length := by
  induction l generalizing a with
  | nil => simp [deltaF]
  | cons y r ih =>
    have h1 := ih y.n
    have h2 := vintF_length 10 (zz (wrap64 (y.n - a)))
    simp only [deltaF, List.length_append, List.length_cons]
    unfold vint
    omega
theorem lastF_ok (l : List Val) (h : ∀ x ∈ l, VOk x) (a : Int) (h0 : -9223372036854775808 ≤ a) (h1 : a ≤ 9223372036854775807) : -9223372036854775808 ≤ lastF a l ∧ lastF a l ≤ 9223372036854775807 := by
  induction l generalizing a with
  | nil => exact ⟨h0, h1⟩
  | cons y r ih => exact ih (fun x hx => h x (by simp [hx])) y.n (h y (by simp)).lo (h y (by simp)).hi
theorem wrap64_range (x : Int) : -9223372036854775808 ≤ wrap64 x ∧ wrap64 x ≤ 9223372036854775807 := by unfold wrap64; omega

theorem box_kept1 {w w1 : World} {u u1 a b c : Value} {t : TypeId} (hub : u.ownBlock ≠ some w.heap.size) (h : Grew (w.alloc (.cells #[a, b, c] t)) w1 u u1) : w1.cell? ⟨w.heap.size, 1, none⟩ = some b :=
  h.by_.cell (a := ⟨w.heap.size, 1, none⟩) (v := b) (by simp) (fun h => hub h.symm)

set_option maxRecDepth 100000 in
set_option maxHeartbeats 2000000 in
theorem appendDelta_any (u lv : Value) (pre : List Nat) (l : List Val) (base : Nat) (w : World) (hv : ∀ x ∈ l, VOk x) (hn : l.length ≤ 100) (hl : pre.length ≤ 50000) (hb : base ≤ w.heap.size)
    (hown : w.ownsRow base 5 1 u pre.length (bcells pre)) (hkeep : ∀ w' u', Grew w w' u u' → VSl w' lv l) :
    Calls Try.prog 73 #[u, lv] w fun e w' => ∃ u', e = .returned u' ∧ w'.ownsRow base 5 1 u' (pre ++ deltaF 0 l).length (bcells (pre ++ deltaF 0 l)) ∧ Grew w w' u u' := by
  obtain ⟨ao, b, off, cap, rfl, hr⟩ := hkeep w u (Grew.refl _ _)
  have HK : Hid (∀ w' u', Grew w w' u u' → ∃ b off, VRow w' ao b off l) := fun w' u' hg => by
    obtain ⟨ao2, b2, off2, cap2, he, h2⟩ := hkeep w' u' hg
    cases he
    exact ⟨b2, off2, h2⟩
  have HVO : Hid (∀ x ∈ l, VOk x) := hv
  clear hkeep hr hv
  go_enter Try.func73, Try.ntmps73
  go_wp2_with fail
  go_loopw [0, 5, 10] (fun bv la i wr => ∃ (j : Nat), j ≤ l.length ∧ i = .int .i64 j ∧ la = .int .i64 (lastF 0 (l.take j)) ∧ wr.ownsRow base 5 1 bv (pre ++ deltaF 0 (l.take j)).length (bcells (pre ++ deltaF 0 (l.take j))) ∧ Grew w wr u bv) (fun _ _ i _ => l.length - (intOf i).toNat)
  case atStart => exact ⟨0, Nat.zero_le _, rfl, rfl, by simpa [deltaF] using hown, Grew.refl _ _⟩
  case round =>
    clear hown
    obtain ⟨j, hj, rfl, rfl, hown, hgr⟩ := hrel
    have HG : Hid (Grew w wr u u0) := hgr
    have hsz : w.heap.size ≤ wr.heap.size := hgr.by_.size
    by_cases hlt : j < l.length
    · obtain ⟨b1, off1, hr⟩ := HK.out wr u0 hgr
      obtain rfl := hr.addr (by omega)
      have p0 := hr.c0 j hlt
      have p1 := hr.c1 j hlt
      have p2 := hr.c2 j hlt
      have hpl : (deltaF 0 (l.take j)).length ≤ 1000 := by
        have := deltaF_length 0 (l.take j)
        rw [List.length_take] at this
        omega
      have hlo := (lastF_ok (l.take j) (fun x hx => HVO.out x (List.mem_of_mem_take hx)) 0 (by omega) (by omega))
      have HX : Hid (VOk l[j]) := HVO.out _ (List.getElem_mem hlt)
      have HTT : Hid (deltaF 0 (l.take (j + 1)) = deltaF 0 (l.take j) ++ vint (zz (wrap64 (l[j].n - lastF 0 (l.take j))))) := by
        show _ = _
        rw [List.take_succ_eq_append_getElem hlt, deltaF_snoc]
      have HLL : Hid (lastF 0 (l.take (j + 1)) = l[j].n) := by
        show _ = _
        rw [List.take_succ_eq_append_getElem hlt, lastF_snoc]
      clear hr hgr
      generalize l[j] = x at *
      generalize lastF 0 (l.take j) = a at *
      have hpl2 : (pre ++ deltaF 0 (l.take j)).length ≤ 60000 := by rw [List.length_append]; omega
      generalize hpb : pre ++ deltaF 0 (l.take j) = pb at *
      have HPB : Hid (pre ++ deltaF 0 (l.take j) = pb) := hpb
      clear hpb hpl
      have hub : u0.ownBlock ≠ some wr.heap.size := fun h => by have := (hown.lt _ h).2; omega
      obtain ⟨hw0, hw1'⟩ := wrap64_range (x.n - a)
      have HA : Hid (∀ o, Calls Try.prog 106 #[u0, .agg #[.bool false, .int .i64 (wrap64 (x.n - a)), .string ⟨#[]⟩], .int .i64 1] (wr.alloc o) fun e w' => ∃ u', e = .returned u' ∧ w'.ownsRow base 5 1 u' (pb ++ vint (zz (wrap64 (x.n - a)))).length (bcells (pb ++ vint (zz (wrap64 (x.n - a))))) ∧ Grew (wr.alloc o) w' u0 u') := fun o =>
        appendPlain1_any u0 pb ⟨false, wrap64 (x.n - a), ⟨#[]⟩⟩ 1 base (wr.alloc o) (.inl rfl) ⟨hw0, hw1', (by decide : (⟨#[]⟩ : ByteArray).size ≤ 32)⟩ (by omega) (by simp; omega) (hown.alloc o)
      go_wp2_with (go_at_call 106; refine (HA.out _).mono ?_; rintro e w1 ⟨v1, rfl, hw1, hg1⟩; have hk1 := box_kept1 hub hg1)
      go_roundw
      case rel =>
        refine ⟨j + 1, by omega, by go_num, by rw [HLL.out], ?_, HG.out.trans hg1.box⟩
        rw [HTT.out, ← List.append_assoc, HPB.out]
        exact hw1
      case measure => simp [intOf]; omega
    · have hj2 : l.take j = l := List.take_of_length_le (by omega)
      rw [hj2] at hown
      have HO : Hid (wr.ownsRow base 5 1 u0 (pre ++ deltaF 0 l).length (bcells (pre ++ deltaF 0 l))) := hown
      clear hown hj2 hgr
      go_wp2
      go_ret
      exact ⟨_, rfl, HO.out, HG.out⟩

theorem one_oneI (x : Int) : ∀ u ∈ [Value.int .i64 x], u.oneCell' = true := by
  intro u hu
  simp at hu
  subst hu
  rfl

set_option maxRecDepth 100000 in
set_option maxHeartbeats 2000000 in
theorem bitsOf_any (lv : Value) (l : List Val) (w : World) (hn : l.length ≤ 100) (hvs : VSl w lv l) :
    Calls Try.prog 75 #[lv] w fun e w' => ∃ v', e = .returned v' ∧ w'.ownsRow w.heap.size 3 1 v' l.length (icells (l.map Val.n)) ∧ Below w.heap.size w w' := by
  obtain ⟨ao, b, off, cap, rfl, hr⟩ := hvs
  obtain ⟨i0, hi, hz0, hz1, hz2⟩ := info_parts Try.info3
  have HR : Hid (VRow w ao b off l) := hr
  clear hr
  go_enter Try.func75, Try.ntmps75
  go_wp2_with (at_make; refine wpList_make_own _ rfl _ _ 22 rfl w.heap.size 3 i0 (.int .i64 0) 1 Try.underlying22 hi hz0 hz1 .i64 .i64 _ l.length rfl rfl rfl (by rw [hz2]; omega) (by unfold maxLen; omega) (Nat.le_refl _) ?_; intro w0 hown0 hgrow0)
  have hbel0 : Below w.heap.size w w0 := (Below.refl _ _).grown hgrow0 (Nat.le_refl _) (by simp)
  clear hgrow0
  go_loopw [3, 11] (fun bv i wr => ∃ (j : Nat), j ≤ l.length ∧ i = .int .i64 j ∧ wr.ownsRow w.heap.size 3 1 bv j (icells ((l.take j).map Val.n)) ∧ Below w.heap.size w wr) (fun _ i _ => l.length - (intOf i).toNat)
  case atStart => exact ⟨0, Nat.zero_le _, rfl, hown0, hbel0⟩
  case round =>
    clear hown0 hbel0
    obtain ⟨j, hj, rfl, hown, hbel⟩ := hrel
    have HB : Hid (Below w.heap.size w wr) := hbel
    have hsz : w.heap.size ≤ wr.heap.size := hbel.size
    by_cases hlt : j < l.length
    · have hr := HR.out.below hbel
      obtain rfl := hr.addr (by omega)
      have p0 := hr.c0 j hlt
      have p1 := hr.c1 j hlt
      have p2 := hr.c2 j hlt
      have HTT : Hid ((l.take (j + 1)).map Val.n = (l.take j).map Val.n ++ [l[j].n]) := by
        show _ = _
        rw [List.take_succ_eq_append_getElem hlt, List.map_append]
        rfl
      clear hr hbel
      generalize l[j] = x at *
      go_wp2_with (at_builtin; refine wpList_append_keep _ rfl _ _ 22 rfl w.heap.size 3 i0 (.int .i64 0) 1 8 Try.underlying22 hi hz0 hz1 hz2 rfl (by decide) _ j _ rfl ((hown.alloc _).alloc _) ⟨wr.heap.size + 1, 0, none⟩ 1 1 [.int .i64 x.n] rfl (by decide) rfl (by simpa using one_at (wr.alloc _) _ _) (one_oneI _) (by unfold maxLen; omega) (by omega) (by simp; omega) ?_; intro v2 w2 hown2 hgr2)
      go_roundw
      case rel =>
        have hg3 := Grew.box (Grew.append hgr2)
        rw [icells_snoc] at hown2
        refine ⟨j + 1, by omega, by go_num, by rw [HTT.out]; exact hown2, HB.out.trans (hg3.below (fun g hg => (hown.lt g hg).1) hsz)⟩
      case measure => simp [intOf]; omega
    · have hj2 : l.take j = l := List.take_of_length_le (by omega)
      have hj3 : j = l.length := by omega
      rw [hj2] at hown
      have HO : Hid (wr.ownsRow w.heap.size 3 1 u3 l.length (icells (l.map Val.n))) := by rw [hj3] at hown; exact hown
      clear hown hj2 hbel hj3
      go_wp2
      go_ret
      exact ⟨_, rfl, HO.out, HB.out⟩
end Go.Proofs.Ytjidbonhhpkljaa.Ec

/- Numbers packed behind what was written: the program's side. -/
set_option linter.unusedVariables false
namespace Go.Proofs.Ytjidbonhhpkljaa.Ec
open Go.RowKit Go.Proofs.Ytjidbonhhpkljaa.Pk Go.Proofs.Ytjidbonhhpkljaa.Pm

/-- A slice of numbers. -/
def ISl (w : World) (v : Value) (zs : List Int) : Prop := ∃ ao b off cap, v = .slice ao zs.length cap ∧ (0 < zs.length → ao = some ⟨b, off, none⟩) ∧ (0 < zs.length → b < w.heap.size) ∧ ∀ j, j < zs.length → w.cell? ⟨b, off + j, none⟩ = some (.int .i64 (zs.getD j 0))
theorem ISl.of_owns {w : World} {base : Nat} {v : Value} {zs : List Int} (h : w.ownsRow base 3 1 v zs.length (icells zs)) : ISl w v zs := by
  rcases h.2 with ⟨rfl, h0⟩ | ⟨g, cap, cur, rfl, hbg, hgb, hnc, hcm, hcs, htake⟩
  · have : zs = [] := List.eq_nil_of_length_eq_zero h0
    subst this
    exact ⟨none, 0, 0, 0, rfl, fun h => by simp at h, fun h => by simp at h, fun j h => by simp at h⟩
  · have hc := h.cells (g := g) rfl
    refine ⟨some ⟨g, 0, none⟩, g, 0, cap, rfl, fun _ => rfl, fun _ => (h.lt g rfl).2, ?_⟩
    intro j hj
    have := hc _ _ (icells_get zs j hj)
    rw [getD_get hj]
    simpa [Addr.add_lit] using this

set_option maxRecDepth 100000 in
set_option maxHeartbeats 4000000 in
theorem appendPackedG (u lv : Value) (pre l : List Nat) (wd base : Nat) (w : World) (hw : wd ≤ 16) (hl : l.length ≤ 100) (hlt0 : ∀ x ∈ l, x < 2 ^ wd) (hpl : pre.length ≤ 60000) (hbase : base ≤ w.heap.size)
    (hown0 : w.ownsRow base 5 1 u pre.length (bcells pre)) (hkeep : ∀ w' u', Grew w w' u u' → ISl w' lv (l.map fun (n : Nat) => (n : Int))) :
    Calls Try.prog 37 #[u, lv, .int .i64 wd] w fun e w' => ∃ (v : Value) (ns : List Nat), ns.length = (l.length * wd + 7) / 8 ∧ (∀ x ∈ ns, x < 256) ∧ V ns = N wd l ∧
      e = .returned v ∧ w'.ownsRow base 5 1 v (pre ++ ns).length (bcells (pre ++ ns)) ∧ Grew w w' u v := by
  obtain ⟨ao, b, off, cap, hlv, -, -, -⟩ := hkeep w u (Grew.refl _ _)
  rw [List.length_map] at hlv
  subst hlv
  have HK : Hid (∀ w' u', Grew w w' u u' → ∃ b off, (0 < l.length → ao = some ⟨b, off, none⟩) ∧ ∀ j, (h : j < l.length) → w'.cell? ⟨b, off + j, none⟩ = some (.int .i64 ((l[j] : Nat) : Int))) := fun w' u' hg => by
    obtain ⟨ao2, b2, off2, cap2, he, h2, h3, h4⟩ := hkeep w' u' hg
    rw [List.length_map] at he
    cases he
    refine ⟨b2, off2, by simpa using h2, fun j hj => ?_⟩
    rw [h4 j (by simpa using hj), getD_get (by simpa using hj)]
    simp
  clear hkeep
  obtain ⟨i0, hi, hz0, hz1, hz2⟩ := info_parts Try.info5
  have hm : l.length * wd ≤ 1600 := Nat.mul_le_mul hl hw
  go_enter Try.func37, Try.ntmps37
  go_wp2_with fail
  go_loopw [0, 7, 8, 13] (fun bv h q i wr => ∃ (k hh qq : Nat) (ns : List Nat), k ≤ l.length ∧ i = .int .i64 k ∧ h = .int .i64 hh ∧ q = .int .i64 qq ∧ qq < 8 ∧ hh < 2 ^ qq ∧ 8 * ns.length + qq = k * wd ∧ (∀ x ∈ ns, x < 256) ∧ V ns + 256 ^ ns.length * hh = N wd (l.take k) ∧
      wr.ownsRow base 5 1 bv (pre ++ ns).length (bcells (pre ++ ns)) ∧ Grew w wr u bv) (fun _ _ _ i _ => l.length - (intOf i).toNat)
  case atStart => exact ⟨0, 0, 0, [], Nat.zero_le _, rfl, rfl, rfl, by omega, by simp, by simp, by simp, by simp [V, N], by simpa using hown0, Grew.refl _ _⟩
  case round =>
    obtain ⟨k, hh, qq, ns, hk, rfl, rfl, rfl, hq8, hhq, hnq, hn256, hnV, hown, hbel⟩ := hrel
    have HNQ : Hid (8 * ns.length + qq = k * wd) := hnq
    have HNV : Hid (V ns + 256 ^ ns.length * hh = N wd (l.take k)) := hnV
    clear hnV hnq
    by_cases hlt : k < l.length
    · obtain ⟨b1, off1, hs1, hc1⟩ := HK.out _ _ hbel
      obtain rfl := hs1 (by omega)
      have hcr := hc1 k hlt
      clear hs1 hc1
      have hxw : l[k] < 2 ^ wd := hlt0 _ (List.getElem_mem hlt)
      have hx64 : (l[k] : Nat) < 65536 := by have h2 : 2 ^ wd ≤ 2 ^ 16 := Nat.pow_le_pow_right (by omega) hw; omega
      have hkw : (k + 1) * wd ≤ 100 * 16 := Nat.mul_le_mul (by omega) hw
      have HN : Hid (V ns + 256 ^ ns.length * (hh + 2 ^ qq * l[k]) = N wd (l.take (k + 1))) := N_next ns hh _ qq wd k l hlt rfl HNQ.out HNV.out
      have HQ : Hid (8 * ns.length + (qq + wd) = (k + 1) * wd) := hq_next _ _ _ _ HNQ.out
      have HP : Hid (hh + 2 ^ qq * l[k] < 2 ^ (qq + wd)) := add_lt_pow hh _ qq wd hhq hxw
      have hor := or_shl hh l[k] qq (by omega) hx64 hhq
      clear HNQ HNV
      generalize l[k] = x at *
      generalize hh + 2 ^ qq * x = h2 at *
      go_wp2_with fail
      clear hor
      go_loopw [0, 7, 8] (fun bv h q wr => ∃ (hh qq2 : Nat) (ns : List Nat), h = .int .i64 hh ∧ q = .int .i64 qq2 ∧ qq2 < 24 ∧ hh < 2 ^ qq2 ∧ 8 * ns.length + qq2 = (k + 1) * wd ∧ (∀ x ∈ ns, x < 256) ∧ V ns + 256 ^ ns.length * hh = N wd (l.take (k + 1)) ∧
          wr.ownsRow base 5 1 bv (pre ++ ns).length (bcells (pre ++ ns)) ∧ Grew w wr u bv) (fun _ _ q _ => (intOf q).toNat)
      case atStart => exact ⟨h2, qq + wd, ns, rfl, by go_num, by omega, HP.out, HQ.out, hn256, HN.out, hown, hbel⟩
      case round =>
        clear hown hbel hn256 HP HQ HN hhq hcr
        obtain ⟨hh, q2, ns, rfl, rfl, hq24, hhq, hnq, hn256, hnV, hown, hbel⟩ := hrel
        have HNQ : Hid (8 * ns.length + q2 = (k + 1) * wd) := hnq
        have HNV : Hid (V ns + 256 ^ ns.length * hh = N wd (l.take (k + 1))) := hnV
        have hnl : ns.length ≤ 200 := by omega
        have hhb : hh < 16777216 := by have h2 : 2 ^ q2 ≤ 2 ^ 24 := Nat.pow_le_pow_right (by omega) (by omega); omega
        clear hnV hnq
        have HG : Hid (Grew w wr u u0) := hbel
        have hsz : w.heap.size ≤ wr.heap.size := hbel.by_.size
        have hpbl : (pre ++ ns).length ≤ 60200 := by rw [List.length_append]; omega
        clear hbel
        by_cases h8 : 8 ≤ q2
        · generalize hpb : pre ++ ns = pb at *
          have HPB : Hid (pre ++ ns = pb) := hpb
          clear hpb
          go_wp2_with (at_builtin; refine wpList_append_keep _ rfl _ _ 44 rfl base 5 i0 (.int .u8 0) 1 1 Try.underlying44 hi hz0 hz1 hz2 rfl (by decide) _ pb.length _ rfl (hown.alloc _) ⟨wr.heap.size, 0, none⟩ 1 1 [.int .u8 ((hh : Int) % 256)] rfl (by decide) rfl (one_at _ _ _) (one_oneB _) (by unfold maxLen; omega) (by omega) (by simp; omega) ?_; intro v1 w1 hown1 hgr1)
          rw [show (hh : Int) % 256 = ((hh % 256 : Nat) : Int) from by omega, bcells_snoc] at hown1
          go_roundw
          case rel => exact ⟨hh / 256, q2 - 8, ns ++ [hh % 256], by go_num, by go_num, by omega, div_lt_pow hh q2 h8 hhq, by have := HNQ.out; simp; omega, snoc_lt ns _ hn256 (by omega), V_push ns hh _ HNV.out, by rw [← List.append_assoc, HPB.out]; simpa using hown1, HG.out.trans (Grew.append hgr1)⟩
          case measure => simp [intOf]; omega
        · go_wp2_with fail
          go_roundw
          case rel => exact ⟨k + 1, hh, q2, ns, by omega, by go_num, rfl, rfl, by omega, hhq, HNQ.out, hn256, HNV.out, hown, HG.out⟩
          case measure => simp [intOf]; omega
    · have hkl : k = l.length := by omega
      subst hkl
      have HNV2 : Hid (V ns + 256 ^ ns.length * hh = N wd l) := by have := HNV.out; rwa [List.take_length] at this
      have hnl : ns.length ≤ 200 := by have := HNQ.out; omega
      have hhb : hh < 256 := by have h2 : 2 ^ qq ≤ 2 ^ 8 := Nat.pow_le_pow_right (by omega) (by omega); omega
      have HG : Hid (Grew w wr u u0) := hbel
      have hsz : w.heap.size ≤ wr.heap.size := hbel.by_.size
      have hpbl : (pre ++ ns).length ≤ 60200 := by rw [List.length_append]; omega
      clear hbel
      by_cases hq0 : 0 < qq
      · generalize hpb : pre ++ ns = pb at *
        have HPB : Hid (pre ++ ns = pb) := hpb
        clear hpb
        go_wp2_with (at_builtin; refine wpList_append_keep _ rfl _ _ 44 rfl base 5 i0 (.int .u8 0) 1 1 Try.underlying44 hi hz0 hz1 hz2 rfl (by decide) _ pb.length _ rfl (hown.alloc _) ⟨wr.heap.size, 0, none⟩ 1 1 [.int .u8 (hh : Int)] rfl (by decide) rfl (one_at _ _ _) (one_oneB _) (by unfold maxLen; omega) (by omega) (by simp; omega) ?_; intro v1 w1 hown1 hgr1)
        rw [bcells_snoc] at hown1
        go_ret
        exact ⟨_, ns ++ [hh], by have := HNQ.out; simp; omega, snoc_lt ns _ hn256 hhb, by rw [V_append, ← HNV2.out]; simp [V], rfl, by rw [← List.append_assoc, HPB.out]; simpa using hown1, HG.out.trans (Grew.append hgr1)⟩
      · have hq00 : qq = 0 := by omega
        subst hq00
        go_wp2
        go_ret
        exact ⟨_, ns, by have := HNQ.out; omega, hn256, by have := HNV2.out; simp at hhq; subst hhq; simpa using this, rfl, hown, HG.out⟩
end Go.Proofs.Ytjidbonhhpkljaa.Ec

/- Values as keys of a map; dictionaries as plain functions. -/
set_option linter.unusedVariables false
namespace Go.Proofs.Ytjidbonhhpkljaa.Ec
open Go.RowKit Go.Proofs.Ytjidbonhhpkljaa.Pk Go.Proofs.Ytjidbonhhpkljaa.Pm

theorem laidV : laidOutB Try.prog = true := by kernel_rfl
theorem rowV : (39 : TypeId) < Try.prog.types.size := of_decide_eq_true (by kernel_rfl)
theorem ktV : Try.prog.keyTypeAt 2 39 = true := by kernel_rfl
theorem lawV : Maps.Keyed Try.prog 39 := Maps.Keyed.of_law (deep_law_laid laidV (m := 2) (by omega) rowV ktV (by rw [Try.underlying39]))
theorem cellsV : Try.prog.cellsOf 39 = 3 := by kernel_rfl
theorem cellsB1 : Try.prog.cellsOf 4 = 1 := by kernel_rfl
theorem cellsI1 : Try.prog.cellsOf 3 = 1 := by kernel_rfl
theorem cellsS1 : Try.prog.cellsOf 9 = 1 := by kernel_rfl
theorem size_succ (n : Nat) (h : 39 < n) : ∃ m, n = m + 1 := ⟨n - 1, by omega⟩
theorem sizeP : ∃ m, Try.prog.types.size = m + 1 := size_succ _ rowV
theorem keyTypeV : Try.prog.keyType 39 = true := by kernel_rfl

/-- What a value reads as, as a key. -/
def kl (x : Val) : Lit := .string (keyBytes [.bool x.null, .int .i64 x.n, .string x.s.data.toList])

theorem wf_i64 (a : Int) (h0 : -9223372036854775808 ≤ a) (h1 : a ≤ 9223372036854775807) : (Lit.int .i64 a).wf = true := by
  simp [Lit.wf, IntKind.min, IntKind.max, IntKind.signed, IntKind.bits]
  omega

theorem key_mk (x : Val) (h : VOk x) : keyOf Try.prog 39 (.agg #[.bool x.null, .int .i64 x.n, .string x.s]) = some (kl x) := by
  obtain ⟨m, hm⟩ := sizeP
  have hw := wf_i64 x.n h.lo h.hi
  have hs : x.s.size ≤ maxLen := by have := h.sz; unfold maxLen; omega
  have hf : (Value.agg #[.bool x.null, .int .i64 x.n, .string x.s]).formed Try.prog 39 = true := by simp [Value.formed, Try.underlying39, cellsV]
  unfold keyOf
  simp only [Try.underlying39, keyTypeV, hf, Bool.and_self, if_true, hm]
  unfold Program.keyLits
  simp [Try.underlying39, cellsV, cellsB1, cellsI1, cellsS1, Value.cells, Program.keyLits, Try.underlying4, Try.underlying3, Try.underlying9, hw, hs, kl]

theorem kl_inj {x y : Val} (hx : VOk x) (hy : VOk y) (h : kl x = kl y) : x = y := by
  have e := lawV.inj (key_mk x hx) (by rw [h]; exact key_mk y hy)
  cases x; cases y
  simp at e
  simp [e]
theorem kl_key (x : Val) : WideAt.IsKeyLit (kl x) := trivial

/-- A dictionary, one value more. -/
def ins (d : List Val) (v : Val) : List Val := if idx d v < d.length then d else d ++ [v]

theorem idx_append_in (d : List Val) (x : Val) (r : List Val) (h : idx d x < d.length) : idx (d ++ r) x = idx d x := by
  induction d with
  | nil => simp at h
  | cons y t ih =>
    simp only [idx, List.cons_append] at h ⊢
    by_cases hy : veq y x = true
    · simp [hy]
    · simp only [hy] at h ⊢
      have := ih (by simpa using h)
      simp [this]
theorem idx_append_out (d : List Val) (x : Val) (h : ¬ idx d x < d.length) (v : Val) : idx (d ++ [v]) x = if veq v x then d.length else d.length + 1 := by
  induction d with
  | nil => simp [idx]
  | cons y t ih =>
    simp only [idx, List.cons_append] at h ⊢
    by_cases hy : veq y x = true
    · simp [hy] at h
    · simp only [hy] at h ⊢
      have := ih (by simpa using h)
      rw [if_neg (by simp), this]
      split <;> simp
theorem idx_ins (d : List Val) (v : Val) : idx (ins d v) v = idx d v ∧ idx (ins d v) v < (ins d v).length ∧ (¬ idx d v < d.length → idx d v = d.length) := by
  have hle := idx_le d v
  unfold ins
  by_cases h : idx d v < d.length
  · simp only [h, if_true]
    exact ⟨trivial, trivial, fun h => absurd trivial h⟩
  · have hv : veq v v = true := veq_iff.2 rfl
    have := idx_append_out d v h v
    rw [hv] at this
    simp only [h, if_false]
    simp at this
    rw [this]
    refine ⟨by omega, by simp, fun _ => by omega⟩

def dstep (s : List Val × List Nat) (v : Val) : List Val × List Nat := (ins s.1 v, s.2 ++ [idx (ins s.1 v) v])
def dfold (l : List Val) : List Val × List Nat := l.foldl dstep ([], [])
theorem dfold_succ (l : List Val) (k : Nat) (h : k < l.length) : dfold (l.take (k + 1)) = dstep (dfold (l.take k)) l[k] := by
  unfold dfold
  rw [List.take_succ_eq_append_getElem h, List.foldl_append]
  rfl
theorem ins_length (d : List Val) (v : Val) : (ins d v).length ≤ d.length + 1 ∧ d.length ≤ (ins d v).length := by
  unfold ins; split <;> simp
theorem ins_mem (d : List Val) (v x : Val) (h : x ∈ ins d v) : x ∈ d ∨ x = v := by
  unfold ins at h
  split at h
  · exact .inl h
  · rcases List.mem_append.1 h with h | h
    · exact .inl h
    · exact .inr (by simpa using h)
theorem dfold_ok (l : List Val) : ∀ k, k ≤ l.length → (dfold (l.take k)).1.length ≤ k ∧ (dfold (l.take k)).2.length = k ∧ (∀ p ∈ (dfold (l.take k)).2, p < (dfold (l.take k)).1.length) ∧ (∀ x ∈ (dfold (l.take k)).1, x ∈ l) := by
  intro k
  induction k with
  | zero => intro _; simp [dfold]
  | succ k ih =>
    intro h
    obtain ⟨h1, h2, h3, h4⟩ := ih (by omega)
    rw [dfold_succ l k (by omega)]
    have i1 := ins_length (dfold (l.take k)).1 l[k]
    have i2 := idx_ins (dfold (l.take k)).1 l[k]
    unfold dstep
    refine ⟨by simp only; omega, by simp [h2], ?_, ?_⟩
    · intro p hp
      simp only at hp ⊢
      rcases List.mem_append.1 hp with hp | hp
      · have := h3 p hp; omega
      · simp at hp; rw [hp]; exact i2.2.1
    · intro x hx
      rcases ins_mem _ _ _ hx with h | h
      · exact h4 x h
      · rw [h]; exact List.getElem_mem _

/-- What a map knows of a dictionary. -/
structure Knows (D : DataW Unit) (d : List Val) : Prop where
  map : Maps.IsMap D
  has : ∀ x, VOk x → Maps.has D (kl x) = decide (idx d x < d.length)
  at_ : ∀ x, VOk x → idx d x < d.length → D.atKey (kl x) (.lit (.int .i64 0)) = .lit (.int .i64 (idx d x : Int))
theorem Knows.empty : Knows (.map []) [] := ⟨Maps.isMap_empty, fun x _ => by simp [Maps.has_eq], fun x _ h => by simp at h⟩
theorem Knows.put {D : DataW Unit} {d : List Val} (h : Knows D d) (v : Val) (hv : VOk v) (hn : ¬ idx d v < d.length) : Knows (D.put (kl v) (.lit (.int .i64 (d.length : Int)))) (d ++ [v]) := by
  have hvv : veq v v = true := veq_iff.2 rfl
  refine ⟨h.map.put _ _, ?_, ?_⟩
  · intro x hx
    by_cases e : x = v
    · subst e
      rw [Maps.has_put_same h.map (kl_key x)]
      have := idx_append_out d x hn x
      rw [hvv] at this
      simp at this
      simp [this]
    · rw [Maps.has_put_other (fun e2 => e (kl_inj hx hv e2)), h.has x hx]
      by_cases hi : idx d x < d.length
      · rw [idx_append_in d x [v] hi]; simp; omega
      · rw [idx_append_out d x hi v]
        have : veq v x = false := by
          rw [Bool.eq_false_iff]; intro h2; exact e (veq_iff.1 h2).symm
        rw [this]
        simp; omega
  · intro x hx hi
    by_cases e : x = v
    · subst e
      rw [Maps.atKey_put_same h.map (kl_key x)]
      have := idx_append_out d x hn x
      rw [hvv] at this
      simp at this
      rw [this]
    · rw [Maps.atKey_put_other (fun e2 => e (kl_inj hx hv e2))]
      by_cases hi2 : idx d x < d.length
      · rw [idx_append_in d x [v] hi2]; exact h.at_ x hx hi2
      · exfalso
        rw [idx_append_out d x hi2 v] at hi
        have : veq v x = false := by
          rw [Bool.eq_false_iff]; intro h2; exact e (veq_iff.1 h2).symm
        rw [this] at hi
        simp at hi
end Go.Proofs.Ytjidbonhhpkljaa.Ec

/- Dict: the program's side. -/
set_option linter.unusedVariables false
namespace Go.Proofs.Ytjidbonhhpkljaa.Ec
open Go.RowKit Go.Proofs.Ytjidbonhhpkljaa.Pk Go.Proofs.Ytjidbonhhpkljaa.Pm

theorem Try.info39 : (Try.prog.info? 39).map (fun i => (i.zero, i.size, i.bytes)) = some (some (.agg #[.bool false, .int .i64 0, .string ⟨#[]⟩]), 3, 32) := by kernel_rfl
theorem zeroI (w : World) : (zeroValue 3).run Try.prog w = .ok (.int .i64 0) w := by kernel_rfl

theorem own_shape {w : World} {base e size n : Nat} {v : Value} {xs : List Value} (h : w.ownsRow base e size v n xs) : ∃ ao cap, v = .slice ao n cap := by
  rcases h.2 with ⟨rfl, rfl⟩ | ⟨g, cap, cur, rfl, _⟩
  · exact ⟨none, 0, rfl⟩
  · exact ⟨_, _, rfl⟩

theorem three_at (w : World) (a b c : Value) (t : TypeId) : ∀ (j : Nat) (u : Value), [a, b, c][j]? = some u → (w.alloc (.cells #[a, b, c] t)).cell? ((⟨w.heap.size, 0, none⟩ : Addr).add j) = some u := by
  intro j u hj
  match j, hj with
  | 0, hj => simp at hj; subst hj; simp [Addr.add]
  | 1, hj => simp at hj; subst hj; simp [Addr.add_lit]
  | 2, hj => simp at hj; subst hj; simp [Addr.add_lit]
theorem three_one (x : Val) : ∀ u ∈ [Value.bool x.null, .int .i64 x.n, .string x.s], u.oneCell' = true := by
  intro u hu
  simp at hu
  rcases hu with rfl | rfl | rfl <;> rfl

theorem box_grown {w w1 : World} {a b c : Value} {t : TypeId} {row : Option Nat} (hg : (w.alloc (.cells #[a, b, c] t)).grownBy w1 row) (hne : some w.heap.size ≠ row) :
    w1.cell? ⟨w.heap.size, 0, none⟩ = some a ∧ w1.cell? ⟨w.heap.size, 1, none⟩ = some b ∧ w1.cell? ⟨w.heap.size, 2, none⟩ = some c :=
  ⟨hg.cell (a := ⟨w.heap.size, 0, none⟩) (by simp) hne, hg.cell (a := ⟨w.heap.size, 1, none⟩) (by simp) hne, hg.cell (a := ⟨w.heap.size, 2, none⟩) (by simp) hne⟩

theorem Grew.of_below {w w' : World} {u : Value} (h : Below w.heap.size w w') : Grew w w' u u := ⟨⟨h.1, h.2, h.3, h.4, fun k hk _ => h.block k hk⟩, fun _ h => .inl h⟩

/-- A dictionary and its places, as bytes. -/
def dictB (k : Int) (l : List Val) : List Nat := vint (dfold l).1.length ++ (plainsB k (dfold l).1 ++ packBytes (wid (dfold l).1.length) (dfold l).2)

def ints (ps : List Nat) : List Int := ps.map fun (n : Nat) => (n : Int)

set_option maxRecDepth 100000 in
set_option maxHeartbeats 8000000 in
theorem appendDict_any (u lv : Value) (pre : List Nat) (l : List Val) (k : Int) (base : Nat) (w : World) (hk : k = 1 ∨ k = 2 ∨ k = 3) (hv : ∀ x ∈ l, VOk x) (hn : l.length ≤ 100) (hl : pre.length ≤ 40000) (hb : base ≤ w.heap.size)
    (hown : w.ownsRow base 5 1 u pre.length (bcells pre)) (hvs : VSl w lv l) :
    Calls Try.prog 74 #[u, lv, .int .i64 k] w fun e w' => ∃ u', e = .returned u' ∧ w'.ownsRow base 5 1 u' (pre ++ dictB k l).length (bcells (pre ++ dictB k l)) ∧ Grew w w' u u' := by
  obtain ⟨i0, hi, hz0, hz1, hz2⟩ := info_parts Try.info3
  obtain ⟨j0, hj, hy0, hy1, hy2⟩ := info_parts Try.info39
  obtain ⟨ao, b, off, cap, rfl, hr⟩ := hvs
  have HVO : Hid (∀ x ∈ l, VOk x) := hv
  have HR : Hid (VRow w ao b off l) := hr
  have HU : Hid (w.ownsRow base 5 1 u pre.length (bcells pre)) := hown
  clear hv hr hown
  have hmm := @run_makeMap Try.prog
  have hom := World.ownsMap_made w Try.prog 39 (plainElem (H := Unit) Try.prog 3)
  have HOK : Hid (∀ j, j ≤ l.length → (dfold (l.take j)).1.length ≤ j ∧ (dfold (l.take j)).2.length = j ∧ (∀ p ∈ (dfold (l.take j)).2, p < (dfold (l.take j)).1.length) ∧ (∀ x ∈ (dfold (l.take j)).1, x ∈ l)) := dfold_ok l
  go_enter Try.func74, Try.ntmps74
  go_wp2_with (at_make; refine wpList_make_own _ rfl _ _ 22 rfl (w.heap.size + 1) 3 i0 (.int .i64 0) 1 Try.underlying22 hi hz0 hz1 .i64 .i64 _ l.length rfl rfl rfl (by rw [hz2]; omega) (by unfold maxLen; omega) (by simp) ?_; intro w0 hown0 hgrow0)
  have hbel0 : Below w.heap.size w w0 := ((Below.refl _ _).alloc (Nat.le_refl _) _).grown hgrow0 (by simp) (by simp)
  have hom0 : w0.ownsMap Try.prog 39 (plainElem (H := Unit) Try.prog 3) w.heap.size 0 (.map []) := hom.kept hgrow0 (by simp)
  clear hgrow0 hom
  go_loopw [7, 9, 20] (fun ev pv i wr => ∃ (j n : Nat) (D : DataW Unit) (eao : Option Addr) (ecap : Nat), j ≤ l.length ∧ n ≤ j ∧ i = .int .i64 j ∧ ev = .slice eao (dfold (l.take j)).1.length ecap ∧
      wr.ownsRow (w.heap.size + 1) 39 3 ev (dfold (l.take j)).1.length (vcells (dfold (l.take j)).1) ∧ wr.ownsRow (w.heap.size + 1) 3 1 pv j (icells (ints (dfold (l.take j)).2)) ∧ Apart ev pv ∧
      wr.ownsMap Try.prog 39 (plainElem (H := Unit) Try.prog 3) w.heap.size n D ∧ Knows D (dfold (l.take j)).1 ∧ Below w.heap.size w wr) (fun _ _ i _ => l.length - (intOf i).toNat)
  case atStart => exact ⟨0, 0, .map [], none, 0, Nat.zero_le _, Nat.le_refl _, rfl, rfl, World.ownsRow_nil _ _ _ _, by simpa [ints, icells, dfold] using hown0, Or.inl rfl, hom0, Knows.empty, hbel0⟩
  case round =>
    clear hown0 hom0 hbel0
    obtain ⟨j, n, D, eao, ecap, hjl, hnj, rfl, rfl, he, hp, hap, hom, hkn, hbel⟩ := hrel
    have HB : Hid (Below w.heap.size w wr) := hbel
    have hsz : w.heap.size ≤ wr.heap.size := hbel.size
    obtain ⟨hd1, hd2, hd3, hd4⟩ := HOK.out j hjl
    have hsz1 : w.heap.size + 1 ≤ wr.heap.size := by have := hom.lt; omega
    by_cases hlt : j < l.length
    · have hr := HR.out.below hbel
      obtain rfl := hr.addr (by omega)
      have p0 := hr.c0 j hlt
      have p1 := hr.c1 j hlt
      have p2 := hr.c2 j hlt
      have HX : Hid (VOk l[j]) := HVO.out _ (List.getElem_mem hlt)
      have HDS : Hid (dfold (l.take (j + 1)) = dstep (dfold (l.take j)) l[j]) := dfold_succ l j hlt
      have hkey := key_mk l[j] HX.out
      have HKN : Hid (Knows D (dfold (l.take j)).1) := hkn
      have HHAS := hkn.has l[j] HX.out
      have HAT : Hid (idx (dfold (l.take j)).1 l[j] < (dfold (l.take j)).1.length → D.atKey (kl l[j]) (.lit (.int .i64 0)) = .lit (.int .i64 (idx (dfold (l.take j)).1 l[j] : Int))) := hkn.at_ l[j] HX.out
      have HII := idx_ins (dfold (l.take j)).1 l[j]
      have HINS : Hid (ins (dfold (l.take j)).1 l[j] = if idx (dfold (l.take j)).1 l[j] < (dfold (l.take j)).1.length then (dfold (l.take j)).1 else (dfold (l.take j)).1 ++ [l[j]]) := rfl
      clear hr hbel hkn HR
      generalize l[j] = x at *
      generalize hds : dfold (l.take j) = S at *
      obtain ⟨d, ps⟩ := S
      simp only at hd1 hd2 hd3 hd4 he hp hap hkey HHAS HII
      have HIH : Hid (idx (ins d x) x = idx d x) := HII.1
      have HOUT : Hid (¬ idx d x < d.length → idx d x = d.length) := HII.2.2
      clear HII hds
      by_cases hin : idx d x < d.length
      · rw [decide_eq_true hin] at HHAS
        go_wp2_with (first
          | (at_lookup; refine wpList_lookup_own_ok_int _ rfl _ _ 170 rfl 39 3 .i64 lawV Try.underlying170 Try.underlying3 (zeroI _) w.heap.size n D rfl (hom.alloc _) _ _ rfl hkey ?_; intro c hat hwc)
          | (at_builtin; refine wpList_append_keep _ rfl _ _ 22 rfl (w.heap.size + 1) 3 i0 (.int .i64 0) 1 8 Try.underlying22 hi hz0 hz1 hz2 rfl (by decide) _ j _ rfl ((hp.alloc _).alloc _) ⟨wr.heap.size + 1, 0, none⟩ 1 1 [.int .i64 c] rfl (by decide) rfl (by simpa using one_at (wr.alloc _) _ _) (one_oneI _) (by unfold maxLen; omega) (by omega) (by simp; omega) ?_; intro v2 w2 hown2 hgr2))
        have hc : c = (idx d x : Int) := by
          have := HAT.out hin
          rw [hat] at this
          simpa using this
        have hg3 := Grew.box (Grew.append hgr2)
        have e1 : dfold (l.take (j + 1)) = (d, ps ++ [idx d x]) := by
          rw [HDS.out]
          unfold dstep
          simp only
          rw [HIH.out, HINS.out, if_pos hin]
        rw [icells_snoc] at hown2
        refine ⟨⟨j + 1, n, D, eao, ecap, by omega, by omega, by simp, by rw [e1], by rw [e1]; exact kept_grew he hg3 hap, ?_, hap.grew he hg3, hom.kept hg3.by_ (fun e => by have := (hp.lt _ e.symm).1; omega), by rw [e1]; exact HKN.out, HB.out.trans (hg3.below (fun g hg => by have := (hp.lt g hg).1; omega) hsz)⟩, by simp [intOf]; omega⟩
        rw [e1]
        simp only
        rw [show ints (ps ++ [idx d x]) = ints ps ++ [c] from by rw [hc]; simp [ints]]
        exact hown2
      · rw [decide_eq_false hin] at HHAS
        have hmb : some wr.heap.size ≠ some w.heap.size := by simp; omega
        have hal : ∀ o : Obj, (wr.alloc o).heap.size = wr.heap.size + 1 := fun o => by simp
        have hem : Value.ownBlock (.slice eao d.length ecap) = none ∨ Value.ownBlock (.slice eao d.length ecap) ≠ some w.heap.size := .inr (fun e => by have := (he.lt _ e).1; omega)
        have hpm : u9.ownBlock = none ∨ u9.ownBlock ≠ some w.heap.size := .inr (fun e => by have := (hp.lt _ e).1; omega)
        go_wp2_with (first
          | (at_lookup; refine wpList_lookup_own_ok_int _ rfl _ _ 170 rfl 39 3 .i64 lawV Try.underlying170 Try.underlying3 (zeroI _) w.heap.size n D rfl (hom.alloc _) _ _ rfl hkey ?_; intro c hat hwc)
          | (at_mapUpdate; refine wpList_mapUpdate_own _ rfl _ _ _ 170 rfl 39 3 lawV Try.underlying170 _ w.heap.size n D rfl (hom.alloc _) ?_ _ _ _ rfl rfl hkey _ [] (plainElem_int Try.underlying3 (wf_i64 _ (by omega) (by omega))) ?_; (unfold maxLen; omega); intro w1 hom1 hgm; have hbx := box_grown hgm hmb; obtain ⟨q0, q1, q2⟩ := hbx; have hsm := hgm.size; rw [hal] at hsm; have he1 := (he.alloc _).kept hgm hem; have hp1 := (hp.alloc _).kept hgm hpm)
          | (at_builtin; refine wpList_append_keep _ rfl _ _ 30 rfl (w.heap.size + 1) 39 j0 _ 3 32 Try.underlying30 hj hy0 hy1 hy2 rfl (by decide) _ d.length _ rfl (he1.alloc _) ⟨w1.heap.size, 0, none⟩ 1 1 [.bool x.null, .int .i64 x.n, .string x.s] rfl (by decide) rfl (three_at _ _ _ _ _) (three_one x) (by unfold maxLen; omega) (by omega) (by simp; omega) ?_; intro v2 w2 hown2 hgr2; have hg2 := Grew.append hgr2; have hp2 := kept_grew hp1 hg2 hap.symm; have hsm2 := hg2.by_.size)
          | (at_builtin; refine wpList_append_keep _ rfl _ _ 22 rfl (w.heap.size + 1) 3 i0 (.int .i64 0) 1 8 Try.underlying22 hi hz0 hz1 hz2 rfl (by decide) _ j _ rfl (hp2.alloc _) ⟨w2.heap.size, 0, none⟩ 1 1 [.int .i64 (d.length : Int)] rfl (by decide) rfl (one_at _ _ _) (one_oneI _) (by unfold maxLen; omega) (by omega) (by simp; omega) ?_; intro v3 w3 hown3 hgr3))
        have hg3 := Grew.append hgr3
        have ap2 : Apart v2 u9 := (hap.symm.grew hp1 hg2).symm
        have e1 : dfold (l.take (j + 1)) = (d ++ [x], ps ++ [d.length]) := by
          rw [HDS.out]
          unfold dstep
          simp only
          rw [HIH.out, HINS.out, if_neg hin, HOUT.out hin]
        have hb1 : Below w.heap.size w w1 := (HB.out.alloc hsz _).grown hgm (by rw [hal]; omega) (fun g hg => by cases hg; exact Nat.le_refl _)
        have hb2 : Below w.heap.size w1 w2 := hg2.below (fun g hg => by have := (he1.lt g hg).1; omega) hb1.size
        have hb3 : Below w.heap.size w2 w3 := hg3.below (fun g hg => by have := (hp2.lt g hg).1; omega) (hb1.trans hb2).size
        rw [icells_snoc] at hown3
        rw [← vcells_one, ← vcells_append] at hown2
        have hom2 := hom1.kept hg2.by_ (fun e => by have := (he1.lt _ e.symm).1; omega)
        have hom3 := hom2.kept hg3.by_ (fun e => by have := (hp2.lt _ e.symm).1; omega)
        obtain ⟨eao2, ecap2, hsh⟩ := own_shape hown2
        refine ⟨⟨j + 1, n + 1, _, eao2, ecap2, by omega, by omega, by simp, by rw [e1, hsh]; simp, by rw [e1]; simpa using kept_grew hown2 hg3 ap2, ?_, ap2.grew hown2 hg3, hom3, by rw [e1]; exact HKN.out.put x HX.out hin, (hb1.trans hb2).trans hb3⟩, by simp [intOf]; omega⟩
        rw [e1]
        simp only
        rw [show ints (ps ++ [d.length]) = ints ps ++ [(d.length : Int)] from by simp [ints]]
        exact hown3
    · have hj3 : j = l.length := by omega
      have hj2 : l.take j = l := List.take_of_length_le (by omega)
      have HDB : Hid (dictB k l = vint (dfold (l.take j)).1.length ++ (plainsB k (dfold (l.take j)).1 ++ packBytes (wid (dfold (l.take j)).1.length) (dfold (l.take j)).2)) := by show _ = _; rw [hj2]; rfl
      have HDV : Hid (∀ x ∈ (dfold (l.take j)).1, VOk x) := fun x hx => HVO.out x (hd4 x hx)
      clear hd4 HOK hkn hj2 HVO
      generalize dfold (l.take j) = S at *
      obtain ⟨d, ps⟩ := S
      simp only at hd1 hd2 hd3 he hp hap HDB HDV
      have apu : Apart (.slice eao d.length ecap) u := by
        cases hu : u.ownBlock with
        | none => exact Apart.symm (u := u) (Or.inl hu)
        | some g =>
          refine .inr (fun e => ?_)
          rw [hu] at e
          have h1 := (he.lt g e).1
          have h2 := (HU.out.lt g hu).2
          omega
      have app : Apart u9 u := by
        cases hu : u.ownBlock with
        | none => exact Apart.symm (u := u) (Or.inl hu)
        | some g =>
          refine .inr (fun e => ?_)
          rw [hu] at e
          have h1 := (hp.lt g e).1
          have h2 := (HU.out.lt g hu).2
          omega
      have HUR : Hid (wr.ownsRow base 5 1 u pre.length (bcells pre)) := ownsRow_below HU.out HB.out
      have hpl := plainsB_length k d HDV.out
      have hvl := vintF_length 10 d.length
      have hwl := wid_le d.length
      have HA1 : Hid (Calls Try.prog 105 #[u, .int .i64 (d.length : Int)] wr fun e w' => ∃ v', e = .returned v' ∧ w'.ownsRow base 5 1 v' (pre ++ vint d.length).length (bcells (pre ++ vint d.length)) ∧ Grew wr w' u v') :=
        appendNumber_any u pre d.length base wr (by omega) (by omega) (by omega) HUR.out
      have hq1 : (pre ++ vint d.length).length ≤ 40010 := by rw [List.length_append]; unfold vint; omega
      generalize hP1 : pre ++ vint d.length = P1 at *
      have HP1 : Hid (pre ++ vint d.length = P1) := hP1
      have hq2 : (P1 ++ plainsB k d).length ≤ 45000 := by rw [List.length_append]; omega
      have HA2 : Hid (∀ w1 v1, w1.ownsRow base 5 1 v1 P1.length (bcells P1) → Grew wr w1 u v1 → Calls Try.prog 76 #[v1, .slice eao d.length ecap, .int .i64 k] w1 fun e w' => ∃ u', e = .returned u' ∧ w'.ownsRow base 5 1 u' (P1 ++ plainsB k d).length (bcells (P1 ++ plainsB k d)) ∧ Grew w1 w' v1 u') := fun w1 v1 ho hg =>
        appendPlain_any v1 _ P1 d k base w1 hk HDV.out (by omega) (by omega) (by have := hg.by_.size; omega) ho (fun w' u' hg' => VSl.of_owns (kept_grew he (hg.trans hg') apu))
      generalize hP2 : P1 ++ plainsB k d = P2 at *
      have HP2 : Hid (P1 ++ plainsB k d = P2) := hP2
      have HA3 : Hid (∀ w1, Calls Try.prog 107 #[.int .i64 (d.length : Int)] w1 fun e w' => e = .returned (.int .i64 (wid d.length)) ∧ w' = w1) := fun w1 => widthOf_any d.length (by omega) w1
      have HA4 : Hid (∀ w1 v1, w1.ownsRow base 5 1 v1 P2.length (bcells P2) → Grew wr w1 u v1 → Calls Try.prog 37 #[v1, u9, .int .i64 (wid d.length : Nat)] w1 fun e w' => ∃ (v : Value), e = .returned v ∧ w'.ownsRow base 5 1 v (P2 ++ packBytes (wid d.length) ps).length (bcells (P2 ++ packBytes (wid d.length) ps)) ∧ Grew w1 w' v1 v) := fun w1 v1 ho hg => by
        refine (appendPackedG v1 u9 P2 ps (wid d.length) base w1 (by omega) (by omega) (fun p hp => wid_fits _ (by omega) p (hd3 p hp)) (by omega) (by have := hg.by_.size; omega) ho (fun w' u' hg' => ?_)).mono ?_
        · refine ISl.of_owns (base := w.heap.size + 1) ?_
          have := kept_grew hp (hg.trans hg') app
          rw [List.length_map, hd2]
          exact this
        · rintro e w' ⟨v, ns, h1, h2, h3, rfl, h4, h5⟩
          have := packBytes_of (wid d.length) ps ns h1 h2 h3
          subst this
          exact ⟨_, rfl, h4, h5⟩
      clear hP1 hP2 hpl hvl HUR he hp hap apu app hom hbel hd3
      go_wp2_with first
        | (go_at_call 105; refine HA1.out.mono ?_; rintro e w1 ⟨v1, rfl, ho1, hg1⟩)
        | (go_at_call 76; refine (HA2.out _ _ ho1 hg1).mono ?_; rintro e w2 ⟨v2, rfl, ho2, hg2⟩; have hg12 := hg1.trans hg2)
        | (go_at_call 107; refine (HA3.out _).mono ?_; rintro e w3 ⟨rfl, rfl⟩)
        | (go_at_call 37; refine (HA4.out _ _ ho2 hg12).mono ?_; rintro e w4 ⟨v4, rfl, ho4, hg4⟩)
      go_ret
      have e2 : pre ++ dictB k l = P2 ++ packBytes (wid d.length) ps := by
        rw [HDB.out, ← HP2.out, ← HP1.out]
        simp only [List.append_assoc]
      refine ⟨_, rfl, ?_, (Grew.of_below HB.out).trans (hg12.trans hg4)⟩
      rw [e2]
      exact ho4
end Go.Proofs.Ytjidbonhhpkljaa.Ec

/- A whole column: the program's side. -/
set_option linter.unusedVariables false
namespace Go.Proofs.Ytjidbonhhpkljaa.Ec
open Go.RowKit Go.Proofs.Ytjidbonhhpkljaa.Pk Go.Proofs.Ytjidbonhhpkljaa.Pm

def lev (x : Val) : Int := if x.null then 0 else 1
def there (l : List Val) : List Val := l.filter fun x => !x.null
def codedB (k e : Int) (l : List Val) : List Nat := if e = 1 then deltaF 0 l else if e = 2 then dictB k l else if e = 3 then runsB (l.map Val.n) else plainsB k l
def columnB (k e : Int) (l : List Val) : List Nat := runsB (l.map lev) ++ codedB k e (there l)

theorem there_mem {l : List Val} {x : Val} (h : x ∈ there l) : x ∈ l := (List.mem_filter.1 h).1
theorem there_length (l : List Val) : (there l).length ≤ l.length := List.length_filter_le _ _
theorem there_succ (l : List Val) (j : Nat) (h : j < l.length) : there (l.take (j + 1)) = if l[j].null then there (l.take j) else there (l.take j) ++ [l[j]] := by
  unfold there
  rw [List.take_succ_eq_append_getElem h, List.filter_append]
  cases hn : l[j].null <;> simp [hn]
theorem levs_succ (l : List Val) (j : Nat) (h : j < l.length) : (l.take (j + 1)).map lev = (l.take j).map lev ++ [lev l[j]] := by
  rw [List.take_succ_eq_append_getElem h, List.map_append]
  rfl
theorem runsB_length (l : List Int) (h : l.length ≤ 100) : (runsB l).length ≤ 1100 := by
  have := runsF_length l.length l
  unfold runsB
  omega

/-- Runs of a row of the call's own. -/
theorem appendRunsG (u lv : Value) (pre : List Nat) (zs : List Int) (base base2 : Nat) (w : World) (hz : zs.length ≤ 100) (hl : pre.length ≤ 100000) (hbase : base ≤ w.heap.size)
    (hown : w.ownsRow base 5 1 u pre.length (bcells pre)) (hlv : w.ownsRow base2 3 1 lv zs.length (icells zs)) (hap : Apart lv u) :
    Calls Try.prog 72 #[u, lv] w fun e w' => ∃ v', e = .returned v' ∧ w'.ownsRow base 5 1 v' (pre ++ runsB zs).length (bcells (pre ++ runsB zs)) ∧ Grew w w' u v' := by
  rcases hlv.2 with ⟨rfl, h0⟩ | ⟨g, cap, cur, rfl, hbg, hgb, hnc, hcm, hcs, htake⟩
  · rw [show (Value.slice none 0 0) = .slice none zs.length 0 from by rw [h0]]
    exact appendRuns_any u pre zs none 0 0 0 base w hz hl hbase (fun h => by omega) (fun h => by omega) (fun h => by omega) (fun j h => by omega) hown
  · obtain ⟨ao, b, off, cap2, he, h1, h2, h3⟩ := ISl.of_owns hlv
    simp only [Value.slice.injEq, true_and] at he
    obtain ⟨rfl, rfl⟩ := he
    refine appendRuns_any u pre zs (some ⟨g, 0, none⟩) b off cap base w hz hl hbase h1 h2 (fun h => ?_) h3 hown
    have e := h1 h
    simp only [Option.some.injEq, Addr.mk.injEq] at e
    rw [← e.1]
    intro hu
    rcases hap with h4 | h4
    · simp [Value.ownBlock] at h4
    · exact h4 (by rw [hu]; simp [Value.ownBlock])

set_option maxRecDepth 100000 in
set_option maxHeartbeats 8000000 in
theorem appendColumn_any (u lv : Value) (pre : List Nat) (l : List Val) (k e : Int) (base : Nat) (w : World) (hk : k = 1 ∨ k = 2 ∨ k = 3) (hv : ∀ x ∈ l, VOk x) (hn : l.length ≤ 100) (hl : pre.length ≤ 30000) (hb : base ≤ w.heap.size)
    (hown : w.ownsRow base 5 1 u pre.length (bcells pre)) (hvs : VSl w lv l) :
    Calls Try.prog 45 #[u, lv, .int .i64 k, .int .i64 e] w fun r w' => ∃ u', r = .returned u' ∧ w'.ownsRow base 5 1 u' (pre ++ columnB k e l).length (bcells (pre ++ columnB k e l)) ∧ Grew w w' u u' := by
  obtain ⟨i0, hi, hz0, hz1, hz2⟩ := info_parts Try.info3
  obtain ⟨j0, hj, hy0, hy1, hy2⟩ := info_parts Try.info39
  obtain ⟨ao, b, off, cap, rfl, hr⟩ := hvs
  have HVO : Hid (∀ x ∈ l, VOk x) := hv
  have HR : Hid (VRow w ao b off l) := hr
  have HU : Hid (w.ownsRow base 5 1 u pre.length (bcells pre)) := hown
  clear hv hr hown
  go_enter Try.func45, Try.ntmps45
  go_wp2_with (first
    | (at_make; refine wpList_make_own _ rfl _ _ 22 rfl w.heap.size 3 i0 (.int .i64 0) 1 Try.underlying22 hi hz0 hz1 .i64 .i64 _ l.length rfl rfl rfl (by rw [hz2]; omega) (by unfold maxLen; omega) (Nat.le_refl _) ?_; intro w0 hown0 hgrow0; have hs0 := hgrow0.size)
    | (at_make; refine wpList_make_own _ rfl _ _ 30 rfl w.heap.size 39 j0 _ 3 Try.underlying30 hj hy0 hy1 .i64 .i64 _ l.length rfl rfl rfl (by rw [hy2]; omega) (by unfold maxLen; omega) hs0 ?_; intro w1 hown1 hgrow1))
  have hap0 : Apart (.slice (some ⟨w.heap.size, 0, none⟩) 0 l.length) (.slice (some ⟨w0.heap.size, 0, none⟩) 0 l.length) := .inr (by
    have := (hown0.lt w.heap.size (by simp [Value.ownBlock])).2
    simp [Value.ownBlock]; omega)
  have hown0' := hown0.kept hgrow1 (.inr (by simp [Value.ownBlock]))
  have hbel1 : Below w.heap.size w w1 := ((Below.refl _ _).grown hgrow0 (Nat.le_refl _) (by simp)).grown hgrow1 hs0 (by simp)
  clear hown0 hgrow0 hgrow1 hs0
  go_loopw [9, 10, 21] (fun lev' pv i wr => ∃ (j : Nat), j ≤ l.length ∧ i = .int .i64 j ∧ wr.ownsRow w.heap.size 3 1 lev' j (icells ((l.take j).map lev)) ∧ wr.ownsRow w.heap.size 39 3 pv (there (l.take j)).length (vcells (there (l.take j))) ∧ Apart lev' pv ∧ Below w.heap.size w wr) (fun _ _ i _ => l.length - (intOf i).toNat)
  case atStart => exact ⟨0, Nat.zero_le _, rfl, by simpa [icells] using hown0', by simpa [there, vcells] using hown1, hap0, hbel1⟩
  case round =>
    clear hown0' hown1 hap0 hbel1
    obtain ⟨j, hjl, rfl, ho, hp, hap, hbel⟩ := hrel
    have HB : Hid (Below w.heap.size w wr) := hbel
    have hsz : w.heap.size ≤ wr.heap.size := hbel.size
    have htl : (there (l.take j)).length ≤ j := by have := there_length (l.take j); rw [List.length_take] at this; omega
    have hob : some wr.heap.size ≠ u9.ownBlock := fun e => by have := (ho.lt _ e.symm).2; omega
    by_cases hlt : j < l.length
    · have hr := HR.out.below hbel
      obtain rfl := hr.addr (by omega)
      have p0 := hr.c0 j hlt
      have p1 := hr.c1 j hlt
      have p2 := hr.c2 j hlt
      have HT := there_succ l j hlt
      have HL : Hid ((l.take (j + 1)).map lev = (l.take j).map lev ++ [lev l[j]]) := levs_succ l j hlt
      clear hr hbel
      generalize l[j] = x at *
      cases hx : x.null
      · rw [hx] at p0 HT
        have HTH : Hid (there (l.take (j + 1)) = there (l.take j) ++ [x]) := by show _ = _; simpa using HT
        have HLV : Hid (lev x = 1) := by show _ = _; unfold lev; rw [hx]; rfl
        have hcx : vcells [x] = [.bool false, .int .i64 x.n, .string x.s] := by rw [vcells_one, hx]
        have h1c : ∀ u ∈ [Value.bool false, .int .i64 x.n, .string x.s], u.oneCell' = true := by have := three_one x; rwa [hx] at this
        clear HT hx
        go_wp2_with (first
          | (at_builtin; refine wpList_append_keep _ rfl _ _ 22 rfl w.heap.size 3 i0 (.int .i64 0) 1 8 Try.underlying22 hi hz0 hz1 hz2 rfl (by decide) _ j _ rfl ((ho.alloc _).alloc _) ⟨wr.heap.size + 1, 0, none⟩ 1 1 [.int .i64 1] rfl (by decide) rfl (by simpa using one_at (wr.alloc _) _ _) (one_oneI _) (by unfold maxLen; omega) (by omega) (by simp; omega) ?_; intro v2 w2 hown2 hgr2; have hg2' := Grew.append hgr2; have hbx := box_grown hg2'.by_ hob; obtain ⟨q0, q1, q2⟩ := hbx; have hg2 := hg2'.box; have hp2 := kept_grew hp hg2 hap.symm; have hs2 := hg2.by_.size)
          | (at_builtin; refine wpList_append_keep _ rfl _ _ 30 rfl w.heap.size 39 j0 _ 3 32 Try.underlying30 hj hy0 hy1 hy2 rfl (by decide) _ _ _ rfl (hp2.alloc _) ⟨w2.heap.size, 0, none⟩ 1 1 [.bool false, .int .i64 x.n, .string x.s] rfl (by decide) rfl (three_at _ _ _ _ _) h1c (by unfold maxLen; omega) (by omega) (by simp; omega) ?_; intro v3 w3 hown3 hgr3))
        have hg3 := Grew.append hgr3
        have ap2 : Apart v2 u10 := (hap.symm.grew hp hg2).symm
        have ho3 := kept_grew hown2 hg3 ap2
        rw [icells_snoc] at ho3
        rw [← hcx, ← vcells_append] at hown3
        have hb2 : Below w.heap.size wr w2 := hg2.below (fun g hg => (ho.lt g hg).1) hsz
        have hb3 : Below w.heap.size w2 w3 := hg3.below (fun g hg => (hp2.lt g hg).1) (Nat.le_trans hsz hs2)
        refine ⟨⟨j + 1, by omega, by simp, by rw [HL.out, HLV.out]; exact ho3, by rw [HTH.out]; simpa using hown3, ap2.grew hown2 hg3, (HB.out.trans hb2).trans hb3⟩, by simp [intOf]; omega⟩
      · rw [hx] at p0 HT
        have HTH : Hid (there (l.take (j + 1)) = there (l.take j)) := by show _ = _; simpa using HT
        have HLV : Hid (lev x = 0) := by show _ = _; unfold lev; rw [hx]; rfl
        clear HT hx
        go_wp2_with (at_builtin; refine wpList_append_keep _ rfl _ _ 22 rfl w.heap.size 3 i0 (.int .i64 0) 1 8 Try.underlying22 hi hz0 hz1 hz2 rfl (by decide) _ j _ rfl ((ho.alloc _).alloc _) ⟨wr.heap.size + 1, 0, none⟩ 1 1 [.int .i64 0] rfl (by decide) rfl (by simpa using one_at (wr.alloc _) _ _) (one_oneI _) (by unfold maxLen; omega) (by omega) (by simp; omega) ?_; intro v2 w2 hown2 hgr2)
        have hg2 := Grew.box (Grew.append hgr2)
        rw [icells_snoc] at hown2
        have hb2 : Below w.heap.size wr w2 := hg2.below (fun g hg => (ho.lt g hg).1) hsz
        refine ⟨⟨j + 1, by omega, by simp, by rw [HL.out, HLV.out]; exact hown2, by rw [HTH.out]; exact kept_grew hp hg2 hap.symm, (hap.symm.grew hp hg2).symm, HB.out.trans hb2⟩, by simp [intOf]; omega⟩
    · have hj3 : j = l.length := by omega
      have hj2 : l.take j = l := List.take_of_length_le (by omega)
      rw [hj2] at ho hp
      have hml : ((l.map lev).length) = l.length := List.length_map _
      have ho' : wr.ownsRow w.heap.size 3 1 u9 (l.map lev).length (icells (l.map lev)) := by rw [hml, ← hj3]; exact ho
      have HCO : Hid (columnB k e l = runsB (l.map lev) ++ codedB k e (there l)) := rfl
      have HTV : Hid (∀ x ∈ there l, VOk x) := fun x hx => HVO.out x (there_mem hx)
      have htl2 := there_length l
      have hrl := runsB_length (l.map lev) (by omega)
      have apo : Apart u9 u := (Apart.new (B := 0) HU.out ho').symm
      have app : Apart u10 u := (Apart.new (B := 0) HU.out hp).symm
      have HUR : Hid (wr.ownsRow base 5 1 u pre.length (bcells pre)) := ownsRow_below HU.out HB.out
      have HA1 : Hid (Calls Try.prog 72 #[u, u9] wr fun e w' => ∃ v', e = .returned v' ∧ w'.ownsRow base 5 1 v' (pre ++ runsB (l.map lev)).length (bcells (pre ++ runsB (l.map lev))) ∧ Grew wr w' u v') :=
        appendRunsG u u9 pre (l.map lev) base w.heap.size wr (by omega) (by omega) (by omega) HUR.out ho' apo
      have hq1 : (pre ++ runsB (l.map lev)).length ≤ 32000 := by rw [List.length_append]; omega
      generalize runsB (l.map lev) = RL at *
      generalize hP1 : pre ++ RL = P1 at *
      have HP1 : Hid (pre ++ RL = P1) := hP1
      generalize there l = tl at *
      have HPV : Hid (∀ w1 v1, Grew wr w1 u v1 → w1.ownsRow w.heap.size 39 3 u10 tl.length (vcells tl) ∧ Apart u10 v1) := fun w1 v1 hg => ⟨kept_grew hp hg app, app.grew hp hg⟩
      clear hP1 hrl hml ho ho' apo HUR hap hbel hj2 hj3 HVO HU
      rcases cases4 e with rfl | rfl | rfl | rfl | ⟨e0, e1, e2, e3⟩
      · have HCB : Hid (codedB k 0 tl = plainsB k tl) := rfl
        have HA2 : Hid (∀ w1 v1, w1.ownsRow base 5 1 v1 P1.length (bcells P1) → Grew wr w1 u v1 → Calls Try.prog 76 #[v1, u10, .int .i64 k] w1 fun e w' => ∃ u', e = .returned u' ∧ w'.ownsRow base 5 1 u' (P1 ++ plainsB k tl).length (bcells (P1 ++ plainsB k tl)) ∧ Grew w1 w' v1 u') := fun w1 v1 ho hg =>
          appendPlain_any v1 _ P1 tl k base w1 hk HTV.out (by omega) (by omega) (by have := hg.by_.size; omega) ho (fun w' u' hg' => VSl.of_owns (kept_grew (HPV.out w1 v1 hg).1 hg' (HPV.out w1 v1 hg).2))
        clear hp app
        go_wp2_with first
          | (go_at_call 72; refine HA1.out.mono ?_; rintro e w1 ⟨v1, rfl, ho1, hg1⟩)
          | (go_at_call 76; refine (HA2.out _ _ ho1 hg1).mono ?_; rintro e w2 ⟨v2, rfl, ho2, hg2⟩)
        go_ret
        refine ⟨_, rfl, ?_, (Grew.of_below HB.out).trans (hg1.trans hg2)⟩
        rw [HCO.out, HCB.out, ← List.append_assoc, HP1.out]
        exact ho2
      · have HCB : Hid (codedB k 1 tl = deltaF 0 tl) := rfl
        have HA2 : Hid (∀ w1 v1, w1.ownsRow base 5 1 v1 P1.length (bcells P1) → Grew wr w1 u v1 → Calls Try.prog 73 #[v1, u10] w1 fun e w' => ∃ u', e = .returned u' ∧ w'.ownsRow base 5 1 u' (P1 ++ deltaF 0 tl).length (bcells (P1 ++ deltaF 0 tl)) ∧ Grew w1 w' v1 u') := fun w1 v1 ho hg =>
          appendDelta_any v1 _ P1 tl base w1 HTV.out (by omega) (by omega) (by have := hg.by_.size; omega) ho (fun w' u' hg' => VSl.of_owns (kept_grew (HPV.out w1 v1 hg).1 hg' (HPV.out w1 v1 hg).2))
        clear hp app
        go_wp2_with first
          | (go_at_call 72; refine HA1.out.mono ?_; rintro e w1 ⟨v1, rfl, ho1, hg1⟩)
          | (go_at_call 73; refine (HA2.out _ _ ho1 hg1).mono ?_; rintro e w2 ⟨v2, rfl, ho2, hg2⟩)
        go_ret
        refine ⟨_, rfl, ?_, (Grew.of_below HB.out).trans (hg1.trans hg2)⟩
        rw [HCO.out, HCB.out, ← List.append_assoc, HP1.out]
        exact ho2
      · have HCB : Hid (codedB k 2 tl = dictB k tl) := rfl
        have HA2 : Hid (∀ w1 v1, w1.ownsRow base 5 1 v1 P1.length (bcells P1) → Grew wr w1 u v1 → Calls Try.prog 74 #[v1, u10, .int .i64 k] w1 fun e w' => ∃ u', e = .returned u' ∧ w'.ownsRow base 5 1 u' (P1 ++ dictB k tl).length (bcells (P1 ++ dictB k tl)) ∧ Grew w1 w' v1 u') := fun w1 v1 ho hg =>
          appendDict_any v1 _ P1 tl k base w1 hk HTV.out (by omega) (by omega) (by have := hg.by_.size; omega) ho (VSl.of_owns (HPV.out w1 v1 hg).1)
        clear hp app
        go_wp2_with first
          | (go_at_call 72; refine HA1.out.mono ?_; rintro e w1 ⟨v1, rfl, ho1, hg1⟩)
          | (go_at_call 74; refine (HA2.out _ _ ho1 hg1).mono ?_; rintro e w2 ⟨v2, rfl, ho2, hg2⟩)
        go_ret
        refine ⟨_, rfl, ?_, (Grew.of_below HB.out).trans (hg1.trans hg2)⟩
        rw [HCO.out, HCB.out, ← List.append_assoc, HP1.out]
        exact ho2
      · have HCB : Hid (codedB k 3 tl = runsB (tl.map Val.n)) := rfl
        have hml2 : (tl.map Val.n).length = tl.length := List.length_map _
        have HA2 : Hid (∀ w1 v1, Grew wr w1 u v1 → Calls Try.prog 75 #[u10] w1 fun e w' => ∃ v', e = .returned v' ∧ w'.ownsRow w1.heap.size 3 1 v' tl.length (icells (tl.map Val.n)) ∧ Below w1.heap.size w1 w') := fun w1 v1 hg =>
          bitsOf_any u10 tl w1 (by omega) (VSl.of_owns (HPV.out w1 v1 hg).1)
        have HA3 : Hid (∀ w1 w2 v1 v2, w1.ownsRow base 5 1 v1 P1.length (bcells P1) → Grew wr w1 u v1 → w2.ownsRow w1.heap.size 3 1 v2 tl.length (icells (tl.map Val.n)) → Below w1.heap.size w1 w2 → Calls Try.prog 72 #[v1, v2] w2 fun e w' => ∃ v', e = .returned v' ∧ w'.ownsRow base 5 1 v' (P1 ++ runsB (tl.map Val.n)).length (bcells (P1 ++ runsB (tl.map Val.n))) ∧ Grew w2 w' v1 v') := fun w1 w2 v1 v2 ho hg ho2 hb2 =>
          appendRunsG v1 v2 P1 (tl.map Val.n) base w1.heap.size w2 (by omega) (by omega) (by have := hg.by_.size; have := hb2.size; omega) (ownsRow_below ho hb2) (by rw [hml2]; exact ho2) (Apart.new (B := 0) ho ho2).symm
        clear hp app
        go_wp2_with fail
        refine HA1.out.mono ?_
        rintro e w1 ⟨v1, rfl, ho1, hg1⟩
        go_wp2_with first
          | (go_at_call 75; refine (HA2.out _ _ hg1).mono ?_; rintro e w2 ⟨v2, rfl, ho2, hb2⟩)
          | (go_at_call 72; refine (HA3.out _ _ _ _ ho1 hg1 ho2 hb2).mono ?_; rintro e w3 ⟨v3, rfl, ho3, hg3⟩)
        go_ret
        refine ⟨_, rfl, ?_, (Grew.of_below HB.out).trans (hg1.trans ((Grew.of_below hb2).trans hg3))⟩
        rw [HCO.out, HCB.out, ← List.append_assoc, HP1.out]
        exact ho3
      · have HCB : Hid (codedB k e tl = plainsB k tl) := by
          show _ = _
          simp at e1 e2 e3
          unfold codedB
          rw [if_neg e1, if_neg e2, if_neg e3]
        have HA2 : Hid (∀ w1 v1, w1.ownsRow base 5 1 v1 P1.length (bcells P1) → Grew wr w1 u v1 → Calls Try.prog 76 #[v1, u10, .int .i64 k] w1 fun e w' => ∃ u', e = .returned u' ∧ w'.ownsRow base 5 1 u' (P1 ++ plainsB k tl).length (bcells (P1 ++ plainsB k tl)) ∧ Grew w1 w' v1 u') := fun w1 v1 ho hg =>
          appendPlain_any v1 _ P1 tl k base w1 hk HTV.out (by omega) (by omega) (by have := hg.by_.size; omega) ho (fun w' u' hg' => VSl.of_owns (kept_grew (HPV.out w1 v1 hg).1 hg' (HPV.out w1 v1 hg).2))
        clear hp app
        go_wp2_with first
          | (go_at_call 72; refine HA1.out.mono ?_; rintro e w1 ⟨v1, rfl, ho1, hg1⟩)
          | (go_at_call 76; refine (HA2.out _ _ ho1 hg1).mono ?_; rintro e w2 ⟨v2, rfl, ho2, hg2⟩)
        go_ret
        refine ⟨_, rfl, ?_, (Grew.of_below HB.out).trans (hg1.trans hg2)⟩
        rw [HCO.out, HCB.out, ← List.append_assoc, HP1.out]
        exact ho2
end Go.Proofs.Ytjidbonhhpkljaa.Ec
