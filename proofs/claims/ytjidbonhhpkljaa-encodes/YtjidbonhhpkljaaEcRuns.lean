/- Runs: as a plain function, and the contracts on both sides. -/
import Derived.Test.YtjidbonhhpkljaaEcSmall
set_option linter.unusedVariables false
namespace Go.Proofs.Ytjidbonhhpkljaa.Ec
open Go.RowKit Go.Proofs.Ytjidbonhhpkljaa.Pk Go.Proofs.Ytjidbonhhpkljaa.Pm

/-- How many at the beginning are x. -/
def runLen (x : Int) : List Int → Nat
  | [] => 0
  | y :: r => if y = x then runLen x r + 1 else 0

def byteOf (x : Int) : Nat := (x % 256).toNat

/-- Runs, at most so many. -/
def runsF : Nat → List Int → List Nat
  | 0, _ => []
  | f + 1, l => match l with
    | [] => []
    | x :: r => vint (runLen x (x :: r)) ++ ([byteOf x] ++ runsF f ((x :: r).drop (runLen x (x :: r))))

def runsB (l : List Int) : List Nat := runsF l.length l

theorem runLen_le (x : Int) (l : List Int) : runLen x l ≤ l.length := by
  induction l with
  | nil => simp [runLen]
  | cons y r ih => simp only [runLen]; split <;> simp <;> omega
theorem runLen_in (x : Int) (l : List Int) (n : Nat) (h : n < runLen x l) : ∃ hn : n < l.length, l[n] = x := by
  induction l generalizing n with
  | nil => simp [runLen] at h
  | cons y r ih =>
    simp only [runLen] at h
    split at h
    · rename_i hy
      cases n with
      | zero => exact ⟨by simp, by simpa using hy⟩
      | succ m =>
        obtain ⟨h1, h2⟩ := ih m (by omega)
        exact ⟨by simp; exact h1, by simpa using h2⟩
    · omega
theorem runLen_out (x : Int) (l : List Int) (h : runLen x l < l.length) : l[runLen x l] ≠ x := by
  induction l with
  | nil => simp at h
  | cons y r ih =>
    simp only [runLen] at h ⊢
    by_cases hy : y = x
    · simp only [hy, if_true] at h ⊢
      have := ih (by simpa using h)
      simpa using this
    · simp only [hy, if_false] at h ⊢
      simpa using hy

/-- The run that begins at i. -/
def runAt (zs : List Int) (i : Nat) : Nat := runLen (zs.getD i 0) (zs.drop i)

theorem runAt_pos (zs : List Int) (i : Nat) (h : i < zs.length) : 0 < runAt zs i := by
  unfold runAt
  rw [List.drop_eq_getElem_cons h, getD_get h]
  simp [runLen]
theorem runAt_le (zs : List Int) (i : Nat) (h : i < zs.length) : i + runAt zs i ≤ zs.length := by
  have := runLen_le (zs.getD i 0) (zs.drop i)
  unfold runAt
  rw [List.length_drop] at this
  omega
theorem runAt_in (zs : List Int) (i n : Nat) (h : n < runAt zs i) : ∃ hn : i + n < zs.length, zs[i + n] = zs.getD i 0 := by
  obtain ⟨h1, h2⟩ := runLen_in _ _ n h
  have h3 : i + n < zs.length := by simp at h1; omega
  exact ⟨h3, by simpa using h2⟩
theorem runAt_out (zs : List Int) (i : Nat) (h : i + runAt zs i < zs.length) : zs[i + runAt zs i] ≠ zs.getD i 0 := by
  have := runLen_out (zs.getD i 0) (zs.drop i) (by unfold runAt at h; rw [List.length_drop]; omega)
  simpa [runAt] using this
theorem runsF_step (f : Nat) (zs : List Int) (i : Nat) (h : i < zs.length) : runsF (f + 1) (zs.drop i) = vint (runAt zs i) ++ ([byteOf (zs.getD i 0)] ++ runsF f (zs.drop (i + runAt zs i))) := by
  unfold runAt
  rw [List.drop_eq_getElem_cons h, getD_get h]
  simp only [runsF]
  rw [← List.drop_eq_getElem_cons h, List.drop_drop]
theorem runsF_end (f : Nat) (zs : List Int) (i : Nat) (h : ¬ i < zs.length) : runsF f (zs.drop i) = [] := by
  rw [List.drop_of_length_le (by omega)]
  cases f <;> rfl

theorem byteOf_lt (x : Int) : byteOf x < 256 := by unfold byteOf; omega
theorem byteOf_int (x : Int) : x % 256 = (byteOf x : Int) := by unfold byteOf; omega

theorem runsF_length (f : Nat) (l : List Int) : (runsF f l).length ≤ 11 * f := by
  induction f generalizing l with
  | zero => simp [runsF]
  | succ f ih =>
    cases l with
    | nil => simp [runsF]
    | cons x r =>
      simp only [runsF]
      have h1 := vintF_length 10 (runLen x (x :: r))
      have h2 := ih ((x :: r).drop (runLen x (x :: r)))
      simp only [List.length_append, List.length_singleton]
      unfold vint
      omega

set_option maxRecDepth 100000 in
set_option maxHeartbeats 4000000 in
theorem appendRuns_any (v : Value) (pre : List Nat) (zs : List Int) (ao : Option Addr) (b off cap base : Nat) (w : World) (hz : zs.length ≤ 100) (hl : pre.length ≤ 100000) (hbase : base ≤ w.heap.size)
    (hs : 0 < zs.length → ao = some ⟨b, off, none⟩) (hb : 0 < zs.length → b < w.heap.size) (hne : 0 < zs.length → v.ownBlock ≠ some b) (hc : ∀ j, j < zs.length → w.cell? ⟨b, off + j, none⟩ = some (.int .i64 (zs.getD j 0)))
    (hown : w.ownsRow base 5 1 v pre.length (bcells pre)) :
    Calls Try.prog 72 #[v, .slice ao zs.length cap] w fun e w' => ∃ v', e = .returned v' ∧ w'.ownsRow base 5 1 v' (pre ++ runsB zs).length (bcells (pre ++ runsB zs)) ∧ Grew w w' v v' := by
  obtain ⟨i0, hi, hz0, hz1, hz2⟩ := info_parts Try.info5
  go_enter Try.func72, Try.ntmps72
  go_wp2_with fail
  go_loopw [0, 5] (fun bv i wr => ∃ (k f : Nat) (bs : List Nat), k ≤ zs.length ∧ i = .int .i64 k ∧ zs.length ≤ k + f ∧ f ≤ 100 ∧ bs.length + 11 * f ≤ 1100 ∧ bs ++ runsF f (zs.drop k) = runsB zs ∧ wr.ownsRow base 5 1 bv (pre ++ bs).length (bcells (pre ++ bs)) ∧ Grew w wr v bv) (fun _ i _ => zs.length - (intOf i).toNat)
  case atStart => exact ⟨0, zs.length, [], Nat.zero_le _, rfl, by omega, hz, by simp; omega, rfl, by simpa using hown, Grew.refl _ _⟩
  case round =>
    clear hown
    obtain ⟨k, f, bs, hk, rfl, hkf, hf, hbl, hbs, hown, hgr⟩ := hrel
    rename World => wo
    have HBS : Hid (bs ++ runsF f (zs.drop k) = runsB zs) := hbs
    have HG : Hid (Grew w wo v u0) := hgr
    have hszr : w.heap.size ≤ wo.heap.size := hgr.by_.size
    clear hbs hgr
    have hpl : (pre ++ bs).length ≤ 200000 := by simp; omega
    generalize hpb : pre ++ bs = pb at *
    have HPB : Hid (pre ++ bs = pb) := hpb
    clear hpb
    by_cases hlt : k < zs.length
    · obtain rfl := hs (by omega)
      have hcr : ∀ j, j < zs.length → wo.cell? ⟨b, off + j, none⟩ = some (.int .i64 (zs.getD j 0)) := fun j hj => HG.out.by_.cell (hc j hj) (fun h => hne (by omega) h.symm)
      have HC : Hid (∀ j, j < zs.length → wo.cell? ⟨b, off + j, none⟩ = some (.int .i64 (zs.getD j 0))) := hcr
      have HRS : Hid _ := runsF_step (f - 1) zs k hlt
      have hrp := runAt_pos zs k hlt
      have hrl := runAt_le zs k hlt
      have HIN : Hid (∀ n, n < runAt zs k → ∃ hn : k + n < zs.length, zs[k + n] = zs.getD k 0) := fun n hn => runAt_in zs k n hn
      have HOUT : Hid (∀ h : k + runAt zs k < zs.length, zs[k + runAt zs k] ≠ zs.getD k 0) := fun h => runAt_out zs k h
      have hck := hcr k hlt
      clear hcr
      generalize runAt zs k = R at *
      generalize hx : zs.getD k 0 = x at *
      have HX : Hid (zs.getD k 0 = x) := hx
      clear hx
      go_wp2_with fail
      go_loopw [6] (fun j wq => ∃ m : Nat, k + 1 ≤ m ∧ m ≤ k + R ∧ j = .int .i64 (m : Int) ∧ ∃ n, wq = wo.drewN n) (fun j _ => zs.length + 1 - (intOf j).toNat)
      case atStart => exact ⟨k + 1, by omega, by omega, by go_num, 0, rfl⟩
      case round =>
        obtain ⟨m, hm1, hm2, rfl, n, hwq⟩ := hrel
        have HW : Hid (wr = wo.drewN n) := hwq
        have hck' : wr.cell? ⟨b, off + k, none⟩ = some (.int .i64 x) := by rw [hwq]; exact hck
        by_cases hmR : m < k + R
        · obtain ⟨hn, hv⟩ := HIN.out (m - k) (by omega)
          have hml : m < zs.length := by omega
          have hct : wr.cell? ⟨b, off + m, none⟩ = some (.int .i64 x) := by
            rw [hwq]
            have := HC.out m hml
            rw [getD_get hml] at this
            rw [show zs[m] = x from by rw [← hv]; congr 1; omega] at this
            exact this
          have hg : decide ((m : Int) < (zs.length : Int)) = true := by simpa using hml
          clear hck hwq hown hn hv
          go_wp2_with fail
          go_quiet (fail)
          go_wp2
          go_roundw
          case rel => exact ⟨m + 1, by omega, by omega, by go_num, n + nq, by rw [HW.out]; exact World.drewN_drewN _ _ _⟩
          case measure => simp [intOf]; omega
        · have HMR : Hid (m = k + R) := by show m = k + R; omega
          have hmk : k ≤ m := by omega
          have HSU : Hid (wrap64 ((m : Int) - (k : Int)) = (R : Int)) := by have := HMR.out; show _ = _; unfold wrap64; omega
          by_cases hml : m < zs.length
          · have hct : ∃ y, wr.cell? ⟨b, off + m, none⟩ = some (.int .i64 y) ∧ y ≠ x := by
              refine ⟨zs.getD m 0, by rw [hwq]; exact HC.out m hml, ?_⟩
              have e := HMR.out
              clear HSU
              subst e
              rw [getD_get hml]
              exact HOUT.out hml
            obtain ⟨y, hct, hyx⟩ := hct
            have hg : decide ((m : Int) < (zs.length : Int)) = true := by simpa using hml
            have he : (y == x) = false := by simpa using hyx
            have HOW : Hid (∀ q, (wr.drewN q).ownsRow base 5 1 u0 pb.length (bcells pb)) := fun q => by rw [hwq]; exact ownsRow_below hown (below_drewN (below_drewN (Below.refl _ _) n) q)
            have HGW : Hid (∀ q, Grew w (wr.drewN q) v u0) := fun q => by rw [hwq]; exact (HG.out.drewN n).drewN q
            clear hck hwq hown hmR hyx
            go_wp2_with fail
            go_quiet (fail)
            try clear hct
            have hwb : IntKind.u8.wrap x = x % 256 := by simp [IntKind.wrap, IntKind.bits, IntKind.signed]
            rw [byteOf_int] at hwb
            have hbl2 := byteOf_lt x
            have HBX : Hid (∃ y, y = byteOf x) := ⟨_, rfl⟩
            generalize hyb : byteOf x = yb at *
            have HYB : Hid (byteOf x = yb) := hyb
            clear HBX hyb
            have hvl := vintF_length 10 R
            have HV : Hid (∃ q, q = pb ++ vint R) := ⟨_, rfl⟩
            generalize hpv : pb ++ vint R = pv at *
            have hpvl : pv.length ≤ 200010 := by rw [← hpv, List.length_append]; unfold vint; omega
            have HPV : Hid (pb ++ vint R = pv) := hpv
            clear hpv HV
            have HA : Hid (Calls Try.prog 105 #[u0, .int .i64 ((m : Int) - (k : Int))] (wr.drewN nq) fun e w' => ∃ v', e = .returned v' ∧ w'.ownsRow base 5 1 v' pv.length (bcells pv) ∧ Grew (wr.drewN nq) w' u0 v') := by
              have h0 := appendNumber_any u0 pb R base (wr.drewN nq) (by omega) (by omega) (Nat.le_trans hbase (HGW.out nq).by_.size) (HOW.out nq)
              rw [HPV.out] at h0
              rw [show (m : Int) - (k : Int) = (R : Int) from by have := HMR.out; omega]
              exact h0
            go_wp2_with first
              | (go_at_call 105; refine HA.out.mono ?_; rintro e w1 ⟨v1, rfl, hown1, hg1⟩; have hg2 := (HGW.out nq).trans hg1; have hck1 := hg2.by_.cell (hc k hlt) (fun h => hne (by omega) h.symm); have HG2 : Hid (Grew w w1 v v1) := hg2; have hsz1 : w.heap.size ≤ w1.heap.size := hg2.by_.size; rw [HX.out] at hck1; clear hg2 hg1 hck')
              | (at_builtin; refine wpList_append_keep _ rfl _ _ 44 rfl base 5 i0 (.int .u8 0) 1 1 Try.underlying44 hi hz0 hz1 hz2 rfl (by decide) _ pv.length _ rfl (hown1.alloc _) ⟨w1.heap.size, 0, none⟩ 1 1 [.int .u8 (yb : Int)] rfl (by decide) rfl (one_at _ _ _) (one_oneB _) (by unfold maxLen; omega) (by omega) (by simp; omega) ?_; intro v2 w2 hown2 hgr2)
            have hgr3 := HG2.out.trans (Grew.append hgr2)
            rw [bcells_snoc] at hown2
            have e1 : pre ++ (bs ++ (vint R ++ [yb])) = pv ++ [yb] := by rw [← HPV.out, ← HPB.out]; simp [List.append_assoc]
            have e2 : (bs ++ (vint R ++ [yb])) ++ runsF (f - 1) (zs.drop m) = runsB zs := by
              have h1 := HRS.out
              rw [show f - 1 + 1 = f by omega] at h1
              rw [← HBS.out, h1, HMR.out]
              simp [List.append_assoc]
            refine ⟨⟨m, f - 1, bs ++ (vint R ++ [yb]), by omega, rfl, by omega, by omega, ?_, e2, ?_, hgr3⟩, by simp [intOf]; omega⟩
            · rw [List.length_append, List.length_append]; unfold vint; simp; omega
            · rw [e1]; simpa using hown2
          · have hg : decide ((m : Int) < (zs.length : Int)) = false := by simpa using hml
            have HOW : Hid (∀ q, (wr.drewN q).ownsRow base 5 1 u0 pb.length (bcells pb)) := fun q => by rw [hwq]; exact ownsRow_below hown (below_drewN (below_drewN (Below.refl _ _) n) q)
            have HGW : Hid (∀ q, Grew w (wr.drewN q) v u0) := fun q => by rw [hwq]; exact (HG.out.drewN n).drewN q
            clear hck hwq hown hmR
            go_wp2_with fail
            go_quiet (fail)
            try clear hct
            have hwb : IntKind.u8.wrap x = x % 256 := by simp [IntKind.wrap, IntKind.bits, IntKind.signed]
            rw [byteOf_int] at hwb
            have hbl2 := byteOf_lt x
            have HBX : Hid (∃ y, y = byteOf x) := ⟨_, rfl⟩
            generalize hyb : byteOf x = yb at *
            have HYB : Hid (byteOf x = yb) := hyb
            clear HBX hyb
            have hvl := vintF_length 10 R
            have HV : Hid (∃ q, q = pb ++ vint R) := ⟨_, rfl⟩
            generalize hpv : pb ++ vint R = pv at *
            have hpvl : pv.length ≤ 200010 := by rw [← hpv, List.length_append]; unfold vint; omega
            have HPV : Hid (pb ++ vint R = pv) := hpv
            clear hpv HV
            have HA : Hid (Calls Try.prog 105 #[u0, .int .i64 ((m : Int) - (k : Int))] (wr.drewN nq) fun e w' => ∃ v', e = .returned v' ∧ w'.ownsRow base 5 1 v' pv.length (bcells pv) ∧ Grew (wr.drewN nq) w' u0 v') := by
              have h0 := appendNumber_any u0 pb R base (wr.drewN nq) (by omega) (by omega) (Nat.le_trans hbase (HGW.out nq).by_.size) (HOW.out nq)
              rw [HPV.out] at h0
              rw [show (m : Int) - (k : Int) = (R : Int) from by have := HMR.out; omega]
              exact h0
            go_wp2_with first
              | (go_at_call 105; refine HA.out.mono ?_; rintro e w1 ⟨v1, rfl, hown1, hg1⟩; have hg2 := (HGW.out nq).trans hg1; have hck1 := hg2.by_.cell (hc k hlt) (fun h => hne (by omega) h.symm); have HG2 : Hid (Grew w w1 v v1) := hg2; have hsz1 : w.heap.size ≤ w1.heap.size := hg2.by_.size; rw [HX.out] at hck1; clear hg2 hg1 hck')
              | (at_builtin; refine wpList_append_keep _ rfl _ _ 44 rfl base 5 i0 (.int .u8 0) 1 1 Try.underlying44 hi hz0 hz1 hz2 rfl (by decide) _ pv.length _ rfl (hown1.alloc _) ⟨w1.heap.size, 0, none⟩ 1 1 [.int .u8 (yb : Int)] rfl (by decide) rfl (one_at _ _ _) (one_oneB _) (by unfold maxLen; omega) (by omega) (by simp; omega) ?_; intro v2 w2 hown2 hgr2)
            have hgr3 := HG2.out.trans (Grew.append hgr2)
            rw [bcells_snoc] at hown2
            have e1 : pre ++ (bs ++ (vint R ++ [yb])) = pv ++ [yb] := by rw [← HPV.out, ← HPB.out]; simp [List.append_assoc]
            have e2 : (bs ++ (vint R ++ [yb])) ++ runsF (f - 1) (zs.drop m) = runsB zs := by
              have h1 := HRS.out
              rw [show f - 1 + 1 = f by omega] at h1
              rw [← HBS.out, h1, HMR.out]
              simp [List.append_assoc]
            refine ⟨⟨m, f - 1, bs ++ (vint R ++ [yb]), by omega, rfl, by omega, by omega, ?_, e2, ?_, hgr3⟩, by simp [intOf]; omega⟩
            · rw [List.length_append, List.length_append]; unfold vint; simp; omega
            · rw [e1]; simpa using hown2
    · have hke : runsF f (zs.drop k) = [] := runsF_end f zs k hlt
      have HE : Hid (pre ++ runsB zs = pb) := by show _ = _; rw [← HBS.out, hke, List.append_nil]; exact HPB.out
      clear hke
      go_wp2
      go_ret
      exact ⟨_, rfl, by rw [HE.out]; exact hown, HG.out⟩
end Go.Proofs.Ytjidbonhhpkljaa.Ec
