/- Runs: the document's side. -/
import Derived.Test.YtjidbonhhpkljaaEcRuns
set_option linter.unusedVariables false
namespace Go.Proofs.Ytjidbonhhpkljaa.Ec
open Go.RowKit Go.Proofs.Ytjidbonhhpkljaa.Pk Go.Proofs.Ytjidbonhhpkljaa.Pm

theorem cell_after {W w1 : World} {p : Addr} {v : Value} (hb : Below W.heap.size W w1) (h : W.cell? p = some v) (hp : p.block < W.heap.size) : w1.cell? p = some v :=
  (hb.cell hp).trans h

theorem old_one {w w1 : World} {o : Obj} {p : Addr} {v : Value} (hp : p.block < w.heap.size) (hc : w.cell? p = some v) (h : Below ((w.alloc o).drew).heap.size (w.alloc o).drew w1) : w1.cell? p = some v :=
  ((below_one h).cell hp).trans hc
theorem old_two {w w1 : World} {p : Addr} {v : Value} (hp : p.block < w.heap.size) (hc : w.cell? p = some v) (h : Below w.drew.heap.size w.drew w1) : w1.cell? p = some v :=
  (h.cell (by simpa using hp)).trans hc

set_option maxRecDepth 100000 in
set_option maxHeartbeats 4000000 in
theorem runs_any (zs : List Int) (ao : Option Addr) (b off cap : Nat) (w : World) (hz : zs.length ≤ 100)
    (hs : 0 < zs.length → ao = some ⟨b, off, none⟩) (hb : 0 < zs.length → b < w.heap.size) (hc : ∀ j, j < zs.length → w.cell? ⟨b, off + j, none⟩ = some (.int .i64 (zs.getD j 0))) :
    Calls Try.prog 68 #[.slice ao zs.length cap] w fun e w' => e = .returned (.string (strOf (runsB zs))) ∧ Below w.heap.size w w' := by
  go_enter Try.func68, Try.ntmps68
  go_wp2_with fail
  go_loopw [3, 4] (fun sv i wr => ∃ (k f : Nat) (bs : List Nat), k ≤ zs.length ∧ sv = .string (strOf bs) ∧ i = .int .i64 k ∧ zs.length ≤ k + f ∧ f ≤ 100 ∧ bs.length + 11 * f ≤ 1100 ∧ bs ++ runsF f (zs.drop k) = runsB zs ∧ Below w.heap.size w wr) (fun _ i _ => zs.length - (intOf i).toNat)
  case atStart => exact ⟨0, zs.length, [], Nat.zero_le _, rfl, rfl, by omega, hz, by simp; omega, rfl, Below.refl _ _⟩
  case round =>
    obtain ⟨k, f, bs, hk, rfl, rfl, hkf, hf, hbl, hbs, hbel⟩ := hrel
    rename World => wo
    have HBS : Hid (bs ++ runsF f (zs.drop k) = runsB zs) := hbs
    have HB : Hid (Below w.heap.size w wo) := hbel
    have hszr : w.heap.size ≤ wo.heap.size := hbel.size
    have hSz : (strOf bs).size ≤ 1100 := by rw [Pk.strOf_size]; omega
    have hST : Hid (∃ S, S = strOf bs) := ⟨_, rfl⟩
    generalize hS : strOf bs = S at *
    have HS : Hid (strOf bs = S) := hS
    clear hbs hbel hS hST
    by_cases hlt : k < zs.length
    · obtain rfl := hs (by omega)
      have hcr : ∀ j, j < zs.length → wo.cell? ⟨b, off + j, none⟩ = some (.int .i64 (zs.getD j 0)) := fun j hj => (HB.out.cell (hb (by omega))).trans (hc j hj)
      have HC : Hid (∀ j, j < zs.length → wo.cell? ⟨b, off + j, none⟩ = some (.int .i64 (zs.getD j 0))) := hcr
      have HRS : Hid _ := runsF_step (f - 1) zs k hlt
      have hrp := runAt_pos zs k hlt
      have hrl := runAt_le zs k hlt
      have HIN : Hid (∀ n, n < runAt zs k → ∃ hn : k + n < zs.length, zs[k + n] = zs.getD k 0) := fun n hn => runAt_in zs k n hn
      have HOUT : Hid (∀ h : k + runAt zs k < zs.length, zs[k + runAt zs k] ≠ zs.getD k 0) := fun h => runAt_out zs k h
      have hck := hcr k hlt
      clear hcr
      generalize runAt zs k = R at *
      generalize hx : zs.getD k 0 = x at *
      have HX : Hid (zs.getD k 0 = x) := hx
      clear hx
      go_wp2_with fail
      go_loopw [5] (fun j wq => ∃ t : Nat, t ≤ R ∧ j = .int .i64 (t : Int) ∧ ∃ n, wq = wo.drewN n) (fun j _ => zs.length + 1 - (intOf j).toNat)
      case atStart => exact ⟨0, by omega, rfl, 0, rfl⟩
      case round =>
        obtain ⟨t, ht, rfl, n, hwq⟩ := hrel
        have HW : Hid (wr = wo.drewN n) := hwq
        have hck' : wr.cell? ⟨b, off + k, none⟩ = some (.int .i64 x) := by rw [hwq]; exact hck
        by_cases htR : t < R
        · obtain ⟨hn, hv⟩ := HIN.out t htR
          have hct : wr.cell? ⟨b, off + (k + t), none⟩ = some (.int .i64 x) := by
            rw [hwq]
            have := HC.out (k + t) hn
            rwa [getD_get hn, hv] at this
          have hg : decide ((k : Int) + (t : Int) < (zs.length : Int)) = true := by simp; omega
          clear hck hwq hv
          go_wp2_with fail
          go_quiet (fail)
          go_wp2
          go_roundw
          case rel => exact ⟨t + 1, by omega, by go_num, n + nq, by rw [HW.out]; exact World.drewN_drewN _ _ _⟩
          case measure => simp [intOf]; omega
        · have HMR : Hid (t = R) := by show t = R; omega
          have hwb : IntKind.u8.wrap x = x % 256 := by simp [IntKind.wrap, IntKind.bits, IntKind.signed]
          rw [byteOf_int] at hwb
          have hwt : IntKind.u64.wrap (t : Int) = (t : Int) := by rw [wrap_u64]; omega
          generalize hyb : byteOf x = yb at *
          have HYB : Hid (byteOf x = yb) := hyb
          clear hyb
          have hvl := vintF_length 10 R
          have hVz : (strOf (vint R)).size ≤ 10 := by rw [Pk.strOf_size]; unfold vint; omega
          have HV : Hid (∀ W : World, Calls Try.prog 87 #[.int .u64 (t : Int)] W fun e w' => e = .returned (.string (strOf (vint R))) ∧ Below W.heap.size W w') := fun W => by
            rw [HMR.out]; exact varint_any R W (by omega)
          generalize hVV : strOf (vint R) = V at *
          have HVV : Hid (strOf (vint R) = V) := hVV
          clear hVV hvl
          have hYz : (strOf [yb]).size = 1 := by rw [Pk.strOf_size]; rfl
          have hs1 : ¬ 9223372036854775807 < S.size + V.size := by omega
          have hs2 : ¬ 9223372036854775807 < S.size + V.size + (strOf [yb]).size := by omega
          have hcv : ∀ (W : World) (g : Nat), W.cell? ⟨g, 0, none⟩ = some (.int .u8 (yb : Int)) → (convert 44 9 (.slice (some ⟨g, 0, none⟩) 1 1)).run Try.prog W = .ok (.string (strOf [yb])) W := fun W g h => conv_one h
          have HBW : Hid (Below w.heap.size w wr) := by show Below _ _ _; rw [hwq]; exact below_drewN HB.out n
          have hbw : b < wr.heap.size := Nat.lt_of_lt_of_le (hb (by omega)) HBW.out.size
          have hkz : (k : Int) < (zs.length : Int) := by omega
          have HEND : Hid (∀ W : World, Below w.heap.size w W → ∃ (k1 f : Nat) (bs : List Nat), k1 ≤ zs.length ∧ Value.string (S ++ V ++ strOf [yb]) = .string (strOf bs) ∧ Value.int .i64 ((k : Int) + (t : Int)) = .int .i64 (k1 : Int) ∧ zs.length ≤ k1 + f ∧ f ≤ 100 ∧ bs.length + 11 * f ≤ 1100 ∧ bs ++ runsF f (zs.drop k1) = runsB zs ∧ Below w.heap.size w W) := fun W hW => by
            have h1 := HRS.out
            rw [show f - 1 + 1 = f by omega] at h1
            have h2 := HMR.out
            have h3 := vintF_length 10 R
            refine ⟨k + t, f - 1, bs ++ (vint R ++ [yb]), by omega, ?_, by simp, by omega, by omega, ?_, ?_, hW⟩
            · rw [← HS.out, ← HVV.out, strOf_append, strOf_append, ByteArray.append_assoc]
            · rw [List.length_append, List.length_append]; unfold vint; simp; omega
            · rw [← HBS.out, h1, h2]; simp [List.append_assoc]
          have htp : 0 < t := by have := HMR.out; omega
          by_cases htl : k + t < zs.length
          · have hct : ∃ y, wr.cell? ⟨b, off + (k + t), none⟩ = some (.int .i64 y) ∧ y ≠ x := by
              refine ⟨zs.getD (k + t) 0, by rw [hwq]; exact HC.out (k + t) htl, ?_⟩
              have e := HMR.out
              subst e
              rw [getD_get htl]
              exact HOUT.out htl
            obtain ⟨y, hct, hyx⟩ := hct
            have hg : decide ((k : Int) + (t : Int) < (zs.length : Int)) = true := by simp; omega
            have he : (y == x) = false := by simpa using hyx
            clear hck hwq htR hyx
            go_wp2_with fail
            go_quiet (fail)
            try clear hct
            go_wp2_with fail
            have hckz : (wr.drewN nq).cell? ⟨b, off + k, none⟩ = some (.int .i64 x) := hck'
            have hbz : b < (wr.drewN nq).heap.size := hbw
            have HBZ : Hid (Below w.heap.size w (wr.drewN nq)) := below_drewN HBW.out nq
            clear hck' hbw
            generalize wr.drewN nq = wz at *
            have hbz' : (⟨b, off + k, none⟩ : Addr).block < wz.heap.size := hbz
            go_region_with (go_at_call 87; refine (HV.out _).mono ?_; rintro e w1 ⟨rfl, hb1⟩; (try have hcc := after_new hb1); (first | have hk1 := old_two hbz' hckz hb1 | have hk1 := old_one hbz' hckz hb1))
            all_goals go_wp2
            all_goals go_roundw
            all_goals first
              | exact HEND.out _ (HBZ.out.trans ((below_one hb1).mono HBZ.out.size))
              | exact HEND.out _ (HBZ.out.trans ((below_two _ hb1).mono HBZ.out.size))
              | (simp [intOf]; omega)
          · have hg : decide ((k : Int) + (t : Int) < (zs.length : Int)) = false := by simp; omega
            clear hck hwq htR
            go_wp2_with fail
            go_quiet (fail)
            go_wp2_with fail
            have hckz : (wr.drewN nq).cell? ⟨b, off + k, none⟩ = some (.int .i64 x) := hck'
            have hbz : b < (wr.drewN nq).heap.size := hbw
            have HBZ : Hid (Below w.heap.size w (wr.drewN nq)) := below_drewN HBW.out nq
            clear hck' hbw
            generalize wr.drewN nq = wz at *
            have hbz' : (⟨b, off + k, none⟩ : Addr).block < wz.heap.size := hbz
            go_region_with (go_at_call 87; refine (HV.out _).mono ?_; rintro e w1 ⟨rfl, hb1⟩; (try have hcc := after_new hb1); (first | have hk1 := old_two hbz' hckz hb1 | have hk1 := old_one hbz' hckz hb1))
            all_goals go_wp2
            all_goals go_roundw
            all_goals first
              | exact HEND.out _ (HBZ.out.trans ((below_one hb1).mono HBZ.out.size))
              | exact HEND.out _ (HBZ.out.trans ((below_two _ hb1).mono HBZ.out.size))
              | (simp [intOf]; omega)
    · have hke : runsF f (zs.drop k) = [] := runsF_end f zs k hlt
      have HE : Hid (strOf (runsB zs) = S) := by show _ = _; rw [← HBS.out, hke, List.append_nil]; exact HS.out
      clear hke
      go_wp2
      go_ret
      exact ⟨by rw [HE.out]; rfl, HB.out⟩
end Go.Proofs.Ytjidbonhhpkljaa.Ec
