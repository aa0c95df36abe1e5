/- The contract of the document's Pack. -/
import Derived.Test.YtjidbonhhpkljaaPkSpec
import Derived.Test.YtjidbonhhpkljaaPkInts
set_option linter.unusedVariables false
namespace Go.Proofs.Ytjidbonhhpkljaa.Pk
open Go.RowKit Go.Proofs.Ytjidbonhhpkljaa.Pm

set_option maxRecDepth 100000 in
set_option maxHeartbeats 2000000 in
theorem rPack_any (zs : List Int) (wd : Int) (ao : Option Addr) (b off cap : Nat) (w : World) (hm : zs.length ≤ maxLen)
    (hs : 0 < zs.length → ao = some ⟨b, off, none⟩) (hb : 0 < zs.length → b < w.heap.size) (hc : ∀ j, j < zs.length → w.cell? ⟨b, off + j, none⟩ = some (.int .i64 (zs.getD j 0))) :
    Calls Try.prog 10 #[.slice ao zs.length cap, .int .i64 wd] w fun e w' => e = .returned (.tuple #[.string (packOf zs wd).1, .int .i64 (packOf zs wd).2]) ∧ Below w.heap.size w w' := by
  unfold maxLen at hm
  by_cases h1 : 100 < zs.length
  · rw [packOf_long h1]
    go_enter Try.func10, Try.ntmps10
    go_wp2
    all_goals go_ret2
    all_goals exact ⟨rfl, Below.refl _ _⟩
  by_cases h2 : wd < 0 ∨ 16 < wd
  · rw [packOf_wide h1 h2]
    rcases h2 with h2 | h2
    all_goals
      go_enter Try.func10, Try.ntmps10
      go_wp2
      all_goals go_ret2
      all_goals exact ⟨rfl, Below.refl _ _⟩
  have h3 : 0 ≤ wd := by omega
  have h4 : wd ≤ 16 := by omega
  clear h2
  obtain ⟨wn, rfl⟩ := Int.eq_ofNat_of_zero_le h3
  have hwn : wn ≤ 16 := by omega
  have hp0 := pw_pos wn
  have hp1 := pw_16 wn (by omega)
  go_enter Try.func10, Try.ntmps10
  go_wp2_with fail
  go_loopw [6] (fun i wr => ∃ k : Nat, k ≤ zs.length ∧ i = .int .i64 k ∧ (∀ j, j < k → (hj : j < zs.length) → 0 ≤ zs[j] ∧ zs[j] < pw wn) ∧ ∃ n, wr = w.drewN n) (fun i _ => zs.length - (intOf i).toNat)
  case atStart => exact ⟨0, Nat.zero_le _, rfl, fun j hj => by omega, 0, rfl⟩
  case round =>
    obtain ⟨k, hk, rfl, hall, n, hwr⟩ := hrel
    have HW : Hid (wr = w.drewN n) := hwr
    clear hwr
    have HA : Hid (∀ j, j < k → (hj : j < zs.length) → 0 ≤ zs[j] ∧ zs[j] < pw wn) := hall
    clear hall
    by_cases hlt : k < zs.length
    · obtain rfl := hs (by omega)
      have hcx := hc k hlt
      rw [getD_get hlt, show w.cell? ⟨b, off + k, none⟩ = wr.cell? ⟨b, off + k, none⟩ from by rw [HW.out]; rfl] at hcx
      have HX : Hid ((zs[k] < 0 ∨ pw wn ≤ zs[k]) → packOf zs (wn : Int) = (ByteArray.empty, 1)) := fun h => packOf_bad h1 (by omega) (fitsW_bad hlt h)
      have HY : Hid (¬ (zs[k] < 0 ∨ pw wn ≤ zs[k]) → ∀ j, j < k + 1 → (hj : j < zs.length) → 0 ≤ zs[j] ∧ zs[j] < pw wn) := by
        intro h j hj hjl
        by_cases e : j = k
        · subst e; omega
        · exact HA.out j (by omega) hjl
      clear hc hs hb HA
      generalize zs[k] = z at *
      by_cases hz : z < 0
      · have hzd : decide (z < 0) = true := by simpa using hz
        have HX2 := HX.out (.inl hz)
        have HX3 : Hid (packOf zs (wn : Int) = (ByteArray.empty, 1)) := HX2
        clear HX HX2 HY
        go_wp2_with fail
        go_quiet (fail)
        go_wp2
        go_ret2
        rw [HX3.out, HW.out]
        exact ⟨rfl, below_drewN (below_drewN (Below.refl _ _) _) _⟩
      · have hzd : decide (z < 0) = false := by simpa using hz
        by_cases hz2 : pw wn ≤ z
        · have HX3 : Hid (packOf zs (wn : Int) = (ByteArray.empty, 1)) := HX.out (.inr hz2)
          clear HX HY
          go_wp2_with fail
          go_quiet ((go_at_call 34; exact Calls.quiet_of_same (power_nat wn hwn _)))
          go_wp2
          go_ret2
          rw [HX3.out]
          rw [HW.out]
          exact ⟨rfl, below_drewN (below_drewN (Below.refl _ _) _) _⟩
        · have HY2 : Hid (∀ j, j < k + 1 → (hj : j < zs.length) → 0 ≤ zs[j] ∧ zs[j] < pw wn) := HY.out (by omega)
          clear HX HY
          go_wp2_with fail
          go_quiet ((go_at_call 34; exact Calls.quiet_of_same (power_nat wn hwn _)))
          go_wp2
          go_roundw
          case rel => exact ⟨k + 1, by omega, by go_num, HY2.out, n + nq, by rw [HW.out]; exact World.drewN_drewN _ _ _⟩
          case measure => simp [intOf]; omega
    · have hkl : k = zs.length := by omega
      subst hkl
      have hf : fitsW wn zs = true := fitsW_all fun j hj => HA.out j hj hj
      have HP : Hid (packOf zs (wn : Int) = (strOf (packBytes wn (zs.map Int.toNat)), 0)) := packOf_ok h1 (by omega) hf
      clear HA
      have HF : Hid (fitsW wn zs = true) := hf
      clear hf
      go_wp2_with (go_at_call 35; refine (bits_ints zs wn ao b off cap _ (by omega) h1 HF.out hs (by rw [HW.out]; exact hb) (by rw [HW.out]; exact hc)).mono ?_; rintro e w' ⟨rfl, hbel⟩)
      go_ret2
      rw [HP.out]
      rw [HW.out] at hbel
      exact ⟨rfl, (below_drewN (Below.refl _ _) n).trans hbel⟩
end Go.Proofs.Ytjidbonhhpkljaa.Pk
