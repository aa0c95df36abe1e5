/- The contract of the code's Pack: the document's answer. -/
import Derived.Test.YtjidbonhhpkljaaPkPackR
set_option linter.unusedVariables false
namespace Go.Proofs.Ytjidbonhhpkljaa.Pk
open Go.RowKit Go.Proofs.Ytjidbonhhpkljaa.Pm

theorem wrap_pow (wn : Nat) (h : wn ≤ 16) : wrap64 ((2 : Int) ^ wn) = pw wn := by
  have h0 := pw_pos wn
  have h1 := pw_16 wn h
  have e : (2 : Int) ^ wn = pw wn := by unfold pw; push_cast; rfl
  rw [e]; unfold wrap64; omega

set_option maxRecDepth 100000 in
set_option maxHeartbeats 2000000 in
theorem cPack_any (zs : List Int) (wd : Int) (ao : Option Addr) (b off cap : Nat) (w : World) (hm : zs.length ≤ maxLen)
    (hs : 0 < zs.length → ao = some ⟨b, off, none⟩) (hb : 0 < zs.length → b < w.heap.size) (hc : ∀ j, j < zs.length → w.cell? ⟨b, off + j, none⟩ = some (.int .i64 (zs.getD j 0))) :
    Calls Try.prog 12 #[.slice ao zs.length cap, .int .i64 wd] w fun e w' => e = .returned (.tuple #[.string (packOf zs wd).1, .int .i64 (packOf zs wd).2]) ∧ Below w.heap.size w w' := by
  unfold maxLen at hm
  by_cases h1 : 100 < zs.length
  · rw [packOf_long h1]
    have H := checkPacking_any (zs.length : Int) wd
    rw [show packE (zs.length : Int) wd = 6 from by simp [packE]; omega] at H
    go_enter Try.func12, Try.ntmps12
    go_wp2_with (go_at_call 36; refine (H _).mono ?_; rintro e w' ⟨rfl, rfl⟩)
    all_goals go_ret2
    all_goals exact ⟨rfl, Below.refl _ _⟩
  by_cases h2 : wd < 0 ∨ 16 < wd
  · rw [packOf_wide h1 h2]
    have H := checkPacking_any (zs.length : Int) wd
    rw [show packE (zs.length : Int) wd = 2 from by simp [packE, h2]; omega] at H
    go_enter Try.func12, Try.ntmps12
    go_wp2_with (go_at_call 36; refine (H _).mono ?_; rintro e w' ⟨rfl, rfl⟩)
    all_goals go_ret2
    all_goals exact ⟨rfl, Below.refl _ _⟩
  have h3 : 0 ≤ wd := by omega
  have h4 : wd ≤ 16 := by omega
  clear h2
  obtain ⟨wn, rfl⟩ := Int.eq_ofNat_of_zero_le h3
  have H := checkPacking_any (zs.length : Int) (wn : Int)
  rw [show packE (zs.length : Int) (wn : Int) = 0 from by simp [packE]; omega] at H
  have hp0 := pw_pos wn
  have hp1 := pw_16 wn (by omega)
  have hpw := wrap_pow wn (by omega)
  go_enter Try.func12, Try.ntmps12
  go_wp2_with (go_at_call 36; refine (H _).mono ?_; rintro e w' ⟨rfl, rfl⟩)
  clear H
  go_loop [18] (fun i => ∃ k : Nat, k ≤ zs.length ∧ i = .int .i64 k ∧ (∀ j, j < k → (hj : j < zs.length) → 0 ≤ zs[j] ∧ zs[j] < pw wn)) (fun i => zs.length - (intOf i).toNat)
  case atStart => exact ⟨0, Nat.zero_le _, rfl, fun j hj => by omega⟩
  case round =>
    obtain ⟨k, hk, rfl, hall⟩ := hrel
    have HA : Hid (∀ j, j < k → (hj : j < zs.length) → 0 ≤ zs[j] ∧ zs[j] < pw wn) := hall
    clear hall
    by_cases hlt : k < zs.length
    · obtain rfl := hs (by omega)
      have hcx := hc k hlt
      rw [getD_get hlt] at hcx
      have HX : Hid ((zs[k] < 0 ∨ pw wn ≤ zs[k]) → packOf zs (wn : Int) = (ByteArray.empty, 1)) := fun h => packOf_bad h1 (by omega) (fitsW_bad hlt h)
      have HY : Hid (¬ (zs[k] < 0 ∨ pw wn ≤ zs[k]) → ∀ j, j < k + 1 → (hj : j < zs.length) → 0 ≤ zs[j] ∧ zs[j] < pw wn) := by
        intro h j hj hjl
        by_cases e : j = k
        · subst e; omega
        · exact HA.out j (by omega) hjl
      clear hc hs hb HA
      generalize zs[k] = z at *
      by_cases hz : z < 0
      · have HX3 : Hid (packOf zs (wn : Int) = (ByteArray.empty, 1)) := HX.out (.inl hz)
        clear HX HY
        go_wp2
        go_ret2
        rw [HX3.out]
        exact ⟨rfl, Below.refl _ _⟩
      · by_cases hz2 : pw wn ≤ z
        · have HX3 : Hid (packOf zs (wn : Int) = (ByteArray.empty, 1)) := HX.out (.inr hz2)
          clear HX HY
          go_wp2
          go_ret2
          rw [HX3.out]
          exact ⟨rfl, Below.refl _ _⟩
        · have HY2 : Hid (∀ j, j < k + 1 → (hj : j < zs.length) → 0 ≤ zs[j] ∧ zs[j] < pw wn) := HY.out (by omega)
          clear HX HY
          go_wp2
          go_round
          case rel => exact ⟨k + 1, by omega, by go_num, HY2.out⟩
          case measure => simp [intOf]; omega
    · have hkl : k = zs.length := by omega
      subst hkl
      have hf : fitsW wn zs = true := fitsW_all fun j hj => HA.out j hj hj
      have HP : Hid (packOf zs (wn : Int) = (strOf (packBytes wn (zs.map Int.toNat)), 0)) := packOf_ok h1 (by omega) hf
      clear HA
      have HF : Hid (fitsW wn zs = true) := hf
      clear hf
      go_wp2_with (go_at_call 37; refine (appendPacked_ints zs wn ao b off cap _ (by omega) h1 HF.out hs hb hc).mono ?_; rintro e w' ⟨v, rfl, hown, hbel⟩; have hcv := run_string_own hown rfl)
      go_ret2
      rw [HP.out]
      exact ⟨rfl, hbel⟩
end Go.Proofs.Ytjidbonhhpkljaa.Pk
