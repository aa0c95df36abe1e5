/- The contracts of the small functions beneath Pack: power gives 2^n; checkCount and checkPacking give the document's errors in their order. -/
import Derived.Test.YtjidbonhhpkljaaRows
import Derived.WalkKit
import Derived.ProofKit
set_option linter.unusedVariables false
namespace Go.Proofs.Ytjidbonhhpkljaa.Pk
open Go.RowKit

theorem ret_int {k : IntKind} {a b : Int} (h : a = b) : Ending.returned (.int k a) = .returned (.int k b) := by rw [h]

/-- 2 to the n, as a number. -/
def pw (n : Nat) : Int := ((2 ^ n : Nat) : Int)
theorem pw_pos (n : Nat) : 0 < pw n := by
  have : 0 < 2 ^ n := Nat.pow_pos (by omega)
  unfold pw; omega
theorem pw_le (n m : Nat) (h : n ≤ m) : pw n ≤ pw m := by
  have := Nat.pow_le_pow_right (show 0 < 2 by omega) h
  unfold pw; omega
theorem pw_succ (n : Nat) : pw (n + 1) = 2 * pw n := by
  unfold pw; rw [Nat.pow_succ]; omega
theorem pw_16 (n : Nat) (h : n ≤ 16) : pw n ≤ 65536 := pw_le n 16 h

set_option maxHeartbeats 400000 in
theorem power_nat (n : Nat) (hn : n ≤ 16) (w : World) :
    Calls Try.prog 34 #[.int .i64 n] w fun e w' => e = .returned (.int .i64 (pw n)) ∧ w' = w := by
  go_enter Try.func34, Try.ntmps34
  go_wp2
  go_loop [3, 4] (fun p i => ∃ k : Nat, k ≤ n ∧ i = .int .i64 k ∧ p = .int .i64 (pw k)) (fun _ i => n - (intOf i).toNat)
  case atStart => exact ⟨0, Nat.zero_le _, rfl, rfl⟩
  case round =>
    obtain ⟨k, hk, rfl, rfl⟩ := hrel
    have hb1 := pw_pos k
    have hb2 := pw_16 k (by omega)
    by_cases hlt : k < n
    · go_wp2
      go_round
      case rel => exact ⟨k + 1, by omega, by go_num, by rw [pw_succ]⟩
      case measure => simp [intOf]; omega
    · have hkn : k = n := by omega
      subst hkn
      go_wp2
      go_ret
      exact ⟨rfl, rfl⟩

theorem power_any (a : Int) (h0 : 0 ≤ a) (h1 : a ≤ 16) (w : World) :
    Calls Try.prog 34 #[.int .i64 a] w fun e w' => e = .returned (.int .i64 (pw a.toNat)) ∧ w' = w := by
  obtain ⟨n, rfl⟩ := Int.eq_ofNat_of_zero_le h0
  rw [Int.toNat_natCast]
  exact power_nat n (by omega) w

/-- codec's answer to a count: 6 (too long) or 0. -/
def cntE (n : Int) : Int := if n < 0 ∨ 100 < n then 6 else 0
def packE (n wd : Int) : Int := if n < 0 ∨ 100 < n then 6 else if wd < 0 ∨ 16 < wd then 2 else 0

theorem checkCount_any (n : Int) (w : World) :
    Calls Try.prog 66 #[.int .i64 n] w fun e w' => e = .returned (.int .i64 (cntE n)) ∧ w' = w := by
  by_cases h1 : n < 0
  · go_enter Try.func66, Try.ntmps66
    go_wp2
    all_goals go_ret
    all_goals exact ⟨ret_int (by simp [cntE, h1]), rfl⟩
  · by_cases h2 : 100 < n
    all_goals
      go_enter Try.func66, Try.ntmps66
      go_wp2
      all_goals go_ret
      all_goals exact ⟨ret_int (by simp [cntE, h1, h2]), rfl⟩

theorem checkPacking_any (n wd : Int) (w : World) :
    Calls Try.prog 36 #[.int .i64 n, .int .i64 wd] w fun e w' => e = .returned (.int .i64 (packE n wd)) ∧ w' = w := by
  by_cases h1 : n < 0 ∨ 100 < n
  · have hc : cntE n = 6 := by simp [cntE, h1]
    have hp : packE n wd = 6 := by simp [packE, h1]
    have H := checkCount_any n w
    rw [hc] at H
    rw [hp]
    clear hc hp h1
    go_enter Try.func36, Try.ntmps36
    go_wp2_with (go_at_call 66; refine H.mono ?_; rintro e w' ⟨rfl, rfl⟩)
    all_goals go_ret
    all_goals exact ⟨rfl, rfl⟩
  · have hc : cntE n = 0 := by simp [cntE, h1]
    have H := checkCount_any n w
    rw [hc] at H
    by_cases h2 : wd < 0
    · have hp : packE n wd = 2 := by simp [packE, h1, h2]
      rw [hp]
      clear hc hp h1
      go_enter Try.func36, Try.ntmps36
      go_wp2_with (go_at_call 66; refine H.mono ?_; rintro e w' ⟨rfl, rfl⟩)
      all_goals go_ret
      all_goals exact ⟨rfl, rfl⟩
    · by_cases h3 : 16 < wd
      · have hp : packE n wd = 2 := by simp [packE, h1, h3]
        rw [hp]
        clear hc hp h1
        go_enter Try.func36, Try.ntmps36
        go_wp2_with (go_at_call 66; refine H.mono ?_; rintro e w' ⟨rfl, rfl⟩)
        all_goals go_ret
        all_goals exact ⟨rfl, rfl⟩
      · have hp : packE n wd = 0 := by simp [packE, h1, h2, h3]
        rw [hp]
        clear hc hp h1
        go_enter Try.func36, Try.ntmps36
        go_wp2_with (go_at_call 66; refine H.mono ?_; rintro e w' ⟨rfl, rfl⟩)
        all_goals go_ret
        all_goals exact ⟨rfl, rfl⟩
end Go.Proofs.Ytjidbonhhpkljaa.Pk
