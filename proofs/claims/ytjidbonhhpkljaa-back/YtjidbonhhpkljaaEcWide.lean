/- How many bits a place among so many wants: on both sides. -/
import Derived.Test.YtjidbonhhpkljaaEcPlain
import Derived.Lib.Strings
import Derived.Lib.Slices
import Derived.Lib.Small
import Derived.Lib.Walk
import Derived.Lib.BitFns
set_option linter.unusedVariables false
namespace Go.Proofs.Ytjidbonhhpkljaa.Ec
open Go.RowKit Go.Proofs.Ytjidbonhhpkljaa.Pk Go.Proofs.Ytjidbonhhpkljaa.Pm

def wid (n : Nat) : Nat := if n ≤ 1 then 0 else if n ≤ 2 then 1 else if n ≤ 4 then 2 else if n ≤ 8 then 3 else if n ≤ 16 then 4 else if n ≤ 32 then 5 else if n ≤ 64 then 6 else 7

theorem wid_le (n : Nat) : wid n ≤ 7 := by unfold wid; repeat' split
                                           all_goals omega
theorem wid_pow : ∀ n, n < 101 → ∀ t, t < 8 → (2 ^ t < n ↔ t < wid n) := by decide +kernel
theorem wid_fits (n : Nat) (h : n ≤ 100) (j : Nat) (hj : j < n) : j < 2 ^ wid n := by
  have h1 := wid_le n
  have h2 := (wid_pow n (by omega) (wid n) (by omega))
  omega

theorem wid_bits : ∀ x, x < 128 → Lib.bitLen x = wid (x + 1) := by decide +kernel

set_option maxRecDepth 100000 in
set_option maxHeartbeats 1000000 in
theorem wide_any (n : Nat) (hn : n ≤ 100) (w : World) : Calls Try.prog 104 #[.int .i64 n] w fun e w' => e = .returned (.int .i64 (wid n)) ∧ w' = w := by
  have hw7 := wid_le n
  have HP : Hid (∀ t, t ≤ 7 → (pw t < (n : Int) ↔ t < wid n)) := fun t ht => by
    have := wid_pow n (by omega) t (by omega)
    unfold pw; omega
  generalize wid n = W at *
  go_enter Try.func104, Try.ntmps104
  go_wp2_with fail
  go_loopw [3] (fun i wr => ∃ t : Nat, t ≤ W ∧ i = .int .i64 t ∧ wr = w) (fun i _ => 8 - (intOf i).toNat)
  case atStart => exact ⟨0, Nat.zero_le _, rfl, rfl⟩
  case round =>
    obtain ⟨t, ht, rfl, rfl⟩ := hrel
    have HQ : Hid (∀ w, Calls Try.prog 34 #[.int .i64 t] w fun e w' => e = .returned (.int .i64 (pw t)) ∧ w' = w) := fun w => power_nat t (by omega) w
    have HP1 := HP.out t (by omega)
    generalize pw t = q at *
    by_cases hlt : t < W
    · have hp := HP1.2 hlt
      clear HP1
      go_wp2_with (go_at_call 34; refine (HQ.out _).mono ?_; rintro e w1 ⟨rfl, rfl⟩)
      go_roundw
      case rel => exact ⟨t + 1, by omega, by go_num, trivial⟩
      case measure => simp [intOf]; omega
    · have hp : ¬ q < (n : Int) := fun h => hlt (HP1.1 h)
      have HE : Hid (t = W) := by show t = W; omega
      clear HP1 HP
      go_wp2_with (go_at_call 34; refine (HQ.out _).mono ?_; rintro e w1 ⟨rfl, rfl⟩)
      go_ret
      exact ⟨by rw [← HE.out]; rfl, rfl⟩

theorem tab_bits : ∀ y : Nat, y < 128 → ∀ h : y < Lib.len8tab.size, Lib.len8tab[y].toNat = Lib.bitLen y := by decide +kernel

set_option maxRecDepth 100000 in
set_option maxHeartbeats 4000000 in
theorem len64_int (x : Int) (w : World) (h0 : 0 ≤ x) (h1 : x ≤ 127) : Calls Try.prog 150 #[.int .u64 x] w fun e w' => e = .returned (.int .i64 (Lib.bitLen x.toNat)) ∧ w' = w := by
  go_enter Try.func150, Try.ntmps150
  go_wp2
  all_goals (go_ret; refine ⟨congrArg Ending.returned (congrArg (Value.int IntKind.i64) ?_), rfl⟩)
  all_goals
    have l := tab_bits x.toNat (by omega) (by omega)
    have l2 := Lib.bitLen_le8' x h0 (by omega)
    rw [l]
    unfold wrap64
    omega

theorem len_int (x : Int) (w : World) (h0 : 0 ≤ x) (h1 : x ≤ 127) : Calls Try.prog 138 #[.int .u64 x] w fun e w' => e = .returned (.int .i64 (Lib.bitLen x.toNat)) ∧ w' = w := by
  go_enter Try.func138, Try.ntmps138
  go_wp2_with (go_at_call 150; refine (len64_int x _ h0 h1).mono ?_; rintro e w' ⟨rfl, rfl⟩)
  go_ret
  exact ⟨rfl, rfl⟩

theorem widthOf_any (n : Nat) (hn : n ≤ 100) (w : World) : Calls Try.prog 107 #[.int .i64 n] w fun e w' => e = .returned (.int .i64 (wid n)) ∧ w' = w := by
  by_cases h : n < 2
  · rw [show wid n = 0 from by unfold wid; rw [if_pos (by omega)]]
    go_enter Try.func107, Try.ntmps107
    go_wp2
    go_ret
    exact ⟨rfl, rfl⟩
  · have HL : Hid (∀ w, Calls Try.prog 138 #[.int .u64 ((n : Int) - 1)] w fun e w' => e = .returned (.int .i64 (wid n)) ∧ w' = w) := fun w => by
      have h1 := len_int ((n : Int) - 1) w (by omega) (by omega)
      rw [wid_bits _ (by omega), show ((n : Int) - 1).toNat + 1 = n by omega] at h1
      exact h1
    go_enter Try.func107, Try.ntmps107
    go_wp2_with (go_at_call 138; refine (HL.out _).mono ?_; rintro e w' ⟨rfl, rfl⟩)
    go_ret
    exact ⟨rfl, rfl⟩
end Go.Proofs.Ytjidbonhhpkljaa.Ec
