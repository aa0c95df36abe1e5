/- Plain mathematics of columns as bytes: varints, zigzag, runs, dictionaries, as functions on lists of numbers. -/
import Derived.Test.YtjidbonhhpkljaaPkSpec
set_option linter.unusedVariables false
namespace Go.Proofs.Ytjidbonhhpkljaa.Ec
open Go.Proofs.Ytjidbonhhpkljaa.Pk Go.Proofs.Ytjidbonhhpkljaa.Pm

/-- A varint, of at most so many bytes. -/
def vintF : Nat → Nat → List Nat
  | 0, n => []
  | f + 1, n => if n < 128 then [n] else (n % 128 + 128) :: vintF f (n / 128)

def vint (n : Nat) : List Nat := vintF 10 n

theorem vintF_small (f n : Nat) (h : n < 128) : vintF (f + 1) n = [n] := by simp [vintF, h]
theorem vintF_big (f n : Nat) (h : ¬ n < 128) : vintF (f + 1) n = (n % 128 + 128) :: vintF f (n / 128) := by simp [vintF, h]

theorem vintF_lt (f n : Nat) : ∀ x ∈ vintF f n, x < 256 := by
  induction f generalizing n with
  | zero => simp [vintF]
  | succ f ih =>
    intro x hx
    by_cases h : n < 128
    · rw [vintF_small f n h] at hx; simp at hx; omega
    · rw [vintF_big f n h] at hx
      rcases List.mem_cons.1 hx with h1 | h1
      · omega
      · exact ih _ x h1

theorem vintF_length (f n : Nat) : (vintF f n).length ≤ f := by
  induction f generalizing n with
  | zero => simp [vintF]
  | succ f ih =>
    by_cases h : n < 128
    · rw [vintF_small f n h]; simp
    · rw [vintF_big f n h]; have := ih (n / 128); simp; omega

theorem pow128 (f : Nat) (n : Nat) (h : n < 128 ^ (f + 1)) : n / 128 < 128 ^ f := by
  rw [Nat.pow_succ] at h
  exact Nat.div_lt_of_lt_mul (by rw [Nat.mul_comm]; exact h)

theorem lt_128_10 (n : Nat) (h : n < 18446744073709551616) : n < 128 ^ 10 := by
  have : (128 : Nat) ^ 10 = 1180591620717411303424 := by decide
  omega

theorem strOf_append (a b : List Nat) : strOf (a ++ b) = strOf a ++ strOf b := by
  unfold strOf strOfNums
  apply ByteArray.ext
  simp

theorem strOf_one (x : Nat) : strOf [x] = ⟨#[UInt8.ofNat x]⟩ := by
  unfold strOf strOfNums
  simp

/-- Zigzag. -/
def zz (n : Int) : Nat := if n < 0 then (-2 * n - 1).toNat else (2 * n).toNat

theorem zz_lt (n : Int) (h0 : -9223372036854775808 ≤ n) (h1 : n ≤ 9223372036854775807) : zz n < 18446744073709551616 := by
  unfold zz; split <;> omega

theorem or128 : ∀ x, x < 256 → x ||| 128 = x % 128 + 128 := by decide +kernel
end Go.Proofs.Ytjidbonhhpkljaa.Ec
