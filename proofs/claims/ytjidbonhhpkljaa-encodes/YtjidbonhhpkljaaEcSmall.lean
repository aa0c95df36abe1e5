/- The contracts of zigzag, of numbers, and of the tests on kinds, encodings and values, on both sides. -/
import Derived.Test.YtjidbonhhpkljaaEcVint
import Derived.Test.YtjidbonhhpkljaaPkA
set_option linter.unusedVariables false
namespace Go.Proofs.Ytjidbonhhpkljaa.Ec
open Go.RowKit Go.Proofs.Ytjidbonhhpkljaa.Pk Go.Proofs.Ytjidbonhhpkljaa.Pm

theorem wrap_u64 (n : Int) : IntKind.u64.wrap n = n % 18446744073709551616 := by simp [IntKind.wrap, IntKind.bits, IntKind.signed]

theorem xor_zero (x : Nat) (hx : x < 18446744073709551616) : bits .xor .u64 (x : Int) 0 = (x : Int) := by
  show IntKind.u64.wrap (((BitVec.ofInt 64 (x : Int)) ^^^ (BitVec.ofInt 64 0)).toNat : Int) = _
  rw [BitVec.ofInt_natCast, show BitVec.ofInt 64 0 = 0#64 from rfl, BitVec.xor_zero, BitVec.toNat_ofNat, wrap_u64]
  omega

theorem xor_ones (x : Nat) (hx : x < 18446744073709551616) : bits .xor .u64 (x : Int) 18446744073709551615 = ((18446744073709551615 - x : Nat) : Int) := by
  show IntKind.u64.wrap (((BitVec.ofInt 64 (x : Int)) ^^^ (BitVec.ofInt 64 18446744073709551615)).toNat : Int) = _
  rw [BitVec.ofInt_natCast, show BitVec.ofInt 64 18446744073709551615 = BitVec.allOnes 64 from by decide +kernel, BitVec.xor_allOnes, BitVec.toNat_not, BitVec.toNat_ofNat, wrap_u64]
  omega

theorem zig_bits (n : Int) (h0 : -9223372036854775808 ≤ n) (h1 : n ≤ 9223372036854775807) :
    bits .xor .u64 (IntKind.u64.wrap (wrap64 (n * 2))) (IntKind.u64.wrap (n / 9223372036854775808)) = (zz n : Int) := by
  by_cases h : n < 0
  · have e1 : IntKind.u64.wrap (n / 9223372036854775808) = 18446744073709551615 := by rw [wrap_u64]; omega
    obtain ⟨x, hx⟩ : ∃ x : Nat, IntKind.u64.wrap (wrap64 (n * 2)) = (x : Int) := ⟨(IntKind.u64.wrap (wrap64 (n * 2))).toNat, by rw [wrap_u64]; omega⟩
    rw [hx, e1]
    rw [wrap_u64] at hx
    unfold wrap64 at hx
    rw [xor_ones x (by omega)]
    unfold zz
    rw [if_pos h]
    omega
  · have e1 : IntKind.u64.wrap (n / 9223372036854775808) = 0 := by rw [wrap_u64]; omega
    obtain ⟨x, hx⟩ : ∃ x : Nat, IntKind.u64.wrap (wrap64 (n * 2)) = (x : Int) := ⟨(IntKind.u64.wrap (wrap64 (n * 2))).toNat, by rw [wrap_u64]; omega⟩
    rw [hx, e1]
    rw [wrap_u64] at hx
    unfold wrap64 at hx
    rw [xor_zero x (by omega)]
    unfold zz
    rw [if_neg h]
    omega

def isKindB (k : Int) : Bool := decide (1 ≤ k) && decide (k ≤ 3)
def hasEncB (k e : Int) : Bool := ((e == 0 || e == 2) && isKindB k) || (e == 1 && k == 1) || (e == 3 && k == 2)

theorem isKind_any (k : Int) (w : World) : Calls Try.prog 71 #[.int .i64 k] w fun e w' => e = .returned (.bool (isKindB k)) ∧ w' = w := by
  by_cases h1 : 1 ≤ k <;> by_cases h2 : k ≤ 3
  all_goals
    go_enter Try.func71, Try.ntmps71
    go_wp2
    all_goals go_ret
    all_goals exact ⟨by simp [isKindB, h1, h2], rfl⟩

theorem cases4 (e : Int) : e = 0 ∨ e = 1 ∨ e = 2 ∨ e = 3 ∨ ((e == 0) = false ∧ (e == 1) = false ∧ (e == 2) = false ∧ (e == 3) = false) := by
  by_cases h0 : e = 0
  · exact .inl h0
  by_cases h1 : e = 1
  · exact .inr (.inl h1)
  by_cases h2 : e = 2
  · exact .inr (.inr (.inl h2))
  by_cases h3 : e = 3
  · exact .inr (.inr (.inr (.inl h3)))
  exact .inr (.inr (.inr (.inr ⟨by simpa using h0, by simpa using h1, by simpa using h2, by simpa using h3⟩)))

theorem hasEncoding_any (k e : Int) (w : World) : Calls Try.prog 70 #[.int .i64 k, .int .i64 e] w fun r w' => r = .returned (.bool (hasEncB k e)) ∧ w' = w := by
  have hx : ∀ b : Bool, (b || false) = b := by simp
  rcases cases4 e with rfl | rfl | rfl | rfl | ⟨h0, h1, h2, h3⟩
  · rw [show hasEncB k 0 = isKindB k from by simp [hasEncB]]
    go_enter Try.func70, Try.ntmps70
    go_wp2_with (go_at_call 71; refine (isKind_any k _).mono ?_; rintro e w' ⟨rfl, rfl⟩)
    go_ret
    exact ⟨rfl, rfl⟩
  · rw [show hasEncB k 1 = (k == 1) from by simp [hasEncB]]
    go_enter Try.func70, Try.ntmps70
    go_wp2
    all_goals go_ret
    all_goals exact ⟨rfl, rfl⟩
  · rw [show hasEncB k 2 = isKindB k from by simp [hasEncB]]
    go_enter Try.func70, Try.ntmps70
    go_wp2_with (go_at_call 71; refine (isKind_any k _).mono ?_; rintro e w' ⟨rfl, rfl⟩)
    go_ret
    exact ⟨rfl, rfl⟩
  · rw [show hasEncB k 3 = (k == 2) from by simp [hasEncB]]
    go_enter Try.func70, Try.ntmps70
    go_wp2
    all_goals go_ret
    all_goals exact ⟨rfl, rfl⟩
  · rw [show hasEncB k e = false from by simp [hasEncB, h0, h1, h2, h3]]
    go_enter Try.func70, Try.ntmps70
    go_wp2
    all_goals go_ret
    all_goals exact ⟨rfl, rfl⟩

theorem not_kind {k e : Int} (k1 : (k == 1) = false) (k2 : (k == 2) = false) (k3 : (k == 3) = false) : hasEncB k e = false := by
  have h1 : isKindB k = false := by
    simp at k1 k2 k3
    unfold isKindB
    by_cases h : 1 ≤ k
    · have : ¬ k ≤ 3 := by omega
      simp [this]
    · simp [h]
  simp [hasEncB, h1, k1, k2]
theorem not_enc {k e : Int} (h0 : (e == 0) = false) (h1 : (e == 1) = false) (h2 : (e == 2) = false) (h3 : (e == 3) = false) : hasEncB k e = false := by simp [hasEncB, h0, h1, h2, h3]
theorem fits_any (k e : Int) (w : World) : Calls Try.prog 40 #[.int .i64 k, .int .i64 e] w fun r w' => r = .returned (.bool (hasEncB k e)) ∧ w' = w := by
  rcases cases4 e with rfl | rfl | rfl | rfl | ⟨h0, h1, h2, h3⟩
  · rcases cases4 k with rfl | rfl | rfl | rfl | ⟨k0, k1, k2, k3⟩
    case inr.inr.inr.inr => rw [not_kind k1 k2 k3]; go_enter Try.func40, Try.ntmps40; go_wp2; go_ret; exact ⟨rfl, rfl⟩
    all_goals (go_enter Try.func40, Try.ntmps40; go_wp2; go_ret; exact ⟨rfl, rfl⟩)
  · rcases cases4 k with rfl | rfl | rfl | rfl | ⟨k0, k1, k2, k3⟩
    case inr.inr.inr.inr => rw [not_kind k1 k2 k3]; go_enter Try.func40, Try.ntmps40; go_wp2; go_ret; exact ⟨rfl, rfl⟩
    all_goals (go_enter Try.func40, Try.ntmps40; go_wp2; go_ret; exact ⟨rfl, rfl⟩)
  · rcases cases4 k with rfl | rfl | rfl | rfl | ⟨k0, k1, k2, k3⟩
    case inr.inr.inr.inr => rw [not_kind k1 k2 k3]; go_enter Try.func40, Try.ntmps40; go_wp2; go_ret; exact ⟨rfl, rfl⟩
    all_goals (go_enter Try.func40, Try.ntmps40; go_wp2; go_ret; exact ⟨rfl, rfl⟩)
  · rcases cases4 k with rfl | rfl | rfl | rfl | ⟨k0, k1, k2, k3⟩
    case inr.inr.inr.inr => rw [not_kind k1 k2 k3]; go_enter Try.func40, Try.ntmps40; go_wp2; go_ret; exact ⟨rfl, rfl⟩
    all_goals (go_enter Try.func40, Try.ntmps40; go_wp2; go_ret; exact ⟨rfl, rfl⟩)
  · rw [not_enc h0 h1 h2 h3]
    rcases cases4 k with rfl | rfl | rfl | rfl | ⟨k0, k1, k2, k3⟩
    all_goals (go_enter Try.func40, Try.ntmps40; go_wp2; go_ret; exact ⟨rfl, rfl⟩)

def colE (n k e : Int) : Int := if n < 0 ∨ 100 < n then 6 else if hasEncB k e then 0 else 2

theorem checkColumn_any (n k e : Int) (w : World) : Calls Try.prog 43 #[.int .i64 n, .int .i64 k, .int .i64 e] w fun r w' => r = .returned (.int .i64 (colE n k e)) ∧ w' = w := by
  by_cases h1 : n < 0 ∨ 100 < n
  · have H := checkCount_any n w
    rw [show cntE n = 6 from by simp [cntE, h1]] at H
    rw [show colE n k e = 6 from by simp [colE, h1]]
    clear h1
    go_enter Try.func43, Try.ntmps43
    go_wp2_with (go_at_call 66; refine H.mono ?_; rintro e w' ⟨rfl, rfl⟩)
    all_goals go_ret
    all_goals exact ⟨rfl, rfl⟩
  · have H := checkCount_any n w
    rw [show cntE n = 0 from by simp [cntE, h1]] at H
    have H2 := hasEncoding_any k e
    by_cases h2 : hasEncB k e = true
    · rw [show colE n k e = 0 from by simp [colE, h1, h2]]
      rw [h2] at H2
      clear h1 h2
      go_enter Try.func43, Try.ntmps43
      go_wp2_with (first | (go_at_call 66; refine H.mono ?_; rintro e w' ⟨rfl, rfl⟩) | (go_at_call 70; refine (H2 _).mono ?_; rintro e w' ⟨rfl, rfl⟩))
      all_goals go_ret
      all_goals exact ⟨rfl, rfl⟩
    · have h3 : hasEncB k e = false := by simpa using h2
      rw [show colE n k e = 2 from by simp [colE, h1, h3]]
      rw [h3] at H2
      clear h1 h2 h3
      go_enter Try.func43, Try.ntmps43
      go_wp2_with (first | (go_at_call 66; refine H.mono ?_; rintro e w' ⟨rfl, rfl⟩) | (go_at_call 70; refine (H2 _).mono ?_; rintro e w' ⟨rfl, rfl⟩))
      all_goals go_ret
      all_goals exact ⟨rfl, rfl⟩

set_option maxRecDepth 100000 in
set_option maxHeartbeats 1000000 in
theorem appendNumber_any (v : Value) (pre : List Nat) (n base : Nat) (w : World) (hn : n < 2147483648) (hl : pre.length ≤ 4000000) (hb : base ≤ w.heap.size)
    (hown : w.ownsRow base 5 1 v pre.length (bcells pre)) :
    Calls Try.prog 105 #[v, .int .i64 n] w fun e w' => ∃ v', e = .returned v' ∧ w'.ownsRow base 5 1 v' (pre ++ vint n).length (bcells (pre ++ vint n)) ∧ Grew w w' v v' := by
  have HA : Hid (Calls Try.prog 136 #[v, .int .u64 n] w fun e w' => ∃ v', e = .returned v' ∧ w'.ownsRow base 5 1 v' (pre ++ vint n).length (bcells (pre ++ vint n)) ∧ Grew w w' v v') :=
    appendVarint_any v pre n base w (by omega) hl hb hown
  clear hown
  go_enter Try.func105, Try.ntmps105
  go_wp2_with fail
  refine HA.out.mono ?_
  rintro e w' ⟨v', rfl, h1, h2⟩
  go_wp2
  go_ret
  exact ⟨_, rfl, h1, h2⟩

theorem zigzag_any (n : Int) (h0 : -9223372036854775808 ≤ n) (h1 : n ≤ 9223372036854775807) (w : World) :
    Calls Try.prog 103 #[.int .i64 n] w fun e w' => e = .returned (.int .u64 (zz n)) ∧ w' = w := by
  by_cases h : n < 0
  all_goals
    go_enter Try.func103, Try.ntmps103
    go_wp2
    all_goals go_ret
    all_goals exact ⟨ret_int (by unfold zz; split <;> omega), rfl⟩

theorem czigzag_any (n : Int) (h0 : -9223372036854775808 ≤ n) (h1 : n ≤ 9223372036854775807) (w : World) :
    Calls Try.prog 137 #[.int .i64 n] w fun e w' => e = .returned (.int .u64 (zz n)) ∧ w' = w := by
  have hz := zig_bits n h0 h1
  go_enter Try.func137, Try.ntmps137
  go_wp2
  go_ret
  exact ⟨rfl, rfl⟩

/-- May a value be of a kind (from Int to Text)? -/
def mayB (v : Val) (k : Int) : Bool :=
  if v.null then (v.n == 0) && (v.s.toList == []) else if k == 1 then v.s.toList == [] else if k == 2 then (v.n == 0 || v.n == 1) && (v.s.toList == []) else (v.n == 0) && decide ((v.s.size : Int) ≤ 32)

theorem ret_bool {a b : Bool} (h : a = b) : Ending.returned (.bool a) = .returned (.bool b) := by rw [h]

set_option maxRecDepth 100000 in
set_option maxHeartbeats 2000000 in
theorem may_any (v : Val) (k : Int) (w : World) (hk : k = 1 ∨ k = 2 ∨ k = 3) :
    Calls Try.prog 41 #[.agg #[.bool v.null, .int .i64 v.n, .string v.s], .int .i64 k] w fun e w' => e = .returned (.bool (mayB v k)) ∧ Below w.heap.size w w' := by
  cases hn : v.null
  · rcases hk with rfl | rfl | rfl
    all_goals
      go_enter Try.func41, Try.ntmps41
      go_wp2
      all_goals go_ret
      all_goals refine ⟨ret_bool ?_, (Below.refl _ _).alloc (Nat.le_refl _) _⟩
      all_goals rw [Bool.eq_iff_iff]
      all_goals simp [mayB, *]
      all_goals try omega
  · rcases hk with rfl | rfl | rfl
    all_goals
      go_enter Try.func41, Try.ntmps41
      go_wp2
      all_goals go_ret
      all_goals refine ⟨ret_bool ?_, (Below.refl _ _).alloc (Nat.le_refl _) _⟩
      all_goals rw [Bool.eq_iff_iff]
      all_goals simp [mayB, *]
      all_goals try omega

set_option maxRecDepth 100000 in
set_option maxHeartbeats 2000000 in
theorem mayBe_any (v : Val) (k : Int) (w : World) (hk : k = 1 ∨ k = 2 ∨ k = 3) :
    Calls Try.prog 44 #[.agg #[.bool v.null, .int .i64 v.n, .string v.s], .int .i64 k] w fun e w' => e = .returned (.bool (mayB v k)) ∧ Below w.heap.size w w' := by
  have H := isKind_any k
  rw [show isKindB k = true from by rcases hk with rfl | rfl | rfl <;> rfl] at H
  cases hn : v.null
  · rcases hk with rfl | rfl | rfl
    all_goals
      go_enter Try.func44, Try.ntmps44
      go_wp2
      all_goals go_ret
      all_goals refine ⟨ret_bool ?_, (Below.refl _ _).alloc (Nat.le_refl _) _⟩
      all_goals rw [Bool.eq_iff_iff]
      all_goals simp [mayB, *]
      all_goals try omega
  · rcases hk with rfl | rfl | rfl
    all_goals
      go_enter Try.func44, Try.ntmps44
      go_wp2_with (go_at_call 71; refine (H _).mono ?_; rintro e w' ⟨rfl, rfl⟩)
      all_goals go_ret
      all_goals refine ⟨ret_bool ?_, (Below.refl _ _).alloc (Nat.le_refl _) _⟩
      all_goals rw [Bool.eq_iff_iff]
      all_goals simp [mayB, *]
      all_goals try omega
end Go.Proofs.Ytjidbonhhpkljaa.Ec
