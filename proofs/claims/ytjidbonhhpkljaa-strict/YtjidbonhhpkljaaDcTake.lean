/- The contracts of the code's Reader: a text is taken, a varint, a number, a bit; or the bytes are given up by a panic. -/
import Derived.Test.YtjidbonhhpkljaaPkReader
import Derived.Test.YtjidbonhhpkljaaDcRunsP
set_option linter.unusedVariables false
namespace Go.Proofs.Ytjidbonhhpkljaa.Ec
open Go.RowKit Go.Proofs.Ytjidbonhhpkljaa.Pk Go.Proofs.Ytjidbonhhpkljaa.Pm

theorem byte_at (s : ByteArray) (p : Nat) (h : p < s.size) : (bytesOf s)[p]? = some s[p].toNat := by
  rw [List.getElem?_eq_getElem (by rw [bytesOf_length]; exact h), bytesOf_get s p h]

theorem and_u8 (c : Nat) (h : c < 256) : bits .and .u8 (c : Int) 127 = ((c % 128 : Nat) : Int) := by
  have := bits_mask .u8 8 (by decide) wraps_u8 7 (by decide) (c : Int) (by omega) (by omega)
  rw [show (127 : Int) = 2 ^ 7 - 1 from by decide, this]
  omega
theorem wraps_u64 (n : Int) (h₀ : 0 ≤ n) (h₁ : n < 2 ^ 64) : IntKind.u64.wrap n = n := by rw [wrap_u64]; omega

theorem bytesOf_extract (s : ByteArray) (p q : Nat) : bytesOf (s.extract p q) = ((bytesOf s).drop p).take (q - p) := by
  unfold bytesOf
  rw [ByteArray.data_extract]
  simp only [Array.toList_extract, List.extract_eq_take_drop, List.map_take, List.map_drop]

set_option maxRecDepth 100000 in
set_option maxHeartbeats 1000000 in
theorem takeN_bad (r p c : Nat) (s : ByteArray) (w : World) (hm : s.size ≤ maxLen) (hc : c ≤ 2147483648) (hp : ¬ p + c ≤ s.size) (hp2 : p ≤ s.size) (h : w.heap[r]? = some (rdr s p)) :
    Calls Try.prog 119 #[.pointer (some ⟨r, 0, none⟩), .int .i64 (c : Int)] w fun e w' => e = .panicked (badAt p) ∧ ∃ n, w' = w.drewN n := by
  obtain ⟨c0, c1, f0, f1⟩ := rdr_cells h
  unfold maxLen at hm
  have HR : Hid (w.heap[r]? = some (rdr s p)) := h
  clear h
  have hd0 : decide ((c : Int) < 0) = false := by simp
  have hd : decide ((s.size : Int) - (p : Int) < (c : Int)) = true := by simp; omega
  go_enter Try.func119, Try.ntmps119
  go_wp2_with fail
  go_quiet (fail)
  go_wp2_with (go_at_call 84; refine (giveUp_any r p s _ (by exact HR.out)).mono ?_; rintro e w' ⟨rfl, rfl⟩)
  exact ⟨rfl, rfl, nq, rfl⟩

set_option maxRecDepth 100000 in
set_option maxHeartbeats 1000000 in
theorem takeN_ok (r p c : Nat) (s : ByteArray) (w : World) (hm : s.size ≤ maxLen) (hp : p + c ≤ s.size) (h : w.heap[r]? = some (rdr s p)) :
    Calls Try.prog 119 #[.pointer (some ⟨r, 0, none⟩), .int .i64 (c : Int)] w fun e w' => e = .returned (.string (s.extract p (p + c))) ∧ ∃ n, w' = (w.setCell ⟨r, 1, none⟩ (.int .i64 ((p + c : Nat) : Int))).drewN n := by
  obtain ⟨c0, c1, f0, f1⟩ := rdr_cells h
  unfold maxLen at hm
  clear h
  have hd0 : decide ((c : Int) < 0) = false := by simp
  have hd : decide ((s.size : Int) - (p : Int) < (c : Int)) = false := by simp; omega
  have q1 : (0 : Int) ≤ (p : Int) + (c : Int) := by omega
  have q2 : (p : Int) + (c : Int) ≤ (s.size : Int) := by omega
  have q3 : (p : Int) ≤ (p : Int) + (c : Int) := by omega
  have q4 : ((p : Int) + (c : Int)).toNat = p + c := by omega
  go_enter Try.func119, Try.ntmps119
  go_wp2_with fail
  go_quiet (fail)
  generalize nq = m at *
  go_wp2_with fail
  go_quiet (fail)
  go_wp2
  go_ret
  exact ⟨rfl, m + nq, drew_set _ _ _ _ _⟩

set_option maxRecDepth 100000 in
set_option maxHeartbeats 1000000 in
theorem bit_any (r p : Nat) (s : ByteArray) (w : World) (hm : s.size ≤ maxLen) (hp : p ≤ s.size) (h : w.heap[r]? = some (rdr s p)) :
    Calls Try.prog 113 #[.pointer (some ⟨r, 0, none⟩)] w fun e w' => Kp r w w' ∧ ((∃ b : Int, e = .returned (.int .i64 b) ∧ (b = 0 ∨ b = 1) ∧ Starts (bytesOf s) p [b.toNat] ∧ w'.heap[r]? = some (rdr s (p + 1)) ∧ p + 1 ≤ s.size) ∨
      (∃ q, e = .panicked (badAt q) ∧ ∀ b : Int, (b = 0 ∨ b = 1) → ¬ Starts (bytesOf s) p [b.toNat])) := by
  have HR : Hid (w.heap[r]? = some (rdr s p)) := h
  clear h
  by_cases hin : p < s.size
  · have HB := byte_at s p hin
    have HC : Hid (∀ w, w.heap[r]? = some (rdr s p) → Calls Try.prog 83 #[.pointer (some ⟨r, 0, none⟩)] w fun e w' => e = .returned (.int .u8 (s[p].toNat : Int)) ∧ ∃ n, w' = (w.setCell ⟨r, 1, none⟩ (.int .i64 ((p + 1 : Nat) : Int))).drewN n) :=
      fun w hw => byte_ok r p s w hm hin hw
    have hc : s[p].toNat < 256 := s[p].toNat_lt
    have HBH : Hid ((bytesOf s)[p]? = some s[p].toNat) := HB
    clear HB
    generalize s[p].toNat = c at *
    by_cases h1 : c ≤ 1
    · have hg : decide ((1 : Int) < (c : Int)) = false := by simp; omega
      go_enter Try.func113, Try.ntmps113
      go_wp2_with (go_at_call 83; refine (HC.out _ HR.out).mono ?_; rintro e w' ⟨rfl, n, rfl⟩)
      go_ret
      refine ⟨(Kp.refl _ _).set _ _ n, .inl ⟨(c : Int), by first | rfl | (congr 2; omega), by omega, ?_, rdr_set HR.out n, by omega⟩⟩
      rw [starts_one, HBH.out]
      simp
    · have hg : decide ((1 : Int) < (c : Int)) = true := by simp; omega
      have HNO : Hid (∀ b : Int, (b = 0 ∨ b = 1) → ¬ Starts (bytesOf s) p [b.toNat]) := by
        intro b hb
        rw [starts_one, HBH.out]
        simp
        omega
      go_enter Try.func113, Try.ntmps113
      go_wp2_with first | (go_at_call 83; refine (HC.out _ HR.out).mono ?_; rintro e w' ⟨rfl, n, rfl⟩) | (go_at_call 84; refine (giveUp_any r (p + 1) s _ (by exact rdr_set HR.out _)).mono ?_; rintro e w' ⟨rfl, rfl⟩)
      exact ⟨rfl, (Kp.refl _ _).set _ _ n, .inr ⟨_, rfl, HNO.out⟩⟩
  · have HNO : Hid (∀ b : Int, (b = 0 ∨ b = 1) → ¬ Starts (bytesOf s) p [b.toNat]) := by
      intro b hb hs
      have := starts_len hs (by rw [bytesOf_length]; exact hp)
      rw [bytesOf_length] at this
      simp at this
      omega
    go_enter Try.func113, Try.ntmps113
    go_wp2_with (go_at_call 83; refine (byte_bad r p s _ hm hin hp HR.out).mono ?_; rintro e w' ⟨rfl, n, rfl⟩)
    exact ⟨rfl, (Kp.refl _ _).drewN n, .inr ⟨_, rfl, HNO.out⟩⟩
end Go.Proofs.Ytjidbonhhpkljaa.Ec
