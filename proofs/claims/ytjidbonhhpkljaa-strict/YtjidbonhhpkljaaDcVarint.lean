/- The contracts of the code's Reader: a varint, and a number. -/
import Derived.Test.YtjidbonhhpkljaaDcTake
set_option linter.unusedVariables false
namespace Go.Proofs.Ytjidbonhhpkljaa.Ec
open Go.RowKit Go.Proofs.Ytjidbonhhpkljaa.Pk Go.Proofs.Ytjidbonhhpkljaa.Pm

theorem pow7 (j : Nat) : (128 : Nat) ^ j = 2 ^ (7 * j) := by rw [Nat.pow_mul]

/-- 'n | uint64(c) << shift'. -/
theorem or_word (acc c j : Nat) (hj : j ≤ 9) (ha : acc < 128 ^ j) (hc : c < 128) : ∃ X : Nat, bits .or .u64 (acc : Int) (IntKind.u64.wrap ((c : Int) * 2 ^ (7 * j))) = (X : Int) ∧ X < 18446744073709551616 ∧ ((j ≤ 8 ∨ c ≤ 1) → X = acc + 128 ^ j * c) := by
  have h9 : (128 : Nat) ^ 9 = 9223372036854775808 := by decide
  have hp : 128 ^ j ≤ 128 ^ 9 := Nat.pow_le_pow_right (by omega) hj
  have hcast : (c : Int) * 2 ^ (7 * j) = ((2 ^ (7 * j) * c : Nat) : Int) := by push_cast; rw [Int.mul_comm]
  have hw : IntKind.u64.wrap ((c : Int) * 2 ^ (7 * j)) = ((2 ^ (7 * j) * c % 18446744073709551616 : Nat) : Int) := by rw [hcast, wrap_u64]; omega
  have hor := (bits_nat .u64 64 (by decide) wraps_u64 acc (2 ^ (7 * j) * c % 18446744073709551616) (by omega) (by omega)).2
  rw [hw]
  refine ⟨_, hor, ?_, ?_⟩
  · exact Nat.or_lt_two_pow (n := 64) (by omega) (by omega)
  · intro h
    have hlt : 2 ^ (7 * j) * c < 18446744073709551616 := by
      rw [← pow7]
      rcases h with h | h
      · have h8 : 128 ^ j ≤ 128 ^ 8 := Nat.pow_le_pow_right (by omega) h
        have h8' : (128 : Nat) ^ 8 = 72057594037927936 := by decide
        have := Nat.mul_le_mul h8 (show c ≤ 127 by omega)
        omega
      · have := Nat.mul_le_mul hp h
        omega
    rw [Nat.mod_eq_of_lt hlt, Nat.or_comm, ← Nat.two_pow_add_eq_or_of_lt (by rw [← pow7]; exact ha) c, Nat.add_comm, pow7]

set_option maxRecDepth 100000 in
set_option maxHeartbeats 4000000 in
theorem varint_rd (r p : Nat) (s : ByteArray) (w : World) (hm : s.size ≤ maxLen) (hp : p ≤ s.size) (h : w.heap[r]? = some (rdr s p)) :
    Calls Try.prog 141 #[.pointer (some ⟨r, 0, none⟩)] w fun e w' => Kp r w w' ∧ ((∃ v : Nat, e = .returned (.int .u64 (v : Int)) ∧ v < 18446744073709551616 ∧ Starts (bytesOf s) p (vint v) ∧ w'.heap[r]? = some (rdr s (p + (vint v).length))) ∨
      (∃ q, e = .panicked (badAt q) ∧ ∀ v, v < 18446744073709551616 → ¬ Starts (bytesOf s) p (vint v))) := by
  have HR : Hid (w.heap[r]? = some (rdr s p)) := h
  clear h
  go_enter Try.func141, Try.ntmps141
  go_wp2_with fail
  go_loopw [3, 4] (fun n sh wr => ∃ (j acc X : Nat), j ≤ 10 ∧ sh = .int .i64 ((7 * j : Nat) : Int) ∧ n = .int .u64 (X : Int) ∧ (j ≤ 9 → X = acc) ∧ VSt (bytesOf s) p j acc ∧ p + j ≤ s.size ∧ wr.heap[r]? = some (rdr s (p + j)) ∧ Kp r w wr) (fun _ sh _ => 71 - (intOf sh).toNat)
  case atStart => exact ⟨0, 0, 0, by omega, rfl, rfl, fun _ => rfl, VSt.zero _ _, by omega, HR.out, Kp.refl _ _⟩
  case round =>
    clear HR
    obtain ⟨j, acc, X, hj, rfl, rfl, hX, hV, hpj, hR, hK⟩ := hrel
    have HV : Hid (VSt (bytesOf s) p j acc) := hV
    have HRR : Hid (wr.heap[r]? = some (rdr s (p + j))) := hR
    have HK : Hid (Kp r w wr) := hK
    clear hV hR hK
    by_cases hj9 : j ≤ 9
    · obtain rfl := hX hj9
      clear hX
      by_cases hin : p + j < s.size
      · have HC : Hid (∀ w, w.heap[r]? = some (rdr s (p + j)) → Calls Try.prog 83 #[.pointer (some ⟨r, 0, none⟩)] w fun e w' => e = .returned (.int .u8 (s[p + j].toNat : Int)) ∧ ∃ n, w' = (w.setCell ⟨r, 1, none⟩ (.int .i64 ((p + j + 1 : Nat) : Int))).drewN n) :=
          fun w hw => byte_ok r (p + j) s w hm hin hw
        have hc : s[p + j].toNat < 256 := s[p + j].toNat_lt
        have HBH : Hid ((bytesOf s)[p + j]? = some s[p + j].toNat) := byte_at s (p + j) hin
        generalize s[p + j].toNat = c at *
        have hand : bits .and .u8 (c : Int) 127 = (c : Int) % 128 := by rw [and_u8 c hc]; omega
        obtain ⟨Y, hY, hY2, hY3⟩ := or_word X (c % 128) j hj9 HV.out.lt (by omega)
        rw [show ((c % 128 : Nat) : Int) = (c : Int) % 128 from by omega] at hY
        have HY3 : Hid ((j ≤ 8 ∨ c % 128 ≤ 1) → Y = X + 128 ^ j * (c % 128)) := hY3
        clear hY3
        by_cases hhi : 128 ≤ c
        · go_wp2_with (go_at_call 83; refine (HC.out _ HRR.out).mono ?_; rintro e w' ⟨rfl, n, rfl⟩)
          refine ⟨⟨j + 1, X + 128 ^ j * (c - 128), Y, by omega, by go_num, by first | rfl | rw [hY], ?_, HV.out.more (by omega) HBH.out hhi hc, by omega, rdr_set HRR.out n, HK.out.set _ _ n⟩, by simp [intOf]; omega⟩
          intro h9
          rw [HY3.out (.inl (by omega)), show c % 128 = c - 128 by omega]
        · have hmod : (c : Int) % 128 = (c : Int) := by omega
          rw [hmod] at hY
          have hfin := fun v hv => HV.out.fin (v := v) (by omega) HBH.out (by omega) hv
          have HFIN : Hid (∀ v, v < 18446744073709551616 → (Starts (bytesOf s) p (vint v) ↔ v = X + 128 ^ j * c ∧ (c ≠ 0 ∨ j = 0))) := hfin
          clear hfin
          by_cases hgood : (c ≠ 0 ∨ j = 0) ∧ (c ≤ 1 ∨ j ≤ 8)
          · have HT : Hid (X + 128 ^ j * c < 18446744073709551616) := HV.out.top (by omega) (by omega)
            have HL : Hid _ := HV.out.fin_len (c := c) (by omega) (by omega) hgood.1
            have HYE : Hid (Y = X + 128 ^ j * c) := by rw [show Hid (Y = X + 128 ^ j * c) ↔ Y = X + 128 ^ j * c from ⟨fun h => h.out, fun h => h⟩, HY3.out (by omega), Nat.mod_eq_of_lt (by omega)]
            go_wp2_with (go_at_call 83; refine (HC.out _ HRR.out).mono ?_; rintro e w' ⟨rfl, n, rfl⟩)
            all_goals
              go_ret
              exact ⟨HK.out.set _ _ n, .inl ⟨X + 128 ^ j * c, by rw [← HYE.out]; rfl, HT.out, (HFIN.out _ HT.out).2 ⟨rfl, hgood.1⟩, by rw [HL.out, ← Nat.add_assoc]; exact rdr_set HRR.out n⟩⟩
          · have HNO : Hid (∀ v, v < 18446744073709551616 → ¬ Starts (bytesOf s) p (vint v)) := by
              intro v hv hs
              obtain ⟨h1, h2⟩ := (HFIN.out v hv).1 hs
              by_cases h3 : c ≤ 1 ∨ j ≤ 8
              · exact hgood ⟨h2, h3⟩
              · obtain rfl : j = 9 := by omega
                rw [h1] at hv
                exact VSt.over (B := bytesOf s) (p := p) (by omega) hv
            go_wp2_with first | (go_at_call 83; refine (HC.out _ HRR.out).mono ?_; rintro e w' ⟨rfl, n, rfl⟩) | (go_at_call 84; refine (giveUp_any r (p + j + 1) s _ (by exact rdr_set HRR.out _)).mono ?_; rintro e w' ⟨rfl, rfl⟩)
            all_goals exact ⟨rfl, HK.out.set _ _ n, .inr ⟨_, rfl, HNO.out⟩⟩
      · have HNO : Hid (∀ v, v < 18446744073709551616 → ¬ Starts (bytesOf s) p (vint v)) := fun v hv => HV.out.none (by omega) (by rw [bytesOf_length]; exact hin) v hv
        go_wp2_with (go_at_call 83; refine (byte_bad r (p + j) s _ hm hin hpj HRR.out).mono ?_; rintro e w' ⟨rfl, n, rfl⟩)
        exact ⟨rfl, HK.out.drewN n, .inr ⟨_, rfl, HNO.out⟩⟩
    · obtain rfl : j = 10 := by omega
      have HNO : Hid (∀ v, v < 18446744073709551616 → ¬ Starts (bytesOf s) p (vint v)) := fun v hv => HV.out.ten v hv
      go_wp2_with (go_at_call 84; refine (giveUp_any r (p + 10) s _ HRR.out).mono ?_; rintro e w' ⟨rfl, rfl⟩)
      exact ⟨rfl, HK.out, .inr ⟨_, rfl, HNO.out⟩⟩

set_option maxRecDepth 100000 in
set_option maxHeartbeats 1000000 in
theorem number_rd (r p : Nat) (s : ByteArray) (w : World) (hm : s.size ≤ maxLen) (hp : p ≤ s.size) (h : w.heap[r]? = some (rdr s p)) :
    Calls Try.prog 112 #[.pointer (some ⟨r, 0, none⟩)] w fun e w' => Kp r w w' ∧ ((∃ v : Nat, e = .returned (.int .i64 (v : Int)) ∧ v < 2147483648 ∧ Starts (bytesOf s) p (vint v) ∧ p + (vint v).length ≤ s.size ∧ w'.heap[r]? = some (rdr s (p + (vint v).length))) ∨
      (∃ q, e = .panicked (badAt q) ∧ ∀ v, v < 2147483648 → ¬ Starts (bytesOf s) p (vint v))) := by
  have HR : Hid (w.heap[r]? = some (rdr s p)) := h
  clear h
  go_enter Try.func112, Try.ntmps112
  go_wp2_with fail
  refine (varint_rd r p s _ hm hp HR.out).mono ?_
  rintro e w1 ⟨hK, ⟨v, rfl, hv, hs, hR⟩ | ⟨q, rfl, hno⟩⟩
  · have HK : Hid (Kp r w w1) := hK
    have HS : Hid (Starts (bytesOf s) p (vint v)) := hs
    have HR1 : Hid (w1.heap[r]? = some (rdr s (p + (vint v).length))) := hR
    have HL : Hid (p + (vint v).length ≤ s.size) := by have := starts_len hs (by rw [bytesOf_length]; exact hp); rwa [bytesOf_length] at this
    have HV : Hid (v < 18446744073709551616) := hv
    clear hK hs hR HR hv
    by_cases hlt : v < 2147483648
    · have HLT : Hid (v < 2147483648) := hlt
      have hd : decide ((2147483648 : Int) ≤ (v : Int)) = false := by rw [decide_eq_false_iff_not]; omega
      have hw : wrap64 (v : Int) = (v : Int) := by unfold wrap64; omega
      clear hlt
      go_wp2
      go_ret
      exact ⟨HK.out, .inl ⟨v, by first | rfl | go_num, HLT.out, HS.out, HL.out, HR1.out⟩⟩
    · have HNO : Hid (∀ u, u < 2147483648 → ¬ Starts (bytesOf s) p (vint u)) := by
        intro u hu hs
        have := vint_one (by omega) HV.out hs HS.out
        omega
      have hd : decide ((2147483648 : Int) ≤ (v : Int)) = true := by rw [decide_eq_true_iff]; omega
      clear hlt
      go_wp2_with (go_at_call 84; refine (giveUp_any r (p + (vint v).length) s _ HR1.out).mono ?_; rintro e w' ⟨rfl, rfl⟩)
      exact ⟨rfl, HK.out, .inr ⟨_, rfl, HNO.out⟩⟩
  · have HK : Hid (Kp r w w1) := hK
    have HNO : Hid (∀ u, u < 2147483648 → ¬ Starts (bytesOf s) p (vint u)) := fun v hv => hno v (by omega)
    clear hK hno HR
    go_wp2
    exact ⟨rfl, HK.out, .inr ⟨q, rfl, HNO.out⟩⟩
end Go.Proofs.Ytjidbonhhpkljaa.Ec
