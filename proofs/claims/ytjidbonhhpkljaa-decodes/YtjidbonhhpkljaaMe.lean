/- What the proof stands on: DcVarint, DcPlainC, DrOne, DcRunsC, DrRun, DcListC, DcDictC, DcDictD. -/
import Derived.Test.YtjidbonhhpkljaaMd
import Derived.Lib.BufferWrite
import Derived.Lib.UnsafeStr
import Derived.Laws.MakeOwn

/- The contracts of the code's Reader: a varint, and a number. -/
set_option linter.unusedVariables false
namespace Go.Proofs.Ytjidbonhhpkljaa.Ec
open Go.RowKit Go.Proofs.Ytjidbonhhpkljaa.Pk Go.Proofs.Ytjidbonhhpkljaa.Pm

theorem pow7 (j : Nat) : (128 : Nat) ^ j = 2 ^ (7 * j) := by rw [Nat.pow_mul]

/-- 'n | uint64(c) << shift'. -/
theorem or_word (acc c j : Nat) (hj : j ≤ 9) (ha : acc < 128 ^ j) (hc : c < 128) : ∃ X : Nat, bits .or .u64 (acc : Int) (IntKind.u64.wrap ((c : Int) * 2 ^ (7 * j))) = (X : Int) ∧ X < 18446744073709551616 ∧ ((j ≤ 8 ∨ c ≤ 1) → X = acc + 128 ^ j * c) := by
  have h9 : (128 : Nat) ^ 9 = 9223372036854775808 := by decide
  have hp : 128 ^ j ≤ 128 ^ 9 := Nat.pow_le_pow_right (by omega) hj
  have hcast : (c : Int) * 2 ^ (7 * j) = ((2 ^ (7 * j) * c : Nat) : Int) := by push_cast; rw [Int.mul_comm]
  have hw : IntKind.u64.wrap ((c : Int) * 2 ^ (7 * j)) = ((2 ^ (7 * j) * c % 18446744073709551616 : Nat) : Int) := by rw [hcast, wrap_u64]; omega
  have hor := (bits_nat .u64 64 (by decide) wraps_u64 acc (2 ^ (7 * j) * c % 18446744073709551616) (by omega) (by omega)).2
  rw [hw]
  refine ⟨_, hor, ?_, ?_⟩
  · exact Nat.or_lt_two_pow (n := 64) (by omega) (by omega)
  · intro h
    have hlt : 2 ^ (7 * j) * c < 18446744073709551616 := by
      rw [← pow7]
      rcases h with h | h
      · have h8 : 128 ^ j ≤ 128 ^ 8 := Nat.pow_le_pow_right (by omega) h
        have h8' : (128 : Nat) ^ 8 = 72057594037927936 := by decide
        have := Nat.mul_le_mul h8 (show c ≤ 127 by omega)
        omega
      · have := Nat.mul_le_mul hp h
        omega
    rw [Nat.mod_eq_of_lt hlt, Nat.or_comm, ← Nat.two_pow_add_eq_or_of_lt (by rw [← pow7]; exact ha) c, Nat.add_comm, pow7]

set_option maxRecDepth 100000 in
set_option maxHeartbeats 4000000 in
theorem varint_rd (r p : Nat) (s : ByteArray) (w : World) (hm : s.size ≤ maxLen) (hp : p ≤ s.size) (h : w.heap[r]? = some (rdr s p)) :
    Calls Try.prog 141 #[.pointer (some ⟨r, 0, none⟩)] w fun e w' => Kp r w w' ∧ ((∃ v : Nat, e = .returned (.int .u64 (v : Int)) ∧ v < 18446744073709551616 ∧ Starts (bytesOf s) p (vint v) ∧ w'.heap[r]? = some (rdr s (p + (vint v).length))) ∨
      (∃ q, e = .panicked (badAt q) ∧ ∀ v, v < 18446744073709551616 → ¬ Starts (bytesOf s) p (vint v))) := by
  have HR : Hid (w.heap[r]? = some (rdr s p)) := h
  clear h
  go_enter Try.func141, Try.ntmps141
  go_wp2_with fail
  go_loopw [3, 4] (fun n sh wr => ∃ (j acc X : Nat), j ≤ 10 ∧ sh = .int .i64 ((7 * j : Nat) : Int) ∧ n = .int .u64 (X : Int) ∧ (j ≤ 9 → X = acc) ∧ VSt (bytesOf s) p j acc ∧ p + j ≤ s.size ∧ wr.heap[r]? = some (rdr s (p + j)) ∧ Kp r w wr) (fun _ sh _ => 71 - (intOf sh).toNat)
  case atStart => exact ⟨0, 0, 0, by omega, rfl, rfl, fun _ => rfl, VSt.zero _ _, by omega, HR.out, Kp.refl _ _⟩
  case round =>
    clear HR
    obtain ⟨j, acc, X, hj, rfl, rfl, hX, hV, hpj, hR, hK⟩ := hrel
    have HV : Hid (VSt (bytesOf s) p j acc) := hV
    have HRR : Hid (wr.heap[r]? = some (rdr s (p + j))) := hR
    have HK : Hid (Kp r w wr) := hK
    clear hV hR hK
    by_cases hj9 : j ≤ 9
    · obtain rfl := hX hj9
      clear hX
      by_cases hin : p + j < s.size
      · have HC : Hid (∀ w, w.heap[r]? = some (rdr s (p + j)) → Calls Try.prog 83 #[.pointer (some ⟨r, 0, none⟩)] w fun e w' => e = .returned (.int .u8 (s[p + j].toNat : Int)) ∧ ∃ n, w' = (w.setCell ⟨r, 1, none⟩ (.int .i64 ((p + j + 1 : Nat) : Int))).drewN n) :=
          fun w hw => byte_ok r (p + j) s w hm hin hw
        have hc : s[p + j].toNat < 256 := s[p + j].toNat_lt
        have HBH : Hid ((bytesOf s)[p + j]? = some s[p + j].toNat) := byte_at s (p + j) hin
        generalize s[p + j].toNat = c at *
        have hand : bits .and .u8 (c : Int) 127 = (c : Int) % 128 := by rw [and_u8 c hc]; omega
        obtain ⟨Y, hY, hY2, hY3⟩ := or_word X (c % 128) j hj9 HV.out.lt (by omega)
        rw [show ((c % 128 : Nat) : Int) = (c : Int) % 128 from by omega] at hY
        have HY3 : Hid ((j ≤ 8 ∨ c % 128 ≤ 1) → Y = X + 128 ^ j * (c % 128)) := hY3
        clear hY3
        by_cases hhi : 128 ≤ c
        · go_wp2_with (go_at_call 83; refine (HC.out _ HRR.out).mono ?_; rintro e w' ⟨rfl, n, rfl⟩)
          refine ⟨⟨j + 1, X + 128 ^ j * (c - 128), Y, by omega, by go_num, by first | rfl | rw [hY], ?_, HV.out.more (by omega) HBH.out hhi hc, by omega, rdr_set HRR.out n, HK.out.set _ _ n⟩, by simp [intOf]; omega⟩
          intro h9
          rw [HY3.out (.inl (by omega)), show c % 128 = c - 128 by omega]
        · have hmod : (c : Int) % 128 = (c : Int) := by omega
          rw [hmod] at hY
          have hfin := fun v hv => HV.out.fin (v := v) (by omega) HBH.out (by omega) hv
          have HFIN : Hid (∀ v, v < 18446744073709551616 → (Starts (bytesOf s) p (vint v) ↔ v = X + 128 ^ j * c ∧ (c ≠ 0 ∨ j = 0))) := hfin
          clear hfin
          by_cases hgood : (c ≠ 0 ∨ j = 0) ∧ (c ≤ 1 ∨ j ≤ 8)
          · have HT : Hid (X + 128 ^ j * c < 18446744073709551616) := HV.out.top (by omega) (by omega)
            have HL : Hid _ := HV.out.fin_len (c := c) (by omega) (by omega) hgood.1
            have HYE : Hid (Y = X + 128 ^ j * c) := by rw [show Hid (Y = X + 128 ^ j * c) ↔ Y = X + 128 ^ j * c from ⟨fun h => h.out, fun h => h⟩, HY3.out (by omega), Nat.mod_eq_of_lt (by omega)]
            go_wp2_with (go_at_call 83; refine (HC.out _ HRR.out).mono ?_; rintro e w' ⟨rfl, n, rfl⟩)
            all_goals
              go_ret
              exact ⟨HK.out.set _ _ n, .inl ⟨X + 128 ^ j * c, by rw [← HYE.out]; rfl, HT.out, (HFIN.out _ HT.out).2 ⟨rfl, hgood.1⟩, by rw [HL.out, ← Nat.add_assoc]; exact rdr_set HRR.out n⟩⟩
          · have HNO : Hid (∀ v, v < 18446744073709551616 → ¬ Starts (bytesOf s) p (vint v)) := by
              intro v hv hs
              obtain ⟨h1, h2⟩ := (HFIN.out v hv).1 hs
              by_cases h3 : c ≤ 1 ∨ j ≤ 8
              · exact hgood ⟨h2, h3⟩
              · obtain rfl : j = 9 := by omega
                rw [h1] at hv
                exact VSt.over (B := bytesOf s) (p := p) (by omega) hv
            go_wp2_with first | (go_at_call 83; refine (HC.out _ HRR.out).mono ?_; rintro e w' ⟨rfl, n, rfl⟩) | (go_at_call 84; refine (giveUp_any r (p + j + 1) s _ (by exact rdr_set HRR.out _)).mono ?_; rintro e w' ⟨rfl, rfl⟩)
            all_goals exact ⟨rfl, HK.out.set _ _ n, .inr ⟨_, rfl, HNO.out⟩⟩
      · have HNO : Hid (∀ v, v < 18446744073709551616 → ¬ Starts (bytesOf s) p (vint v)) := fun v hv => HV.out.none (by omega) (by rw [bytesOf_length]; exact hin) v hv
        go_wp2_with (go_at_call 83; refine (byte_bad r (p + j) s _ hm hin hpj HRR.out).mono ?_; rintro e w' ⟨rfl, n, rfl⟩)
        exact ⟨rfl, HK.out.drewN n, .inr ⟨_, rfl, HNO.out⟩⟩
    · obtain rfl : j = 10 := by omega
      have HNO : Hid (∀ v, v < 18446744073709551616 → ¬ Starts (bytesOf s) p (vint v)) := fun v hv => HV.out.ten v hv
      go_wp2_with (go_at_call 84; refine (giveUp_any r (p + 10) s _ HRR.out).mono ?_; rintro e w' ⟨rfl, rfl⟩)
      exact ⟨rfl, HK.out, .inr ⟨_, rfl, HNO.out⟩⟩

set_option maxRecDepth 100000 in
set_option maxHeartbeats 1000000 in
theorem number_rd (r p : Nat) (s : ByteArray) (w : World) (hm : s.size ≤ maxLen) (hp : p ≤ s.size) (h : w.heap[r]? = some (rdr s p)) :
    Calls Try.prog 112 #[.pointer (some ⟨r, 0, none⟩)] w fun e w' => Kp r w w' ∧ ((∃ v : Nat, e = .returned (.int .i64 (v : Int)) ∧ v < 2147483648 ∧ Starts (bytesOf s) p (vint v) ∧ p + (vint v).length ≤ s.size ∧ w'.heap[r]? = some (rdr s (p + (vint v).length))) ∨
      (∃ q, e = .panicked (badAt q) ∧ ∀ v, v < 2147483648 → ¬ Starts (bytesOf s) p (vint v))) := by
  have HR : Hid (w.heap[r]? = some (rdr s p)) := h
  clear h
  go_enter Try.func112, Try.ntmps112
  go_wp2_with fail
  refine (varint_rd r p s _ hm hp HR.out).mono ?_
  rintro e w1 ⟨hK, ⟨v, rfl, hv, hs, hR⟩ | ⟨q, rfl, hno⟩⟩
  · have HK : Hid (Kp r w w1) := hK
    have HS : Hid (Starts (bytesOf s) p (vint v)) := hs
    have HR1 : Hid (w1.heap[r]? = some (rdr s (p + (vint v).length))) := hR
    have HL : Hid (p + (vint v).length ≤ s.size) := by have := starts_len hs (by rw [bytesOf_length]; exact hp); rwa [bytesOf_length] at this
    have HV : Hid (v < 18446744073709551616) := hv
    clear hK hs hR HR hv
    by_cases hlt : v < 2147483648
    · have HLT : Hid (v < 2147483648) := hlt
      have hd : decide ((2147483648 : Int) ≤ (v : Int)) = false := by rw [decide_eq_false_iff_not]; omega
      have hw : wrap64 (v : Int) = (v : Int) := by unfold wrap64; omega
      clear hlt
      go_wp2
      go_ret
      exact ⟨HK.out, .inl ⟨v, by first | rfl | go_num, HLT.out, HS.out, HL.out, HR1.out⟩⟩
    · have HNO : Hid (∀ u, u < 2147483648 → ¬ Starts (bytesOf s) p (vint u)) := by
        intro u hu hs
        have := vint_one (by omega) HV.out hs HS.out
        omega
      have hd : decide ((2147483648 : Int) ≤ (v : Int)) = true := by rw [decide_eq_true_iff]; omega
      clear hlt
      go_wp2_with (go_at_call 84; refine (giveUp_any r (p + (vint v).length) s _ HR1.out).mono ?_; rintro e w' ⟨rfl, rfl⟩)
      exact ⟨rfl, HK.out, .inr ⟨_, rfl, HNO.out⟩⟩
  · have HK : Hid (Kp r w w1) := hK
    have HNO : Hid (∀ u, u < 2147483648 → ¬ Starts (bytesOf s) p (vint u)) := fun v hv => hno v (by omega)
    clear hK hno HR
    go_wp2
    exact ⟨rfl, HK.out, .inr ⟨q, rfl, HNO.out⟩⟩
end Go.Proofs.Ytjidbonhhpkljaa.Ec

/- The contracts of the code's single values, read: Unzigzag, a text, ReadPlain. -/
set_option linter.unusedVariables false
namespace Go.Proofs.Ytjidbonhhpkljaa.Ec
open Go.RowKit Go.Proofs.Ytjidbonhhpkljaa.Pk Go.Proofs.Ytjidbonhhpkljaa.Pm

theorem ixor_zero (x : Nat) (hx : x < 9223372036854775808) : bits .xor .i64 (x : Int) 0 = (x : Int) := by
  show IntKind.i64.wrap (((BitVec.ofInt 64 (x : Int)) ^^^ (BitVec.ofInt 64 0)).toNat : Int) = _
  rw [BitVec.ofInt_natCast, show BitVec.ofInt 64 0 = 0#64 from rfl, BitVec.xor_zero, BitVec.toNat_ofNat, IntKind.wrap_i64]
  omega
theorem ixor_ones (x : Nat) (hx : x < 9223372036854775808) : bits .xor .i64 (x : Int) (-1) = -(x : Int) - 1 := by
  show IntKind.i64.wrap (((BitVec.ofInt 64 (x : Int)) ^^^ (BitVec.ofInt 64 (-1))).toNat : Int) = _
  rw [BitVec.ofInt_natCast, show BitVec.ofInt 64 (-1) = BitVec.allOnes 64 from by decide +kernel, BitVec.xor_allOnes, BitVec.toNat_not, BitVec.toNat_ofNat, IntKind.wrap_i64]
  omega
theorem and_one (n : Nat) (hn : n < 18446744073709551616) : bits .and .u64 (n : Int) 1 = ((n % 2 : Nat) : Int) := by
  have := bits_mask .u64 64 (by decide) wraps_u64 1 (by decide) (n : Int) (by omega) (by omega)
  rw [show (1 : Int) = 2 ^ 1 - 1 from by decide, this]
  omega

theorem unz_bits (n : Nat) (hn : n < 18446744073709551616) : bits .xor .i64 ((n : Int) / 2) (-((n : Int) % 2)) = uz n := by
  rw [show (n : Int) / 2 = ((n / 2 : Nat) : Int) from by omega]
  unfold uz
  by_cases h : n % 2 = 1
  · rw [show -((n : Int) % 2) = -1 from by omega, ixor_ones _ (by omega), if_pos h]
  · rw [show -((n : Int) % 2) = 0 from by omega, ixor_zero _ (by omega), if_neg h]

set_option maxRecDepth 100000 in
set_option maxHeartbeats 1000000 in
theorem unzigzag_any (n : Nat) (w : World) (hn : n < 18446744073709551616) : Calls Try.prog 151 #[.int .u64 (n : Int)] w fun e w' => e = .returned (.int .i64 (uz n)) ∧ w' = w := by
  have h1 := and_one n hn
  have h2 : wrap64 ((n : Int) / 2) = ((n / 2 : Nat) : Int) := by unfold wrap64; omega
  have HN : Hid (n < 18446744073709551616) := hn
  clear hn
  go_enter Try.func151, Try.ntmps151
  go_wp2
  go_ret
  exact ⟨by rw [← unz_bits n HN.out]; rfl, rfl⟩

set_option maxRecDepth 100000 in
set_option maxHeartbeats 2000000 in
/-- A text, copied. -/
theorem sclone_any (s : ByteArray) (w : World) (hs : s.size ≤ 32) : Calls Try.prog 135 #[.string s] w fun e w' => e = .returned (.string s) ∧ Below w.heap.size w w' := by
  by_cases h0 : s.size = 0
  · obtain rfl : s = ⟨#[]⟩ := ByteArray.ext (Array.eq_empty_of_size_eq_zero h0)
    go_enter Try.func135, Try.ntmps135
    go_wp2
    go_ret
    exact ⟨rfl, Below.refl _ _⟩
  · obtain ⟨i0, hi, hz0, hz1, hz2⟩ := info_parts Try.info5
    have hone : (Try.prog.info? 5).map (·.size) = some 1 := by rw [hi]; simp [hz1]
    have hcell : Try.prog.cellsOf 5 = 1 := by simp [Program.cellsOf, hi, hz1]
    obtain ⟨M, hM⟩ : ∃ M, M = madeCells (Value.int .u8 0).cells (((s.size : Nat) : Int).toNat * i0.size) := ⟨_, rfl⟩
    have hMs : M.size = s.size := by rw [hM, size_madeCells, hz1]; simp
    have hmk : ∀ W : World, (Instr.makeSlice 44 (.int .i64 (s.size : Int)) (.int .i64 (s.size : Int))).run Try.prog W = .ok (.slice (some ⟨W.heap.size, 0, none⟩) s.size s.size) (W.alloc (.cells M 5)) := fun W => by
      have h := run_make (P := Try.prog) W 44 5 i0 (.int .u8 0) Try.underlying44 hi hz0 .i64 .i64 (s.size : Int) (s.size : Int) (by omega) (by omega) (by rw [hz2]; omega) (by omega)
      rw [← hM] at h
      simpa using h
    clear hM
    have hcp := Lib.run_copy_row_string (P := Try.prog) (w.alloc (.cells M 5)) 44 9 3 5 w.heap.size 0 s.size s.size s M 5 Try.underlying44 hone (heap_alloc_new w _) (Nat.le_refl _) (by omega)
    obtain ⟨Y, hY⟩ : ∃ Y, Y = (M.toList.take 0 ++ Lib.byteCells s.data.toList ++ M.toList.drop (0 + s.size)).toArray := ⟨_, rfl⟩
    rw [← hY] at hcp
    have hYl : Y.toList = Lib.byteCells s.data.toList := by
      rw [hY, List.toList_toArray, List.take_zero, List.nil_append, List.drop_of_length_le (by rw [Array.length_toList]; omega), List.append_nil]
    have hYs : Y.size = s.size := by rw [← Array.length_toList, hYl, Lib.byteCells_length, ← Lib.size_eq]
    have hgY : ((w.alloc (.cells M 5)).setRow w.heap.size Y).heap[w.heap.size]? = some (.cells Y 5 (0, 0)) := setRow_heap _ _ M _ 5 (0, 0) (heap_alloc_new w _)
    have hne : s.data.toList ≠ [] := fun e => h0 (by rw [Lib.size_eq, e]; rfl)
    have hUS := Lib.run_unsafeString_row (P := Try.prog) ((w.alloc (.cells M 5)).setRow w.heap.size Y) 205 3 9 5 Try.underlying205 hcell w.heap.size Y.size (by unfold World.shape?; rw [hgY]) s.data.toList hne (by rw [← Lib.size_eq]; omega) (by rw [← Lib.size_eq]; omega)
      (fun j x hx => Lib.cells_of_row hgY Y.size j _ (by rw [List.take_of_length_le (by rw [Array.length_toList]; exact Nat.le_refl _), hYl]; simp [Lib.byteCells, hx]))
    rw [← Lib.size_eq] at hUS
    clear hY
    go_enter Try.func135, Try.ntmps135
    go_wp2
    go_ret
    have hb1 : Below w.heap.size w (w.alloc (.cells M 5)) := (Below.refl _ w).alloc (Nat.le_refl _) _
    have hb2 : Below w.heap.size (w.alloc (.cells M 5)) ((w.alloc (.cells M 5)).setRow w.heap.size Y) := ⟨rfl, rfl, rfl, by simp, fun k hk => setRow_other _ _ _ _ (by omega)⟩
    exact ⟨rfl, Lib.below_freeze (hb1.trans hb2) (p := ⟨w.heap.size, 0, none⟩) (Nat.le_refl _) _⟩

set_option maxRecDepth 100000 in
set_option maxHeartbeats 1000000 in
theorem clone_any (s : ByteArray) (w : World) (hs : s.size ≤ 32) : Calls Try.prog 101 #[.string s] w fun e w' => e = .returned (.string s) ∧ Below w.heap.size w w' := by
  go_enter Try.func101, Try.ntmps101
  go_wp2_with fail
  refine (sclone_any s _ hs).mono ?_
  rintro e w' ⟨rfl, hb⟩
  go_wp2
  go_ret
  exact ⟨rfl, hb⟩

set_option maxRecDepth 100000 in
set_option maxHeartbeats 2000000 in
theorem readText_any (r p : Nat) (s : ByteArray) (w : World) (hm : s.size ≤ maxLen) (hp : p ≤ s.size) (h : w.heap[r]? = some (rdr s p)) :
    Calls Try.prog 152 #[.pointer (some ⟨r, 0, none⟩)] w fun e w' => Kp r w w' ∧ ((∃ t : ByteArray, e = .returned (.string t) ∧ t.size ≤ 32 ∧ Starts (bytesOf s) p (vint t.size ++ bytesOf t) ∧ w'.heap[r]? = some (rdr s (p + (vint t.size ++ bytesOf t).length))) ∨
      (∃ q, e = .panicked (badAt q) ∧ ∀ t : ByteArray, t.size ≤ 32 → ¬ Starts (bytesOf s) p (vint t.size ++ bytesOf t))) := by
  have hrl : r < w.heap.size := lt_of_block h
  have HR : Hid (w.heap[r]? = some (rdr s p)) := h
  clear h
  go_enter Try.func152, Try.ntmps152
  go_wp2_with fail
  refine (number_rd r p s _ hm hp HR.out).mono ?_
  rintro e w1 ⟨hK1, ⟨n, rfl, hn, hs1, hl1, hR1⟩ | ⟨q, rfl, hno⟩⟩
  · have HK1 : Hid (Kp r w w1) := hK1
    have HS1 : Hid (Starts (bytesOf s) p (vint n)) := hs1
    have HR1 : Hid (w1.heap[r]? = some (rdr s (p + (vint n).length))) := hR1
    have HN : Hid (n < 2147483648) := hn
    have hsz := hK1.size
    clear hK1 hs1 hR1 hn HR
    by_cases hbig : 32 < n
    · have HNO : Hid (∀ t : ByteArray, t.size ≤ 32 → ¬ Starts (bytesOf s) p (vint t.size ++ bytesOf t)) := by
        intro t ht hst
        rw [starts_append] at hst
        have := vint_one (by omega) (by have := HN.out; omega) hst.1 HS1.out
        omega
      go_wp2_with (go_at_call 84; refine (giveUp_any r _ s _ HR1.out).mono ?_; rintro e w' ⟨rfl, rfl⟩)
      exact ⟨rfl, HK1.out, .inr ⟨_, rfl, HNO.out⟩⟩
    · by_cases hin : p + (vint n).length + n ≤ s.size
      · have hxs : (s.extract (p + (vint n).length) (p + (vint n).length + n)).size = n := by rw [ByteArray.size_extract]; omega
        have HX : Hid (bytesOf (s.extract (p + (vint n).length) (p + (vint n).length + n)) = ((bytesOf s).drop (p + (vint n).length)).take n) := by
          show _ = _
          rw [bytesOf_extract, show p + (vint n).length + n - (p + (vint n).length) = n by omega]
        have HT : Hid (∀ w, w.heap[r]? = some (rdr s (p + (vint n).length)) → Calls Try.prog 119 #[.pointer (some ⟨r, 0, none⟩), .int .i64 (n : Int)] w fun e w' => e = .returned (.string (s.extract (p + (vint n).length) (p + (vint n).length + n))) ∧ ∃ m, w' = (w.setCell ⟨r, 1, none⟩ (.int .i64 ((p + (vint n).length + n : Nat) : Int))).drewN m) :=
          fun w hw => takeN_ok r _ n s w hm hin hw
        generalize s.extract (p + (vint n).length) (p + (vint n).length + n) = x at *
        go_wp2_with (go_at_call 119; refine (HT.out _ HR1.out).mono ?_; rintro e w2 ⟨rfl, hw⟩; have HW : Hid (∃ m, w2 = (w1.setCell ⟨r, 1, none⟩ (.int .i64 ((p + (vint n).length + n : Nat) : Int))).drewN m) := hw; clear hw)
        have HR2 : Hid (w2.heap[r]? = some (rdr s (p + (vint n).length + n))) := by
          obtain ⟨m, rfl⟩ := HW.out
          exact rdr_set HR1.out m
        have HK2 : Hid (Kp r w w2) := by
          obtain ⟨m, rfl⟩ := HW.out
          exact HK1.out.set 1 _ m
        clear HW HT HR1 HK1 hsz
        refine (clone_any x _ (by omega)).mono ?_
        rintro e w3 ⟨rfl, hb⟩
        have HK3 : Hid (Kp r w w3) := HK2.out.trans (Kp.of_below hb)
        have HR3 : Hid (w3.heap[r]? = some (rdr s (p + (vint n).length + n))) := by
          show _ = _
          rw [hb.block r (lt_of_block HR2.out)]; exact HR2.out
        clear hb HK2 HR2
        go_wp2
        go_ret
        refine ⟨HK3.out, .inl ⟨x, rfl, by omega, ?_, ?_⟩⟩
        · rw [starts_append, hxs]
          refine ⟨HS1.out, ?_⟩
          rw [HX.out]
          exact List.take_prefix _ _
        · rw [List.length_append, bytesOf_length, hxs, ← Nat.add_assoc]
          exact HR3.out
      · have HNO : Hid (∀ t : ByteArray, t.size ≤ 32 → ¬ Starts (bytesOf s) p (vint t.size ++ bytesOf t)) := by
          intro t ht hst
          rw [starts_append] at hst
          have := vint_one (by omega) (by have := HN.out; omega) hst.1 HS1.out
          rw [this] at hst
          have h2 := starts_len hst.2 (by rw [bytesOf_length]; exact hl1)
          rw [bytesOf_length, bytesOf_length] at h2
          omega
        go_wp2_with (go_at_call 119; refine (takeN_bad r _ n s _ hm (by omega) hin hl1 HR1.out).mono ?_; rintro e w' ⟨rfl, m, rfl⟩)
        exact ⟨rfl, HK1.out.drewN m, .inr ⟨_, rfl, HNO.out⟩⟩
  · have HNO : Hid (∀ t : ByteArray, t.size ≤ 32 → ¬ Starts (bytesOf s) p (vint t.size ++ bytesOf t)) := by
      intro t ht hst
      rw [starts_append] at hst
      exact hno t.size (by omega) hst.1
    have HK1 : Hid (Kp r w w1) := hK1
    clear hno hK1
    go_wp2
    exact ⟨rfl, HK1.out, .inr ⟨q, rfl, HNO.out⟩⟩

theorem box_cells {w : World} {g : Nat} {a b c : Value} {t : TypeId} (h : w.heap[g]? = some (.cells #[a, b, c] t (0, 0))) :
    w.cell? ⟨g, 0, none⟩ = some a ∧ w.cell? ⟨g, 1, none⟩ = some b ∧ w.cell? ⟨g, 2, none⟩ = some c ∧ w.frozen? ⟨g, 0, none⟩ = false ∧ w.frozen? ⟨g, 1, none⟩ = false ∧ w.frozen? ⟨g, 2, none⟩ = false := by
  refine ⟨?_, ?_, ?_, ?_, ?_, ?_⟩ <;> first | simp [World.cell?, h] | simp [World.frozen?, h]

/-- A box of three cells is written anew. -/
theorem box_store {w1 : World} {g : Nat} {a b c : Value} (a' b' c' : Value) {t : TypeId} (h : w1.heap[g]? = some (.cells #[a, b, c] t (0, 0))) (r : Nat) (hr : r ≠ g) {w : World} (hK : Kp r w w1) (hg : w.heap.size ≤ g) :
    let W := ((w1.setCell ⟨g, 0, none⟩ a').setCell ⟨g, 1, none⟩ b').setCell ⟨g, 2, none⟩ c'
    W.cell? ⟨g, 0, none⟩ = some a' ∧ W.cell? ⟨g, 1, none⟩ = some b' ∧ W.cell? ⟨g, 2, none⟩ = some c' ∧ W.heap[r]? = w1.heap[r]? ∧ Kp r w W := by
  have h1 : (w1.setCell ⟨g, 0, none⟩ a').heap[g]? = some (.cells #[a', b, c] t (0, 0)) := by rw [heap_setCell_same w1 g 0 _ _ _ h]; rfl
  have h2 : ((w1.setCell ⟨g, 0, none⟩ a').setCell ⟨g, 1, none⟩ b').heap[g]? = some (.cells #[a', b', c] t (0, 0)) := by rw [heap_setCell_same _ g 1 _ _ _ h1]; rfl
  have h3 : (((w1.setCell ⟨g, 0, none⟩ a').setCell ⟨g, 1, none⟩ b').setCell ⟨g, 2, none⟩ c').heap[g]? = some (.cells #[a', b', c'] t (0, 0)) := by rw [heap_setCell_same _ g 2 _ _ _ h2]; rfl
  have h4 : ∀ k, k ≠ g → (((w1.setCell ⟨g, 0, none⟩ a').setCell ⟨g, 1, none⟩ b').setCell ⟨g, 2, none⟩ c').heap[k]? = w1.heap[k]? := by
    intro k hk
    rw [heap_setCell_other _ _ _ _ (by simpa using hk), heap_setCell_other _ _ _ _ (by simpa using hk), heap_setCell_other _ _ _ _ (by simpa using hk)]
  obtain ⟨c0, c1, c2, _⟩ := box_cells h3
  refine ⟨c0, c1, c2, h4 r hr, hK.os, hK.tape, hK.output, ?_, ?_⟩
  · simpa using hK.size
  · intro i hi hne
    rw [h4 i (by omega)]
    exact World.grownBy.block hK i hi hne

set_option maxRecDepth 100000 in
set_option maxHeartbeats 2000000 in
theorem readPlain1_any (k : Int) (hk : k = 1 ∨ k = 2 ∨ k = 3) (r p : Nat) (s : ByteArray) (w : World) (hm : s.size ≤ maxLen) (hp : p ≤ s.size) (h : w.heap[r]? = some (rdr s p)) :
    Calls Try.prog 142 #[.pointer (some ⟨r, 0, none⟩), .int .i64 k] w fun e w' => Kp r w w' ∧ ((∃ v : Val, e = .returned (.agg #[.bool v.null, .int .i64 v.n, .string v.s]) ∧ VK k v ∧ Starts (bytesOf s) p (plainB k v) ∧ p + (plainB k v).length ≤ s.size ∧ w'.heap[r]? = some (rdr s (p + (plainB k v).length))) ∨
      (∃ q, e = .panicked (badAt q) ∧ ∀ v : Val, VK k v → ¬ Starts (bytesOf s) p (plainB k v))) := by
  have hrl : r < w.heap.size := lt_of_block h
  have HR : Hid (w.heap[r]? = some (rdr s p)) := h
  have HR0 : Hid ((w.alloc (.cells #[.bool false, .int .i64 0, .string ⟨#[]⟩] 39)).heap[r]? = some (rdr s p)) := by
    show _ = _
    rw [Below.heap_alloc _ _ r hrl]; exact h
  have HKA : Hid (Kp r w (w.alloc (.cells #[.bool false, .int .i64 0, .string ⟨#[]⟩] 39))) := (Kp.refl r w).alloc _
  have hlen : ∀ xs, Starts (bytesOf s) p xs → p + xs.length ≤ s.size := fun xs hs => by have := starts_len hs (by rw [bytesOf_length]; exact hp); rwa [bytesOf_length] at this
  have HLEN : Hid (∀ xs, Starts (bytesOf s) p xs → p + xs.length ≤ s.size) := hlen
  clear h hlen
  rcases hk with rfl | rfl | rfl
  · go_enter Try.func142, Try.ntmps142
    go_wp2_with fail
    refine (varint_rd r p s _ hm hp HR0.out).mono ?_
    rintro e w1 ⟨hK1, ⟨n, rfl, hn, hs1, hR1⟩ | ⟨q, rfl, hno⟩⟩
    · have HK1 : Hid (Kp r w w1) := HKA.out.trans hK1
      have hbx : w1.heap[w.heap.size]? = some (.cells #[.bool false, .int .i64 0, .string ⟨#[]⟩] 39 (0, 0)) := Kp.block hK1 (heap_alloc_new w _) (by omega)
      obtain ⟨c0, c1, c2, f0, f1, f2⟩ := box_cells hbx
      have HBX : Hid (w1.heap[w.heap.size]? = some (.cells #[.bool false, .int .i64 0, .string ⟨#[]⟩] 39 (0, 0))) := hbx
      clear hbx
      have HR1 : Hid (w1.heap[r]? = some (rdr s (p + (vint n).length))) := hR1
      have HS1 : Hid (Starts (bytesOf s) p (vint n)) := hs1
      have HN : Hid (n < 18446744073709551616) := hn
      have HUZ : Hid (∀ w, Calls Try.prog 151 #[.int .u64 (n : Int)] w fun e w' => e = .returned (.int .i64 (uz n)) ∧ w' = w) := fun w => unzigzag_any n w hn
      clear hn hs1 hR1 hK1 HR HR0 HKA
      go_wp2_with (go_at_call 151; refine (HUZ.out _).mono ?_; rintro e w' ⟨rfl, rfl⟩)
      clear c0 c1 c2 f0 f1 f2
      obtain ⟨g0, g1, g2, g3, g4⟩ := box_store (.bool false) (.int .i64 (uz n)) (.string ⟨#[]⟩) HBX.out r (by omega) HK1.out (Nat.le_refl _)
      simp [bodyPost, results, Try.results142, go_sem, g0, g1, g2]
      have hpb : plainB 1 ⟨false, uz n, ⟨#[]⟩⟩ = vint n := by show vint (zz (uz n)) = _; rw [zz_uz]
      have hrg := uz_range n HN.out
      refine ⟨g4, ⟨false, uz n, ⟨#[]⟩⟩, ⟨rfl, rfl, rfl⟩, ⟨rfl, hrg.1, hrg.2, fun _ => rfl, fun h => by omega, fun h => by omega⟩, ?_, ?_, ?_⟩
      · rw [hpb]; exact HS1.out
      · rw [hpb]; exact HLEN.out _ HS1.out
      · rw [hpb, g3]; exact HR1.out
    · have HNO : Hid (∀ v : Val, VK 1 v → ¬ Starts (bytesOf s) p (plainB 1 v)) := fun v hv => hno (zz v.n) (zz_lt _ hv.lo hv.hi)
      have HK1 : Hid (Kp r w w1) := HKA.out.trans hK1
      clear hno hK1
      go_wp2
      exact ⟨rfl, HK1.out, .inr ⟨q, rfl, HNO.out⟩⟩
  · go_enter Try.func142, Try.ntmps142
    go_wp2_with fail
    refine (bit_any r p s _ hm hp HR0.out).mono ?_
    rintro e w1 ⟨hK1, ⟨n, rfl, hb, hs1, hR1, hl1⟩ | ⟨q, rfl, hno⟩⟩
    · have HK1 : Hid (Kp r w w1) := HKA.out.trans hK1
      have hbx : w1.heap[w.heap.size]? = some (.cells #[.bool false, .int .i64 0, .string ⟨#[]⟩] 39 (0, 0)) := Kp.block hK1 (heap_alloc_new w _) (by omega)
      obtain ⟨c0, c1, c2, f0, f1, f2⟩ := box_cells hbx
      have HBX : Hid (w1.heap[w.heap.size]? = some (.cells #[.bool false, .int .i64 0, .string ⟨#[]⟩] 39 (0, 0))) := hbx
      clear hbx
      have HR1 : Hid (w1.heap[r]? = some (rdr s (p + 1))) := hR1
      have HS1 : Hid (Starts (bytesOf s) p [n.toNat]) := hs1
      have HB : Hid (n = 0 ∨ n = 1) := hb
      clear hb hs1 hR1 hK1 HR HR0 HKA
      go_wp2
      clear c0 c1 c2 f0 f1 f2
      obtain ⟨g0, g1, g2, g3, g4⟩ := box_store (.bool false) (.int .i64 n) (.string ⟨#[]⟩) HBX.out r (by omega) HK1.out (Nat.le_refl _)
      simp [bodyPost, results, Try.results142, go_sem, g0, g1, g2]
      have hpb : plainB 2 ⟨false, n, ⟨#[]⟩⟩ = [n.toNat] := by show [byteOf n] = _; rw [byteOf_bit HB.out]
      have hb := HB.out
      refine ⟨g4, ⟨false, n, ⟨#[]⟩⟩, ⟨rfl, rfl, rfl⟩, ⟨rfl, by show _ ≤ n; omega, by show n ≤ _; omega, fun h => by omega, fun _ => ⟨hb, rfl⟩, fun h => by omega⟩, ?_, ?_, ?_⟩
      · rw [hpb]; exact HS1.out
      · rw [hpb]; exact hl1
      · rw [hpb, g3]; exact HR1.out
    · have HNO : Hid (∀ v : Val, VK 2 v → ¬ Starts (bytesOf s) p (plainB 2 v)) := fun v hv hs => hno v.n (hv.s2 rfl).1 (by rw [← byteOf_bit (hv.s2 rfl).1]; exact hs)
      have HK1 : Hid (Kp r w w1) := HKA.out.trans hK1
      clear hno hK1
      go_wp2
      exact ⟨rfl, HK1.out, .inr ⟨q, rfl, HNO.out⟩⟩
  · go_enter Try.func142, Try.ntmps142
    go_wp2_with fail
    refine (readText_any r p s _ hm hp HR0.out).mono ?_
    rintro e w1 ⟨hK1, ⟨x, rfl, hx, hs1, hR1⟩ | ⟨q, rfl, hno⟩⟩
    · have HK1 : Hid (Kp r w w1) := HKA.out.trans hK1
      have hbx : w1.heap[w.heap.size]? = some (.cells #[.bool false, .int .i64 0, .string ⟨#[]⟩] 39 (0, 0)) := Kp.block hK1 (heap_alloc_new w _) (by omega)
      obtain ⟨c0, c1, c2, f0, f1, f2⟩ := box_cells hbx
      have HBX : Hid (w1.heap[w.heap.size]? = some (.cells #[.bool false, .int .i64 0, .string ⟨#[]⟩] 39 (0, 0))) := hbx
      clear hbx
      have HR1 : Hid (w1.heap[r]? = some (rdr s (p + (vint x.size ++ bytesOf x).length))) := hR1
      have HS1 : Hid (Starts (bytesOf s) p (vint x.size ++ bytesOf x)) := hs1
      clear hs1 hR1 hK1 HR HR0 HKA
      go_wp2
      clear c0 c1 c2 f0 f1 f2
      obtain ⟨g0, g1, g2, g3, g4⟩ := box_store (.bool false) (.int .i64 0) (.string x) HBX.out r (by omega) HK1.out (Nat.le_refl _)
      simp [bodyPost, results, Try.results142, go_sem, g0, g1, g2]
      have hpb : plainB 3 ⟨false, 0, x⟩ = vint x.size ++ bytesOf x := rfl
      refine ⟨g4, ⟨false, 0, x⟩, ⟨rfl, rfl, rfl⟩, ⟨rfl, by show _ ≤ (0 : Int); omega, by show (0 : Int) ≤ _; omega, fun h => by omega, fun h => by omega, fun _ => ⟨rfl, hx⟩⟩, ?_, ?_, ?_⟩
      · rw [hpb]; exact HS1.out
      · rw [hpb]; exact HLEN.out _ HS1.out
      · rw [hpb, g3]; exact HR1.out
    · have HNO : Hid (∀ v : Val, VK 3 v → ¬ Starts (bytesOf s) p (plainB 3 v)) := fun v hv hs => hno v.s (hv.s3 rfl).2 hs
      have HK1 : Hid (Kp r w w1) := HKA.out.trans hK1
      clear hno hK1
      go_wp2
      exact ⟨rfl, HK1.out, .inr ⟨q, rfl, HNO.out⟩⟩
end Go.Proofs.Ytjidbonhhpkljaa.Ec

/- The document's reader: single values. -/
set_option linter.unusedVariables false
namespace Go.Proofs.Ytjidbonhhpkljaa.Ec
open Go.RowKit Go.Proofs.Ytjidbonhhpkljaa.Pk Go.Proofs.Ytjidbonhhpkljaa.Pm

set_option maxRecDepth 100000 in
set_option maxHeartbeats 1000000 in
theorem unzig_any (n : Nat) (w : World) (hn : n < 18446744073709551616) : Calls Try.prog 140 #[.int .u64 (n : Int)] w fun e w' => w' = w ∧ e = .returned (.int .i64 (uz n)) := by
  have HN : Hid (n < 18446744073709551616) := hn
  have h2 : wrap64 ((n : Int) / 2) = (n : Int) / 2 := by unfold wrap64; omega
  have h5 : IntKind.u64.wrap ((n : Int) / 2) = (n : Int) / 2 := by rw [wrap_u64]; omega
  by_cases h : n % 2 = 1
  · have h1 : ((n : Int) % 2 == 1) = true := by simp; omega
    have h3 : wrap64 (-((n : Int) / 2)) = -((n : Int) / 2) := by unfold wrap64; omega
    have h4 : wrap64 (-((n : Int) / 2) - 1) = -((n : Int) / 2) - 1 := by unfold wrap64; omega
    have HU : Hid (uz n = -((n : Int) / 2) - 1) := by show _ = _; unfold uz; rw [if_pos h]; omega
    clear hn h
    go_enter Try.func140, Try.ntmps140
    go_wp2
    go_ret
    exact ⟨rfl, by rw [HU.out]; exact congrArg (fun z => Ending.returned (Value.int .i64 z)) h4⟩
  · have h1 : ((n : Int) % 2 == 1) = false := by simp; omega
    have HU : Hid (uz n = (n : Int) / 2) := by show _ = _; unfold uz; rw [if_neg h]; omega
    clear hn h
    go_enter Try.func140, Try.ntmps140
    go_wp2
    go_ret
    exact ⟨rfl, by rw [HU.out]; exact congrArg (fun z => Ending.returned (Value.int .i64 z)) h2⟩

/-- A value as it may be read. -/
structure VR (v : Val) : Prop where
  there : v.null = false
  vin : VIn v
  sz : v.s.size ≤ 32

/-- Where the document's reader stands. -/
def RAt (s : ByteArray) (r : Nat) (w' : World) (P : Nat → Bool → Prop) : Prop := ∃ q b, q ≤ s.size ∧ w'.heap[r]? = some (rb s q b) ∧ P q b

theorem box_storeR {w1 : World} {g : Nat} {a b c : Value} (a' b' c' : Value) {t : TypeId} (h : w1.heap[g]? = some (.cells #[a, b, c] t (0, 0))) (r : Nat) (hr : r ≠ g) {w : World} (hK : Kp r w w1) (hg : w.heap.size ≤ g) :
    let W := ((w1.setCell ⟨g, 0, none⟩ a').setCell ⟨g, 1, none⟩ b').setCell ⟨g, 2, none⟩ c'
    W.cell? ⟨g, 0, none⟩ = some a' ∧ W.cell? ⟨g, 1, none⟩ = some b' ∧ W.cell? ⟨g, 2, none⟩ = some c' ∧ W.heap[r]? = w1.heap[r]? ∧ Kp r w W := box_store a' b' c' h r hr hK hg

set_option maxRecDepth 100000 in
set_option maxHeartbeats 2000000 in
theorem rone_any (k : Int) (hk : k = 1 ∨ k = 2 ∨ k = 3) (r p : Nat) (bad : Bool) (s : ByteArray) (w : World) (hm : s.size ≤ maxLen) (hp : p ≤ s.size) (h : w.heap[r]? = some (rb s p bad)) :
    Calls Try.prog 128 #[.pointer (some ⟨r, 0, none⟩), .int .i64 k] w fun e w' => Kp r w w' ∧ ∃ v : Val, e = .returned (.agg #[.bool v.null, .int .i64 v.n, .string v.s]) ∧ VR v ∧
      RAt s r w' (fun q b => ∀ x, VK k x → Starts (bytesOf s) p (plainB k x) → v = x ∧ q = p + (plainB k x).length ∧ b = bad) := by
  have hrl : r < w.heap.size := lt_of_block h
  have HR0 : Hid ((w.alloc (.cells #[.bool false, .int .i64 0, .string ⟨#[]⟩] 39)).heap[r]? = some (rb s p bad)) := by
    show _ = _
    rw [Below.heap_alloc _ _ r hrl]; exact h
  have HKA : Hid (Kp r w (w.alloc (.cells #[.bool false, .int .i64 0, .string ⟨#[]⟩] 39))) := (Kp.refl r w).alloc _
  clear h
  rcases hk with rfl | rfl | rfl
  · go_enter Try.func128, Try.ntmps128
    go_wp2_with fail
    refine (rword_any r p bad s _ hm hp HR0.out).mono ?_
    rintro e w1 ⟨hK1, n, q, b, rfl, hn, hq, hR1, hu⟩
    have HK1 : Hid (Kp r w w1) := HKA.out.trans hK1
    have hbx : w1.heap[w.heap.size]? = some (.cells #[.bool false, .int .i64 0, .string ⟨#[]⟩] 39 (0, 0)) := Kp.block hK1 (heap_alloc_new w _) (by omega)
    obtain ⟨c0, c1, c2, f0, f1, f2⟩ := box_cells hbx
    have HBX : Hid (w1.heap[w.heap.size]? = some (.cells #[.bool false, .int .i64 0, .string ⟨#[]⟩] 39 (0, 0))) := hbx
    have HR1 : Hid (w1.heap[r]? = some (rb s q b)) := hR1
    have HN : Hid (n < 18446744073709551616) := hn
    have HU : Hid (∀ x, x < 18446744073709551616 → Starts (bytesOf s) p (vint x) → n = x ∧ q = p + (vint x).length ∧ b = bad) := hu
    have HUZ : Hid (∀ w, Calls Try.prog 140 #[.int .u64 (n : Int)] w fun e w' => w' = w ∧ e = .returned (.int .i64 (uz n))) := fun w => unzig_any n w hn
    clear hn hu hR1 hK1 HR0 HKA hbx
    go_wp2_with (go_at_call 140; refine (HUZ.out _).mono ?_; rintro e w' ⟨hw, rfl⟩; rw [hw]; clear hw w')
    clear c0 c1 c2 f0 f1 f2
    obtain ⟨g0, g1, g2, g3, g4⟩ := box_store (.bool false) (.int .i64 (uz n)) (.string ⟨#[]⟩) HBX.out r (by omega) HK1.out (Nat.le_refl _)
    simp [bodyPost, results, Try.results128, go_sem, g0, g1, g2]
    have hrg := uz_range n HN.out
    refine ⟨g4, ⟨false, uz n, ⟨#[]⟩⟩, ⟨rfl, rfl, rfl⟩, ⟨rfl, ⟨hrg.1, hrg.2⟩, by show (⟨#[]⟩ : ByteArray).size ≤ 32; decide⟩, q, b, hq, by rw [g3]; exact HR1.out, ?_⟩
    intro x hx hs
    obtain ⟨e1, e2, e3⟩ := HU.out (zz x.n) (zz_lt _ hx.lo hx.hi) hs
    refine ⟨?_, e2, e3⟩
    have h1 := hx.there
    have h2 := hx.s1 rfl
    rw [e1, uz_zz]
    cases x
    simp at h1 h2
    simp [h1, h2]
  · go_enter Try.func128, Try.ntmps128
    go_wp2_with fail
    refine (rbyte_any r p bad s _ hm hp HR0.out).mono ?_
    rintro e w1 ⟨hK1, c, q, b, rfl, hc, hq, hR1, hin, hout⟩
    have HK1 : Hid (Kp r w w1) := HKA.out.trans hK1
    have hbx : w1.heap[w.heap.size]? = some (.cells #[.bool false, .int .i64 0, .string ⟨#[]⟩] 39 (0, 0)) := Kp.block hK1 (heap_alloc_new w _) (by omega)
    obtain ⟨c0, c1, c2, f0, f1, f2⟩ := box_cells hbx
    have HBX : Hid (w1.heap[w.heap.size]? = some (.cells #[.bool false, .int .i64 0, .string ⟨#[]⟩] 39 (0, 0))) := hbx
    have HR1 : Hid (w1.heap[r]? = some (rb s q b)) := hR1
    have HIN : Hid (p < s.size → (bytesOf s)[p]? = some c ∧ q = p + 1 ∧ b = bad) := hin
    have HC : Hid (c < 256) := hc
    clear hin hout hR1 hK1 HR0 HKA hbx hc
    go_wp2
    clear c0 c1 c2 f0 f1 f2
    obtain ⟨g0, g1, g2, g3, g4⟩ := box_store (.bool false) (.int .i64 (c : Int)) (.string ⟨#[]⟩) HBX.out r (by omega) HK1.out (Nat.le_refl _)
    simp [bodyPost, results, Try.results128, go_sem, g0, g1, g2]
    have hc := HC.out
    refine ⟨g4, ⟨false, (c : Int), ⟨#[]⟩⟩, ⟨rfl, rfl, rfl⟩, ⟨rfl, ⟨by show _ ≤ (c : Int); omega, by show (c : Int) ≤ _; omega⟩, by show (⟨#[]⟩ : ByteArray).size ≤ 32; decide⟩, q, b, hq, by rw [g3]; exact HR1.out, ?_⟩
    intro x hx hs
    have hps : p < s.size := by
      have := starts_len hs (by rw [bytesOf_length]; exact hp)
      rw [bytesOf_length] at this
      have h2 : (plainB 2 x).length = 1 := rfl
      omega
    obtain ⟨i1, i2, i3⟩ := HIN.out hps
    have hs2 : Starts (bytesOf s) p [byteOf x.n] := hs
    rw [starts_one, i1, byteOf_bit (hx.s2 rfl).1] at hs2
    simp at hs2
    have h1 := hx.there
    have h2 := (hx.s2 rfl).2
    have h3 := (hx.s2 rfl).1
    refine ⟨?_, i2, i3⟩
    cases x
    simp at h1 h2 h3 hs2
    simp [h1, h2]
    omega
  · go_enter Try.func128, Try.ntmps128
    go_wp2_with fail
    refine (rnumber_any r p 32 bad s _ (by omega) hm hp HR0.out).mono ?_
    rintro e w1 ⟨hK1, n, q, b, rfl, hn, hq, hR1, hu⟩
    have HK1 : Hid (Kp r w w1) := HKA.out.trans hK1
    have hbx : w1.heap[w.heap.size]? = some (.cells #[.bool false, .int .i64 0, .string ⟨#[]⟩] 39 (0, 0)) := Kp.block hK1 (heap_alloc_new w _) (by omega)
    have HBX : Hid (w1.heap[w.heap.size]? = some (.cells #[.bool false, .int .i64 0, .string ⟨#[]⟩] 39 (0, 0))) := hbx
    have HR1 : Hid (w1.heap[r]? = some (rb s q b)) := hR1
    have HU : Hid (∀ x, x ≤ 32 → Starts (bytesOf s) p (vint x) → n = x ∧ q = p + (vint x).length ∧ b = bad) := hu
    clear hu hR1 hK1 HR0 HKA hbx
    have HT : Hid (Calls Try.prog 126 #[.pointer (some ⟨r, 0, none⟩), .int .i64 (n : Int)] w1 fun e w' => Kp r w1 w' ∧ ∃ (t : ByteArray) (q2 : Nat) (b2 : Bool), e = .returned (.string t) ∧ t.size ≤ 32 ∧ q2 ≤ s.size ∧ w'.heap[r]? = some (rb s q2 b2) ∧ (q + n ≤ s.size → t = s.extract q (q + n) ∧ q2 = q + n ∧ b2 = b)) := by
      by_cases hin : q + n ≤ s.size
      · refine (rtake_ok r q n b s w1 hm hin HR1.out).mono ?_
        rintro e w' ⟨hK, rfl, hR⟩
        exact ⟨hK, _, q + n, b, rfl, by rw [ByteArray.size_extract]; omega, hin, hR, fun _ => ⟨rfl, rfl, rfl⟩⟩
      · refine (rtake_bad r q (n : Int) b s w1 hm (by omega) (by omega) hq (.inr (by omega)) HR1.out).mono ?_
        rintro e w' ⟨hK, rfl, hR⟩
        exact ⟨hK, _, q, true, rfl, by decide, hq, hR, fun h => absurd h hin⟩
    go_wp2_with fail
    refine HT.out.mono ?_
    rintro e w2 ⟨hK2, t, q2, b2, rfl, ht, hq2, hR2, hok⟩
    have HK2 : Hid (Kp r w w2) := HK1.out.trans hK2
    have hbx := Kp.block hK2 HBX.out (by omega)
    obtain ⟨c0, c1, c2, f0, f1, f2⟩ := box_cells hbx
    have HBX2 : Hid (w2.heap[w.heap.size]? = some (.cells #[.bool false, .int .i64 0, .string ⟨#[]⟩] 39 (0, 0))) := hbx
    have HR2 : Hid (w2.heap[r]? = some (rb s q2 b2)) := hR2
    have HOK : Hid _ := hok
    clear hok hR2 hK2 hbx HK1 HBX HT
    go_wp2
    clear c0 c1 c2 f0 f1 f2
    obtain ⟨g0, g1, g2, g3, g4⟩ := box_store (.bool false) (.int .i64 0) (.string t) HBX2.out r (by omega) HK2.out (Nat.le_refl _)
    simp [bodyPost, results, Try.results128, go_sem, g0, g1, g2]
    refine ⟨g4, ⟨false, 0, t⟩, ⟨rfl, rfl, rfl⟩, ⟨rfl, ⟨by show _ ≤ (0 : Int); omega, by show (0 : Int) ≤ _; omega⟩, ht⟩, q2, b2, hq2, by rw [g3]; exact HR2.out, ?_⟩
    intro x hx hs
    have h1 := hx.there
    have h2 := hx.s3 rfl
    have hs2 : Starts (bytesOf s) p (vint x.s.size ++ bytesOf x.s) := hs
    rw [starts_append] at hs2
    obtain ⟨e1, e2, e3⟩ := HU.out x.s.size h2.2 hs2.1
    have hlen := starts_len hs2.2 (by rw [bytesOf_length, ← e2]; exact hq)
    rw [bytesOf_length, bytesOf_length, ← e2, ← e1] at hlen
    obtain ⟨i1, i2, i3⟩ := HOK.out hlen
    have ht2 : t = x.s := by
      apply bytesOf_inj
      rw [i1, bytesOf_extract, show q + n - q = n by omega, e2]
      refine starts_same (B := bytesOf s) (p := p + (vint x.s.size).length) (List.take_prefix _ _) hs2.2 ?_
      rw [List.length_take, List.length_drop, bytesOf_length, bytesOf_length, ← e2]
      omega
    refine ⟨?_, ?_, by rw [i3, e3]⟩
    · rw [ht2]
      cases x
      simp at h1 h2
      simp [h1, h2.1]
    · show q2 = p + (vint x.s.size ++ bytesOf x.s).length
      rw [List.length_append, bytesOf_length, i2, e2, e1, Nat.add_assoc]
end Go.Proofs.Ytjidbonhhpkljaa.Ec

/- The contract of the code's readRuns. -/
set_option linter.unusedVariables false
namespace Go.Proofs.Ytjidbonhhpkljaa.Ec
open Go.RowKit Go.Proofs.Ytjidbonhhpkljaa.Pk Go.Proofs.Ytjidbonhhpkljaa.Pm

theorem own_int {w : World} {base g n cap : Nat} {zs : List Int} (h : w.ownsRow base 3 1 (.slice (some ⟨g, 0, none⟩) n cap) n (icells zs)) (hl : zs.length = n) (j : Nat) (hj : j < n) : w.cell? ⟨g, j, none⟩ = some (.int .i64 (zs.getD j 0)) := by
  subst hl
  obtain ⟨ao, b, off, c, h1, h2, h3, h4⟩ := ISl.of_owns h
  simp only [Value.slice.injEq] at h1
  obtain ⟨e1, _, _⟩ := h1
  have h5 := h2 (by omega)
  rw [h5] at e1
  simp only [Option.some.injEq, Addr.mk.injEq] at e1
  have := h4 j hj
  rw [← e1.1, ← e1.2.1, Nat.zero_add] at this
  exact this

theorem getLast_getD {zs : List Int} (h : 0 < zs.length) : zs.getLast? = some (zs.getD (zs.length - 1) 0) := by
  rw [List.getLast?_eq_getElem?, List.getD, List.getElem?_eq_getElem (by omega)]
  rfl
theorem rep_snoc (zs : List Int) (m : Nat) (b : Int) : icells (zs ++ List.replicate m b) ++ [.int .i64 b] = icells (zs ++ List.replicate (m + 1) b) := by
  rw [icells_snoc, List.append_assoc, List.replicate_succ']

set_option maxRecDepth 100000 in
set_option maxHeartbeats 8000000 in
theorem readRuns_any (s : ByteArray) (r p cn : Nat) (w : World) (hm : s.size ≤ maxLen) (hcn : cn ≤ 100) (hp : p ≤ s.size) (h : w.heap[r]? = some (rdr s p)) :
    Calls Try.prog 79 #[.pointer (some ⟨r, 0, none⟩), .int .i64 cn] w fun e w' => Kp r w w' ∧
      ((∃ (zs : List Int) (v : Value), e = .returned v ∧ zs.length = cn ∧ Bits zs ∧ Starts (bytesOf s) p (runsB zs) ∧ (∀ L : List Int, L.length = cn → Bits L → Starts (bytesOf s) p (runsB L) → L = zs) ∧ p + (runsB zs).length ≤ s.size ∧
        w'.heap[r]? = some (rdr s (p + (runsB zs).length)) ∧ w'.ownsRow w.heap.size 3 1 v zs.length (icells zs)) ∨
       (∃ q, e = .panicked (badAt q) ∧ ∀ L : List Int, L.length = cn → Bits L → ¬ Starts (bytesOf s) p (runsB L))) := by
  obtain ⟨i0, hi, hz0, hz1, hz2⟩ := info_parts Try.info3
  have hrl : r < w.heap.size := lt_of_block h
  have HR : Hid (w.heap[r]? = some (rdr s p)) := h
  clear h
  go_enter Try.func79, Try.ntmps79
  go_wp2_with (at_make; refine wpList_make_own _ rfl _ _ 22 rfl w.heap.size 3 i0 (.int .i64 0) 1 Try.underlying22 hi hz0 hz1 .i64 .i64 _ cn rfl rfl rfl (by rw [hz2]; omega) (by unfold maxLen; omega) (Nat.le_refl _) ?_; intro w0 hown0 hgrow0)
  have HK0 : Hid (Kp r w w0) := (Kp.refl r w).grown hgrow0 (by simp)
  have HR0 : Hid (w0.heap[r]? = some (rdr s p)) := by show _ = _; rw [hgrow0.block r hrl (by simp)]; exact HR.out
  clear HR hgrow0
  go_loopw [5] (fun lv wr => ∃ (zs : List Int) (R : List Nat), lv = .slice (some ⟨w.heap.size, 0, none⟩) zs.length cn ∧ RSt (bytesOf s) p cn zs R ∧ p + R.length ≤ s.size ∧ wr.heap[r]? = some (rdr s (p + R.length)) ∧
      wr.ownsRow w.heap.size 3 1 (.slice (some ⟨w.heap.size, 0, none⟩) zs.length cn) zs.length (icells zs) ∧ Kp r w wr) (fun lv _ => match lv with | .slice _ n _ => cn - n | _ => 0)
  case atStart => exact ⟨[], [], rfl, RSt.zero _ _ _, by simpa using hp, by simpa using HR0.out, hown0, HK0.out⟩
  case round =>
    clear hown0 HK0 HR0
    obtain ⟨zs, R, rfl, hS, hpl, hR, hown, hK⟩ := hrel
    have HS : Hid (RSt (bytesOf s) p cn zs R) := hS
    have HRR : Hid (wr.heap[r]? = some (rdr s (p + R.length))) := hR
    have HK : Hid (Kp r w wr) := hK
    have HO : Hid (wr.ownsRow w.heap.size 3 1 (.slice (some ⟨w.heap.size, 0, none⟩) zs.length cn) zs.length (icells zs)) := hown
    have hsz : w.heap.size ≤ wr.heap.size := hK.size
    have hle := hS.le
    clear hS hR hK hown
    by_cases hlt : zs.length < cn
    · go_wp2_with fail
      refine (number_rd r (p + R.length) s _ hm hpl HRR.out).mono ?_
      rintro e w1 ⟨hK1, ⟨n, rfl, hn, hs1, hl1, hR1⟩ | ⟨q, rfl, hno⟩⟩
      · have HK1 : Hid (Kp r w w1) := HK.out.trans hK1
        have HO1 : Hid (w1.ownsRow w.heap.size 3 1 (.slice (some ⟨w.heap.size, 0, none⟩) zs.length cn) zs.length (icells zs)) := hK1.own HO.out hrl
        have HS1 : Hid (Starts (bytesOf s) (p + R.length) (vint n)) := hs1
        have HR1 : Hid (w1.heap[r]? = some (rdr s (p + R.length + (vint n).length))) := hR1
        have HN : Hid (n < 2147483648) := hn
        clear hK1 hs1 hR1 hn HO HK HRR
        go_wp2_with fail
        refine (bit_any r (p + R.length + (vint n).length) s _ hm hl1 HR1.out).mono ?_
        rintro e w2 ⟨hK2, ⟨b, rfl, hb, hs2, hR2, hl2⟩ | ⟨q, rfl, hno⟩⟩
        · have HK2 : Hid (Kp r w w2) := HK1.out.trans hK2
          have HO2 : Hid (w2.ownsRow w.heap.size 3 1 (.slice (some ⟨w.heap.size, 0, none⟩) zs.length cn) zs.length (icells zs)) := hK2.own HO1.out hrl
          have HS2 : Hid (Starts (bytesOf s) (p + R.length + (vint n).length) [b.toNat]) := hs2
          have HR2 : Hid (w2.heap[r]? = some (rdr s (p + R.length + (vint n).length + 1))) := hR2
          have HB : Hid (b = 0 ∨ b = 1) := hb
          clear hK2 hs2 hR2 HK1 HO1 HR1 hb
          by_cases hbad : n = 0 ∨ cn - zs.length < n
          · have HNO : Hid (∀ L : List Int, L.length = cn → Bits L → ¬ Starts (bytesOf s) p (runsB L)) := by
              intro L hL hb hs
              obtain ⟨n', b', m, g1, g2, g3, g4, g5, g6, g7, g8⟩ := HS.out.next hlt L hL hb hs
              have := vint_one (by omega) (by have := HN.out; omega) g5 HS1.out
              omega
            go_wp2_with (go_at_call 84; refine (giveUp_any r _ s _ HR2.out).mono ?_; rintro e w' ⟨rfl, rfl⟩)
            all_goals exact ⟨rfl, HK2.out, .inr ⟨_, rfl, HNO.out⟩⟩
          · have hn0 : n ≠ 0 := by omega
            have hnle : n + zs.length ≤ cn := by omega
            have hnz : ((n : Int) == 0) = false := by simp; omega
            clear hbad
            by_cases hsame : 0 < zs.length ∧ zs.getD (zs.length - 1) 0 = b
            · have HNO : Hid (∀ L : List Int, L.length = cn → Bits L → ¬ Starts (bytesOf s) p (runsB L)) := by
                intro L hL hb hs
                obtain ⟨n', b', m, g1, g2, g3, g4, g5, g6, g7, g8⟩ := HS.out.next hlt L hL hb hs
                have e1 := vint_one (by omega) (by have := HN.out; omega) g5 HS1.out
                subst e1
                have e2 : b' = b := by
                  have h1 := HS2.out
                  rw [starts_one] at g6 h1
                  rw [g6] at h1
                  simp at h1
                  have := HB.out
                  omega
                rw [getLast_getD hsame.1, hsame.2, e2] at g4
                rcases g4 with g4 | g4
                · rw [g4] at hsame; simp at hsame
                · exact g4 rfl
              obtain ⟨k, hk⟩ : ∃ k, zs.length = k + 1 := ⟨zs.length - 1, by omega⟩
              have hcl := own_int HO2.out rfl k (by omega)
              have hgl : zs.getD k 0 = b := by rw [← hsame.2, hk]; rfl
              rw [hgl] at hcl
              clear hsame hgl
              have e0 : decide ((cn : Int) - (zs.length : Int) < (n : Int)) = false := by simp; omega
              have e1 : wrap64 ((cn : Int) - (zs.length : Int)) = (cn : Int) - (zs.length : Int) := by unfold wrap64; omega
              have e2 : wrap64 ((zs.length : Int) - 1) = (k : Int) := by unfold wrap64; omega
              have e3 : (k : Int) < (zs.length : Int) := by omega
              go_wp2_with (go_at_call 84; refine (giveUp_any r _ s _ HR2.out).mono ?_; rintro e w' ⟨rfl, rfl⟩)
              exact ⟨rfl, HK2.out, .inr ⟨_, rfl, HNO.out⟩⟩
            · have HL : Hid (zs = [] ∨ zs.getLast? ≠ some b) := by
                by_cases h0 : 0 < zs.length
                · right
                  rw [getLast_getD h0]
                  intro e
                  simp only [Option.some.injEq] at e
                  exact hsame ⟨h0, e⟩
                · left
                  exact List.length_eq_zero_iff.1 (by omega)
              have HMORE : Hid (RSt (bytesOf s) p cn (zs ++ List.replicate n b) (R ++ (vint n ++ [b.toNat]))) := HS.out.more hn0 (by omega) (by have := HN.out; omega) HB.out HL.out HS1.out HS2.out hcn hlt
              have e0 : decide ((cn : Int) - (zs.length : Int) < (n : Int)) = false := by simp; omega
              have e1 : wrap64 ((cn : Int) - (zs.length : Int)) = (cn : Int) - (zs.length : Int) := by unfold wrap64; omega
              have hn100 : n ≤ 100 := by omega
              clear hl1
              by_cases h0 : 0 < zs.length
              · have hcl := own_int HO2.out rfl (zs.length - 1) (by omega)
                have hgl : zs.getD (zs.length - 1) 0 ≠ b := fun e => hsame ⟨h0, e⟩
                generalize zs.getD (zs.length - 1) 0 = y at *
                have e4 : (y == b) = false := by simp; exact hgl
                clear hsame hgl
                go_wp2_with fail
                go_loopw [5, 46] (fun lv i wq => ∃ m : Nat, m ≤ n ∧ i = .int .i64 (m : Int) ∧ lv = .slice (some ⟨w.heap.size, 0, none⟩) (zs.length + m) cn ∧ wq.heap[r]? = some (rdr s (p + R.length + (vint n).length + 1)) ∧
                    wq.ownsRow w.heap.size 3 1 (.slice (some ⟨w.heap.size, 0, none⟩) (zs.length + m) cn) (zs.length + m) (icells (zs ++ List.replicate m b)) ∧ Kp r w wq) (fun _ i _ => n - (intOf i).toNat)
                case atStart => exact ⟨0, Nat.zero_le _, rfl, rfl, HR2.out, by simpa using HO2.out, HK2.out⟩
                case round =>
                  clear HR2 HO2 HK2
                  obtain ⟨m, hmn, rfl, rfl, hRq, hownq, hKq⟩ := hrel
                  have HRQ : Hid (wr.heap[r]? = some (rdr s (p + R.length + (vint n).length + 1))) := hRq
                  have HKQ : Hid (Kp r w wr) := hKq
                  have hszq := hKq.size
                  clear hRq hKq
                  by_cases hlm : m < n
                  · go_wp2_with (at_builtin; refine wpList_append_fits _ rfl _ _ 22 rfl w.heap.size 3 i0 1 Try.underlying22 hi hz1 w.heap.size (zs.length + m) cn _ rfl (hownq.alloc _) ⟨wr.heap.size, 0, none⟩ 1 1 [.int .i64 b] rfl rfl (by exact one_at _ _ _) ?c2 (by omega) ?_)
                    case c2 => intro u hu; simp at hu; subst hu; rfl
                    intro w3 hown3 hgrow3
                    have HK3 : Hid (Kp r w w3) := (HKQ.out.alloc _).grown hgrow3 (by intro g hg; simp at hg; omega)
                    have HR3 : Hid (w3.heap[r]? = some (rdr s (p + R.length + (vint n).length + 1))) := by
                      show _ = _
                      rw [hgrow3.block r (by simp; omega) (by simp; omega), Below.heap_alloc wr _ r (by omega)]
                      exact HRQ.out
                    rw [rep_snoc] at hown3
                    clear hownq hgrow3 HKQ HRQ
                    go_wp2
                    go_roundw
                    case rel => exact ⟨m + 1, by omega, by go_num, by first | rfl | (rw [Nat.add_assoc]), HR3.out, by rw [← Nat.add_assoc]; exact hown3, HK3.out⟩
                    case measure => simp [intOf]; omega
                  · obtain rfl : m = n := by omega
                    go_wp2
                    go_roundw
                    case rel => exact ⟨zs ++ List.replicate m b, R ++ (vint m ++ [b.toNat]), by simp, HMORE.out, by simp; omega, by rw [show p + (R ++ (vint m ++ [b.toNat])).length = p + R.length + (vint m).length + 1 by simp; omega]; exact HRQ.out, by simpa using hownq, HKQ.out⟩
                    case measure => simp; omega
              · obtain rfl : zs = [] := List.length_eq_zero_iff.1 (by omega)
                have hnc : n ≤ cn := by simpa using hnle
                have e6 : decide (cn < n) = false := by simp; omega
                have e7 : decide ((cn : Int) < (n : Int)) = false := by simp; omega
                have hc0 : 0 < cn := by simpa using hlt
                clear hsame h0 e0 e1 hnle hle hlt
                go_wp2_with fail
                go_loopw [5, 46] (fun lv i wq => ∃ m : Nat, m ≤ n ∧ i = .int .i64 (m : Int) ∧ lv = .slice (some ⟨w.heap.size, 0, none⟩) m cn ∧ wq.heap[r]? = some (rdr s (p + R.length + (vint n).length + 1)) ∧
                    wq.ownsRow w.heap.size 3 1 (.slice (some ⟨w.heap.size, 0, none⟩) m cn) m (icells (List.replicate m b)) ∧ Kp r w wq) (fun _ i _ => n - (intOf i).toNat)
                case atStart => exact ⟨0, Nat.zero_le _, rfl, rfl, HR2.out, HO2.out, HK2.out⟩
                case round =>
                  clear HR2 HO2 HK2
                  obtain ⟨m, hmn, rfl, rfl, hRq, hownq, hKq⟩ := hrel
                  have HRQ : Hid (wr.heap[r]? = some (rdr s (p + R.length + (vint n).length + 1))) := hRq
                  have HKQ : Hid (Kp r w wr) := hKq
                  have hszq := hKq.size
                  clear hRq hKq
                  by_cases hlm : m < n
                  · go_wp2_with (at_builtin; refine wpList_append_fits _ rfl _ _ 22 rfl w.heap.size 3 i0 1 Try.underlying22 hi hz1 w.heap.size m cn _ rfl (hownq.alloc _) ⟨wr.heap.size, 0, none⟩ 1 1 [.int .i64 b] rfl rfl (by exact one_at _ _ _) ?c2 (by omega) ?_)
                    case c2 => intro u hu; simp at hu; subst hu; rfl
                    intro w3 hown3 hgrow3
                    have HK3 : Hid (Kp r w w3) := (HKQ.out.alloc _).grown hgrow3 (by intro g hg; simp at hg; omega)
                    have HR3 : Hid (w3.heap[r]? = some (rdr s (p + R.length + (vint n).length + 1))) := by
                      show _ = _
                      rw [hgrow3.block r (by simp; omega) (by simp; omega), Below.heap_alloc wr _ r (by omega)]
                      exact HRQ.out
                    rw [show icells (List.replicate m b) ++ [.int .i64 b] = icells (List.replicate (m + 1) b) from rep_snoc [] m b] at hown3
                    clear hownq hgrow3 HKQ HRQ
                    go_wp2
                    go_roundw
                    case rel => exact ⟨m + 1, by omega, by go_num, rfl, HR3.out, hown3, HK3.out⟩
                    case measure => simp [intOf]; omega
                  · obtain rfl : m = n := by omega
                    go_wp2
                    go_roundw
                    case rel => exact ⟨List.replicate m b, R ++ (vint m ++ [b.toNat]), by simp, by simpa using HMORE.out, by simp; omega, by rw [show p + (R ++ (vint m ++ [b.toNat])).length = p + R.length + (vint m).length + 1 by simp; omega]; exact HRQ.out, by simpa using hownq, HKQ.out⟩
                    case measure => simp; omega
        · have HNO : Hid (∀ L : List Int, L.length = cn → Bits L → ¬ Starts (bytesOf s) p (runsB L)) := by
            intro L hL hb hs
            obtain ⟨n', b', m, g1, g2, g3, g4, g5, g6, g7, g8⟩ := HS.out.next hlt L hL hb hs
            have e1 := vint_one (by omega) (by have := HN.out; omega) g5 HS1.out
            subst e1
            exact hno b' g3 g6
          have HK2 : Hid (Kp r w w2) := HK1.out.trans hK2
          clear hno hK2 HK1 HO1
          go_wp2
          exact ⟨rfl, HK2.out, .inr ⟨q, rfl, HNO.out⟩⟩
      · have HNO : Hid (∀ L : List Int, L.length = cn → Bits L → ¬ Starts (bytesOf s) p (runsB L)) := by
          intro L hL hb hs
          obtain ⟨n', b', m, g1, g2, g3, g4, g5, g6, g7, g8⟩ := HS.out.next hlt L hL hb hs
          exact hno n' (by omega) g5
        have HK1 : Hid (Kp r w w1) := HK.out.trans hK1
        clear hno hK1 HK HO
        go_wp2
        exact ⟨rfl, HK1.out, .inr ⟨q, rfl, HNO.out⟩⟩
    · obtain ⟨d1, d2, d3⟩ := HS.out.done hlt
      have HD : Hid (runsB zs = R) := d2
      have HU : Hid (∀ L : List Int, L.length = cn → Bits L → Starts (bytesOf s) p (runsB L) → L = zs) := d3
      have hST : Starts (bytesOf s) p R := HS.out.st
      have HST : Hid (Starts (bytesOf s) p R) := hST
      clear d2 d3 hST
      go_wp2
      go_ret
      exact ⟨HK.out, .inl ⟨zs, _, rfl, d1, HS.out.bits, by rw [HD.out]; exact HST.out, HU.out, by rw [HD.out]; exact hpl, by rw [HD.out]; exact HRR.out, HO.out⟩⟩
end Go.Proofs.Ytjidbonhhpkljaa.Ec

/- The document's reader: runs. -/
set_option linter.unusedVariables false
namespace Go.Proofs.Ytjidbonhhpkljaa.Ec
open Go.RowKit Go.Proofs.Ytjidbonhhpkljaa.Pk Go.Proofs.Ytjidbonhhpkljaa.Pm

/-- How far the reading of runs has to go. -/
def runLeft (r cn : Nat) (lv : Value) (w : World) : Nat := match w.cell? ⟨r, 2, none⟩ with
  | some (.bool true) => 0
  | _ => match lv with
    | .slice _ n _ => cn + 1 - n
    | _ => 0

theorem runLeft_bad {w : World} {s : ByteArray} {r q cn : Nat} {lv : Value} (h : w.heap[r]? = some (rb s q true)) : runLeft r cn lv w = 0 := by
  unfold runLeft
  rw [(rb_cells h).2.2.1]
theorem runLeft_ok {w : World} {s : ByteArray} {r q cn n cap : Nat} {ao : Option Addr} (h : w.heap[r]? = some (rb s q false)) : runLeft r cn (.slice ao n cap) w = cn + 1 - n := by
  unfold runLeft
  rw [(rb_cells h).2.2.1]

set_option maxRecDepth 100000 in
set_option maxHeartbeats 4000000 in
theorem rrun_any (s : ByteArray) (r p cn : Nat) (w : World) (hm : s.size ≤ maxLen) (hcn : cn ≤ 100) (hp : p ≤ s.size) (h : w.heap[r]? = some (rb s p false)) :
    Calls Try.prog 108 #[.pointer (some ⟨r, 0, none⟩), .int .i64 cn] w fun e w' => Kp r w w' ∧ ∃ (zs : List Int) (v : Value), e = .returned v ∧ zs.length ≤ 200 ∧ (∀ z ∈ zs, 0 ≤ z ∧ z < 256) ∧ w'.ownsRow w.heap.size 3 1 v zs.length (icells zs) ∧
      RAt s r w' (fun q b => (b = false → zs.length = cn ∧ Bits zs) ∧ ∀ L : List Int, L.length = cn → Bits L → Starts (bytesOf s) p (runsB L) → zs = L ∧ q = p + (runsB L).length ∧ b = false) := by
  obtain ⟨i0, hi, hz0, hz1, hz2⟩ := info_parts Try.info3
  have hrl : r < w.heap.size := lt_of_block h
  have HR : Hid (w.heap[r]? = some (rb s p false)) := h
  clear h
  go_enter Try.func108, Try.ntmps108
  go_wp2_with fail
  go_loopw [5] (fun lv wr => ∃ (zs : List Int) (q : Nat) (b : Bool) (ao : Option Addr) (cap : Nat), lv = .slice ao zs.length cap ∧ zs.length ≤ 200 ∧ (∀ z ∈ zs, 0 ≤ z ∧ z < 256) ∧ wr.ownsRow w.heap.size 3 1 (.slice ao zs.length cap) zs.length (icells zs) ∧ q ≤ s.size ∧ wr.heap[r]? = some (rb s q b) ∧ Kp r w wr ∧
      (b = false → Bits zs) ∧ ((∃ L : List Int, L.length = cn ∧ Bits L ∧ Starts (bytesOf s) p (runsB L)) → b = false ∧ ∃ R, RSt (bytesOf s) p cn zs R ∧ q = p + R.length)) (fun lv wr => runLeft r cn lv wr)
  case atStart => exact ⟨[], p, false, none, 0, rfl, by simp, fun z hz => by simp at hz, World.ownsRow_nil _ _ _ _, hp, HR.out, Kp.refl _ _, fun _ z hz => by simp at hz, fun _ => ⟨rfl, [], RSt.zero _ _ _, by simp⟩⟩
  case round =>
    clear HR
    obtain ⟨zs, q, b, ao, cap, rfl, hzl, hzr, hown, hq, hR, hK, hbt, hG⟩ := hrel
    have HRR : Hid (wr.heap[r]? = some (rb s q b)) := hR
    have HK : Hid (Kp r w wr) := hK
    have HO : Hid (wr.ownsRow w.heap.size 3 1 (.slice ao zs.length cap) zs.length (icells zs)) := hown
    have HZR : Hid (∀ z ∈ zs, 0 ≤ z ∧ z < 256) := hzr
    have HBT : Hid (b = false → Bits zs) := hbt
    have HG : Hid ((∃ L : List Int, L.length = cn ∧ Bits L ∧ Starts (bytesOf s) p (runsB L)) → b = false ∧ ∃ R, RSt (bytesOf s) p cn zs R ∧ q = p + R.length) := hG
    have hsz := hK.size
    obtain ⟨c0, c1, c2, f0, f1, f2⟩ := rb_cells hR
    clear hR hK hown hzr hbt hG c0 c1 f0 f1
    by_cases hlt : zs.length < cn
    · cases b with
      | true =>
        have HF : Hid (¬ ∃ L : List Int, L.length = cn ∧ Bits L ∧ Starts (bytesOf s) p (runsB L)) := fun hg => by have := (HG.out hg).1; cases this
        go_wp2
        go_ret
        exact ⟨HK.out, zs, _, rfl, hzl, HZR.out, HO.out, q, true, hq, HRR.out, fun h => (by cases h), fun L h1 h2 h3 => absurd ⟨L, h1, h2, h3⟩ HF.out⟩
      | false =>
        have HRR0 : Hid (wr.heap[r]? = some (rb s q false)) := HRR.out
        go_wp2_with fail
        clear c2 f2
        refine (rnumber_any r q 100 false s _ (by omega) hm hq HRR.out).mono ?_
        rintro e w1 ⟨hK1, n, q1, b1, rfl, hn, hq1, hR1, hu1⟩
        have HK1 : Hid (Kp r w w1) := HK.out.trans hK1
        have HO1 : Hid (w1.ownsRow w.heap.size 3 1 (.slice ao zs.length cap) zs.length (icells zs)) := hK1.own HO.out hrl
        have HR1 : Hid (w1.heap[r]? = some (rb s q1 b1)) := hR1
        have HU1 : Hid _ := hu1
        clear hK1 hR1 hu1 HK HO HRR
        go_wp2_with fail
        refine (rbyte_any r q1 b1 s _ hm hq1 HR1.out).mono ?_
        rintro e w2 ⟨hK2, c, q2, b2, rfl, hc, hq2, hR2, hin2, hout2⟩
        have HK2 : Hid (Kp r w w2) := HK1.out.trans hK2
        have HO2 : Hid (w2.ownsRow w.heap.size 3 1 (.slice ao zs.length cap) zs.length (icells zs)) := hK2.own HO1.out hrl
        have HR2 : Hid (w2.heap[r]? = some (rb s q2 b2)) := hR2
        have HGOOD : Hid ((∃ L : List Int, L.length = cn ∧ Bits L ∧ Starts (bytesOf s) p (runsB L)) → n ≠ 0 ∧ c ≤ 1 ∧ b2 = false ∧ ∃ R, RSt (bytesOf s) p cn (zs ++ List.replicate n (c : Int)) R ∧ q2 = p + R.length) := by
          rintro ⟨L, hL1, hL2, hL3⟩
          obtain ⟨_, R, hS, hqR⟩ := HG.out ⟨L, hL1, hL2, hL3⟩
          obtain ⟨n', b', m, g1, g2, g3, g4, g5, g6, g7, g8⟩ := hS.next hlt L hL1 hL2 hL3
          rw [← hqR] at g5 g6
          obtain ⟨e1, e2, e3⟩ := HU1.out n' (by omega) g5
          subst e1
          rw [← e2] at g6
          have hq1s : q1 < s.size := by
            have := starts_len g6 (by rw [bytesOf_length]; exact hq1)
            rw [bytesOf_length] at this
            simp at this
            omega
          obtain ⟨i1, i2, i3⟩ := hin2 hq1s
          rw [starts_one, i1] at g6
          simp at g6
          have hcb : (c : Int) = b' := by omega
          have g5' := g5
          refine ⟨by omega, by omega, by rw [i3, e3], R ++ (vint n ++ [b'.toNat]), ?_, ?_⟩
          · rw [hcb]
            refine hS.more (by omega) g2 (by omega) g3 g4 (by rw [← hqR]; exact g5) (by rw [← hqR, ← e2, starts_one, i1, g6]) hcn hlt
          · simp
            omega
        have hsz2 := HK2.out.size
        clear hK2 hR2 hin2 hout2 HK1 HO1 HR1 HU1 HG
        by_cases hbadn : n = 0 ∨ 1 < c
        · obtain ⟨c0, c1, c2, f0, f1, f2⟩ := rb_cells HR2.out
          have HF : Hid (¬ ∃ L : List Int, L.length = cn ∧ Bits L ∧ Starts (bytesOf s) p (runsB L)) := fun hg => by obtain ⟨h1, h2, _⟩ := HGOOD.out hg; omega
          have HR3 : Hid ((w2.setCell ⟨r, 2, none⟩ (.bool true)).heap[r]? = some (rb s q2 true)) := rb_bad0 HR2.out
          have HK3 : Hid (Kp r w (w2.setCell ⟨r, 2, none⟩ (.bool true))) := HK2.out.set0
          have HO3 : Hid ((w2.setCell ⟨r, 2, none⟩ (.bool true)).ownsRow w.heap.size 3 1 (.slice ao zs.length cap) zs.length (icells zs)) := (Kp.set0 (Kp.refl r w2)).own HO2.out hrl
          clear c0 c1 f0 f1
          by_cases hn0 : n = 0
          · subst hn0
            go_wp2_with fail
            clear c2 f2
            generalize w2.setCell ⟨r, 2, none⟩ (.bool true) = w3 at *
            go_loopw [5, 8] (fun lv i wq => i = .int .i64 0 ∧ lv = .slice ao zs.length cap ∧ wq = w3) (fun _ i _ => 0 - (intOf i).toNat)
            case atStart => exact ⟨rfl, rfl, rfl⟩
            case round =>
              obtain ⟨rfl, rfl, rfl⟩ := hrel
              go_wp2_with fail
              refine ⟨⟨zs, q2, true, ao, cap, rfl, hzl, HZR.out, HO3.out, hq2, HR3.out, HK3.out, fun h => (by cases h), fun hg => absurd hg HF.out⟩, ?_⟩
              rw [runLeft_bad HR3.out, runLeft_ok HRR0.out]
              omega
          · have hc1 : 1 < c := by omega
            have hne0 : ((n : Int) == 0) = false := by simp; omega
            have hcd : decide ((1 : Int) < (c : Int)) = true := by simp; omega
            clear hbadn
            go_wp2_with fail
            clear c2 f2
            generalize w2.setCell ⟨r, 2, none⟩ (.bool true) = w3 at *
            go_loopw [5, 8] (fun lv i wq => ∃ (m : Nat) (ao : Option Addr) (cap : Nat), m ≤ n ∧ i = .int .i64 (m : Int) ∧ lv = .slice ao (zs.length + m) cap ∧ wq.ownsRow w.heap.size 3 1 (.slice ao (zs.length + m) cap) (zs.length + m) (icells (zs ++ List.replicate m (c : Int))) ∧ wq.heap[r]? = some (rb s q2 true) ∧ Kp r w wq) (fun _ i _ => n - (intOf i).toNat)
            case atStart => exact ⟨0, ao, cap, Nat.zero_le _, rfl, rfl, by simpa using HO3.out, HR3.out, HK3.out⟩
            case round =>
              clear HO3 HR3 HK3
              obtain ⟨m, ao, cap, hmn, rfl, rfl, hownq, hRq, hKq⟩ := hrel
              have HRQ : Hid (wr.heap[r]? = some (rb s q2 true)) := hRq
              have HKQ : Hid (Kp r w wr) := hKq
              have hszq := hKq.size
              clear hRq hKq
              by_cases hlm : m < n
              · go_wp2_with (at_builtin; refine wpList_append_keep _ rfl _ _ 22 rfl w.heap.size 3 i0 (.int .i64 0) 1 8 Try.underlying22 hi hz0 hz1 hz2 rfl (by decide) _ (zs.length + m) _ rfl (hownq.alloc _) ⟨wr.heap.size, 0, none⟩ 1 1 [.int .i64 (c : Int)] rfl (by decide) rfl (one_at _ _ _) (one_oneI _) (by unfold maxLen; omega) (by omega) (by simp; omega) ?_; intro v4 w4 hown4 hgr4)
                have hg4 := Grew.append hgr4
                have HK4 : Hid (Kp r w w4) := HKQ.out.grown hg4.by_ (fun g hg => (hownq.lt g hg).1)
                have HR4 : Hid (w4.heap[r]? = some (rb s q2 true)) := by
                  show _ = _
                  rw [hg4.by_.block r (by omega) (fun e => by have := (hownq.lt r e.symm).1; omega)]
                  exact HRQ.out
                rw [rep_snoc] at hown4
                obtain ⟨ao4, cap4, hv4⟩ := own_shape hown4
                subst hv4
                clear hownq hgr4 hg4 HKQ HRQ
                refine ⟨⟨m + 1, ao4, cap4, by omega, by go_num, by rw [Nat.add_assoc], by rw [← Nat.add_assoc]; exact hown4, HR4.out, HK4.out⟩, by simp [intOf]; omega⟩
              · obtain rfl : m = n := by omega
                have hmq : ∀ z ∈ zs ++ List.replicate m (c : Int), 0 ≤ z ∧ z < 256 := by
                  intro z hz
                  rcases List.mem_append.1 hz with h1 | h1
                  · exact HZR.out z h1
                  · rw [(List.mem_replicate.1 h1).2]; omega
                have HMQ : Hid _ := hmq
                clear hmq
                go_wp2_with fail
                refine ⟨⟨zs ++ List.replicate m (c : Int), q2, true, ao, cap, by simp, by simp; omega, HMQ.out, by simpa using hownq, hq2, HRQ.out, HKQ.out, ?_, ?_⟩, ?_⟩
                · intro h; cases h
                · intro hg; exact absurd hg HF.out
                · rw [runLeft_bad HRQ.out, runLeft_ok HRR0.out]; omega
        · have hn0 : n ≠ 0 := by omega
          have hc1 : c ≤ 1 := by omega
          have hne0 : ((n : Int) == 0) = false := by simp; omega
          have hcd : decide ((1 : Int) < (c : Int)) = false := by simp; omega
          have HO3 : Hid (w2.ownsRow w.heap.size 3 1 (.slice ao zs.length cap) zs.length (icells zs)) := HO2.out
          have HR3 : Hid (w2.heap[r]? = some (rb s q2 b2)) := HR2.out
          have HK3 : Hid (Kp r w w2) := HK2.out
          clear hbadn HO2 HR2 HK2
          go_wp2_with fail
          go_loopw [5, 8] (fun lv i wq => ∃ (m : Nat) (ao : Option Addr) (cap : Nat), m ≤ n ∧ i = .int .i64 (m : Int) ∧ lv = .slice ao (zs.length + m) cap ∧ wq.ownsRow w.heap.size 3 1 (.slice ao (zs.length + m) cap) (zs.length + m) (icells (zs ++ List.replicate m (c : Int))) ∧ wq.heap[r]? = some (rb s q2 b2) ∧ Kp r w wq) (fun _ i _ => n - (intOf i).toNat)
          case atStart => exact ⟨0, ao, cap, Nat.zero_le _, rfl, rfl, by simpa using HO3.out, HR3.out, HK3.out⟩
          case round =>
            clear HO3 HR3 HK3
            obtain ⟨m, ao, cap, hmn, rfl, rfl, hownq, hRq, hKq⟩ := hrel
            have HRQ : Hid (wr.heap[r]? = some (rb s q2 b2)) := hRq
            have HKQ : Hid (Kp r w wr) := hKq
            have hszq := hKq.size
            clear hRq hKq
            by_cases hlm : m < n
            · go_wp2_with (at_builtin; refine wpList_append_keep _ rfl _ _ 22 rfl w.heap.size 3 i0 (.int .i64 0) 1 8 Try.underlying22 hi hz0 hz1 hz2 rfl (by decide) _ (zs.length + m) _ rfl (hownq.alloc _) ⟨wr.heap.size, 0, none⟩ 1 1 [.int .i64 (c : Int)] rfl (by decide) rfl (one_at _ _ _) (one_oneI _) (by unfold maxLen; omega) (by omega) (by simp; omega) ?_; intro v4 w4 hown4 hgr4)
              have hg4 := Grew.append hgr4
              have HK4 : Hid (Kp r w w4) := HKQ.out.grown hg4.by_ (fun g hg => (hownq.lt g hg).1)
              have HR4 : Hid (w4.heap[r]? = some (rb s q2 b2)) := by
                show _ = _
                rw [hg4.by_.block r (by omega) (fun e => by have := (hownq.lt r e.symm).1; omega)]
                exact HRQ.out
              rw [rep_snoc] at hown4
              obtain ⟨ao4, cap4, hv4⟩ := own_shape hown4
              subst hv4
              clear hownq hgr4 hg4 HKQ HRQ
              refine ⟨⟨m + 1, ao4, cap4, by omega, by go_num, by rw [Nat.add_assoc], by rw [← Nat.add_assoc]; exact hown4, HR4.out, HK4.out⟩, by simp [intOf]; omega⟩
            · obtain rfl : m = n := by omega
              have hmq : ∀ z ∈ zs ++ List.replicate m (c : Int), 0 ≤ z ∧ z < 256 := by
                intro z hz
                rcases List.mem_append.1 hz with h1 | h1
                · exact HZR.out z h1
                · rw [(List.mem_replicate.1 h1).2]; omega
              have HMQ : Hid _ := hmq
              clear hmq
              go_wp2_with fail
              refine ⟨⟨zs ++ List.replicate m (c : Int), q2, b2, ao, cap, by simp, by simp; omega, HMQ.out, by simpa using hownq, hq2, HRQ.out, HKQ.out, ?_, ?_⟩, ?_⟩
              · intro hb z hz
                rcases List.mem_append.1 hz with h1 | h1
                · exact HBT.out (by trivial) z h1
                · rw [(List.mem_replicate.1 h1).2]; omega
              · intro hg
                obtain ⟨h1, h2, h3, h4⟩ := HGOOD.out hg
                exact ⟨h3, h4⟩
              · cases b2 with
                | true => rw [runLeft_bad HRQ.out, runLeft_ok HRR0.out]; omega
                | false => rw [runLeft_ok HRQ.out, runLeft_ok HRR0.out]; omega
    · by_cases hgt : cn < zs.length
      · have HF : Hid (¬ ∃ L : List Int, L.length = cn ∧ Bits L ∧ Starts (bytesOf s) p (runsB L)) := fun hg => by
          obtain ⟨_, R, hS, _⟩ := HG.out hg
          have := hS.le
          omega
        have HR3 : Hid ((wr.setCell ⟨r, 2, none⟩ (.bool true)).heap[r]? = some (rb s q true)) := rb_bad0 HRR.out
        have HK3 : Hid (Kp r w (wr.setCell ⟨r, 2, none⟩ (.bool true))) := HK.out.set0
        have HO3 : Hid ((wr.setCell ⟨r, 2, none⟩ (.bool true)).ownsRow w.heap.size 3 1 (.slice ao zs.length cap) zs.length (icells zs)) := (Kp.set0 (Kp.refl r wr)).own HO.out hrl
        go_wp2
        go_ret
        exact ⟨HK3.out, zs, _, rfl, hzl, HZR.out, HO3.out, q, true, hq, HR3.out, fun h => (by cases h), fun L h1 h2 h3 => absurd ⟨L, h1, h2, h3⟩ HF.out⟩
      · have HEQ : Hid (zs.length = cn) := by show _ = _; omega
        go_wp2
        go_ret
        refine ⟨HK.out, zs, _, rfl, hzl, HZR.out, HO.out, q, b, hq, HRR.out, fun hb => ⟨HEQ.out, HBT.out hb⟩, ?_⟩
        intro L h1 h2 h3
        obtain ⟨g1, R, hS, hqR⟩ := HG.out ⟨L, h1, h2, h3⟩
        obtain ⟨d1, d2, d3⟩ := hS.done hlt
        have e1 := d3 L h1 h2 h3
        subst e1
        exact ⟨rfl, by rw [d2]; exact hqR, g1⟩
end Go.Proofs.Ytjidbonhhpkljaa.Ec

/- The contracts of the code's readPlain, readDelta, valuesOf and countOnes. -/
set_option linter.unusedVariables false
namespace Go.Proofs.Ytjidbonhhpkljaa.Ec
open Go.RowKit Go.Proofs.Ytjidbonhhpkljaa.Pk Go.Proofs.Ytjidbonhhpkljaa.Pm

theorem vcells_snoc (l : List Val) (x : Val) : vcells l ++ [.bool x.null, .int .i64 x.n, .string x.s] = vcells (l ++ [x]) := by rw [vcells_append, vcells_one]

set_option maxRecDepth 100000 in
set_option maxHeartbeats 4000000 in
theorem readPlain_any (k : Int) (hk : k = 1 ∨ k = 2 ∨ k = 3) (s : ByteArray) (r p cn : Nat) (w : World) (hm : s.size ≤ maxLen) (hcn : cn ≤ 100) (hp : p ≤ s.size) (h : w.heap[r]? = some (rdr s p)) :
    Calls Try.prog 117 #[.pointer (some ⟨r, 0, none⟩), .int .i64 k, .int .i64 cn] w fun e w' => Kp r w w' ∧
      ((∃ (l : List Val) (v : Value), e = .returned v ∧ l.length = cn ∧ (∀ x ∈ l, VK k x) ∧ Starts (bytesOf s) p (plainsB k l) ∧ (∀ L : List Val, L.length = cn → (∀ x ∈ L, VK k x) → Starts (bytesOf s) p (plainsB k L) → L = l) ∧ p + (plainsB k l).length ≤ s.size ∧
        w'.heap[r]? = some (rdr s (p + (plainsB k l).length)) ∧ w'.ownsRow w.heap.size 39 3 v l.length (vcells l)) ∨
       (∃ q, e = .panicked (badAt q) ∧ ∀ L : List Val, L.length = cn → (∀ x ∈ L, VK k x) → ¬ Starts (bytesOf s) p (plainsB k L))) := by
  obtain ⟨j0, hj, hy0, hy1, hy2⟩ := info_parts Try.info39
  have hrl : r < w.heap.size := lt_of_block h
  have HR : Hid (w.heap[r]? = some (rdr s p)) := h
  clear h
  go_enter Try.func117, Try.ntmps117
  go_wp2_with (at_make; refine wpList_make_own _ rfl _ _ 30 rfl w.heap.size 39 j0 _ 3 Try.underlying30 hj hy0 hy1 .i64 .i64 _ cn rfl rfl rfl (by rw [hy2]; omega) (by unfold maxLen; omega) (Nat.le_refl _) ?_; intro w0 hown0 hgrow0)
  have HK0 : Hid (Kp r w w0) := (Kp.refl r w).grown hgrow0 (by simp)
  have HR0 : Hid (w0.heap[r]? = some (rdr s p)) := by show _ = _; rw [hgrow0.block r hrl (by simp)]; exact HR.out
  clear HR hgrow0
  go_loopw [7, 11] (fun lv i wr => ∃ l : List Val, i = .int .i64 (l.length : Int) ∧ lv = .slice (some ⟨w.heap.size, 0, none⟩) l.length cn ∧ QSt (plainsB k) (VK k) (bytesOf s) p cn l ∧ p + (plainsB k l).length ≤ s.size ∧ wr.heap[r]? = some (rdr s (p + (plainsB k l).length)) ∧
      wr.ownsRow w.heap.size 39 3 (.slice (some ⟨w.heap.size, 0, none⟩) l.length cn) l.length (vcells l) ∧ Kp r w wr) (fun _ i _ => cn - (intOf i).toNat)
  case atStart => exact ⟨[], rfl, rfl, QSt.zero rfl, by simpa [plainsB] using hp, by simpa [plainsB] using HR0.out, hown0, HK0.out⟩
  case round =>
    clear hown0 HK0 HR0
    obtain ⟨l, rfl, rfl, hS, hpl, hR, hown, hK⟩ := hrel
    have HS : Hid (QSt (plainsB k) (VK k) (bytesOf s) p cn l) := hS
    have HRR : Hid (wr.heap[r]? = some (rdr s (p + (plainsB k l).length))) := hR
    have HK : Hid (Kp r w wr) := hK
    have HO : Hid (wr.ownsRow w.heap.size 39 3 (.slice (some ⟨w.heap.size, 0, none⟩) l.length cn) l.length (vcells l)) := hown
    have hsz : w.heap.size ≤ wr.heap.size := hK.size
    have hle := hS.le
    clear hS hR hK hown
    by_cases hlt : l.length < cn
    · go_wp2_with fail
      refine (readPlain1_any k hk r (p + (plainsB k l).length) s _ hm hpl HRR.out).mono ?_
      rintro e w1 ⟨hK1, ⟨x, rfl, hx, hs1, hl1, hR1⟩ | ⟨q, rfl, hno⟩⟩
      · have HK1 : Hid (Kp r w w1) := HK.out.trans hK1
        have hown1 : w1.ownsRow w.heap.size 39 3 (.slice (some ⟨w.heap.size, 0, none⟩) l.length cn) l.length (vcells l) := hK1.own HO.out hrl
        have HMORE : Hid (QSt (plainsB k) (VK k) (bytesOf s) p cn (l ++ [x])) := HS.out.more (e := fun _ v => plainB k v) (plainsB_snoc k) hlt hx hs1 (fun y hy hs => plain_one hk hy hx hs hs1)
        have HR1 : Hid (w1.heap[r]? = some (rdr s (p + (plainsB k (l ++ [x])).length))) := by
          show _ = _
          rw [plainsB_snoc, List.length_append, ← Nat.add_assoc]; exact hR1
        have HL1 : Hid (p + (plainsB k (l ++ [x])).length ≤ s.size) := by
          show _ ≤ _
          rw [plainsB_snoc, List.length_append, ← Nat.add_assoc]; exact hl1
        have hsz1 := HK1.out.size
        clear hK1 hs1 hR1 hl1 hx HO HK HRR HS
        go_wp2_with (at_builtin; refine wpList_append_fits _ rfl _ _ 30 rfl w.heap.size 39 j0 3 Try.underlying30 hj hy1 w.heap.size l.length cn _ rfl (hown1.alloc _) ⟨w1.heap.size, 0, none⟩ 1 1 [.bool x.null, .int .i64 x.n, .string x.s] rfl rfl (by exact three_at _ _ _ _ _) (three_one x) (by omega) ?_; intro w2 hown2 hgrow2)
        have HK2 : Hid (Kp r w w2) := (HK1.out.alloc _).grown hgrow2 (by intro g hg; simp at hg; omega)
        have HR2 : Hid (w2.heap[r]? = some (rdr s (p + (plainsB k (l ++ [x])).length))) := by
          show _ = _
          rw [hgrow2.block r (by simp; omega) (by simp; omega), Below.heap_alloc w1 _ r (by omega)]
          exact HR1.out
        rw [vcells_snoc] at hown2
        clear hown1 hgrow2 HK1 HR1
        go_wp2
        go_roundw
        case rel => exact ⟨l ++ [x], by rw [List.length_append]; rfl, by rw [List.length_append]; rfl, HMORE.out, HL1.out, HR2.out, by rw [List.length_append]; exact hown2, HK2.out⟩
        case measure => simp [intOf]; omega
      · have HNO : Hid (∀ L : List Val, L.length = cn → (∀ x ∈ L, VK k x) → ¬ Starts (bytesOf s) p (plainsB k L)) := fun L hL hok => HS.out.fail (e := fun _ v => plainB k v) (plainsB_snoc k) hlt hno L hL hok
        have HK1 : Hid (Kp r w w1) := HK.out.trans hK1
        clear hno hK1 HK HO
        go_wp2
        exact ⟨rfl, HK1.out, .inr ⟨q, rfl, HNO.out⟩⟩
    · obtain ⟨d1, d3⟩ := HS.out.done hlt
      have HU : Hid (∀ L : List Val, L.length = cn → (∀ x ∈ L, VK k x) → Starts (bytesOf s) p (plainsB k L) → L = l) := d3
      have HST : Hid (Starts (bytesOf s) p (plainsB k l)) := HS.out.st
      have HD : Hid (l.length = cn) := d1
      clear d3 d1
      go_wp2
      go_ret
      exact ⟨HK.out, .inl ⟨l, _, rfl, HD.out, HS.out.oks, HST.out, HU.out, hpl, HRR.out, HO.out⟩⟩

/-- The value behind a difference. -/
def stepV (a d : Int) : Val := ⟨false, wrap64 (a + d), ⟨#[]⟩⟩
theorem stepV_ok (a d : Int) : VK 1 (stepV a d) := ⟨rfl, (wrap64_range _).1, (wrap64_range _).2, fun _ => rfl, fun h => by omega, fun h => by omega⟩
theorem stepV_enc (a : Int) (v : Val) (hv : VK 1 v) : vint (zz (wrap64 ((stepV a v.n).n - a))) = plainB 1 v := by
  show vint (zz (wrap64 (wrap64 (a + v.n) - a))) = vint (zz v.n)
  rw [wrap64_forth a v.n hv.lo hv.hi]

set_option maxRecDepth 100000 in
set_option maxHeartbeats 4000000 in
theorem readDelta_any (s : ByteArray) (r p cn : Nat) (w : World) (hm : s.size ≤ maxLen) (hcn : cn ≤ 100) (hp : p ≤ s.size) (h : w.heap[r]? = some (rdr s p)) :
    Calls Try.prog 114 #[.pointer (some ⟨r, 0, none⟩), .int .i64 cn] w fun e w' => Kp r w w' ∧
      ((∃ (l : List Val) (v : Value), e = .returned v ∧ l.length = cn ∧ (∀ x ∈ l, VK 1 x) ∧ Starts (bytesOf s) p (deltaF 0 l) ∧ (∀ L : List Val, L.length = cn → (∀ x ∈ L, VK 1 x) → Starts (bytesOf s) p (deltaF 0 L) → L = l) ∧ p + (deltaF 0 l).length ≤ s.size ∧
        w'.heap[r]? = some (rdr s (p + (deltaF 0 l).length)) ∧ w'.ownsRow w.heap.size 39 3 v l.length (vcells l)) ∨
       (∃ q, e = .panicked (badAt q) ∧ ∀ L : List Val, L.length = cn → (∀ x ∈ L, VK 1 x) → ¬ Starts (bytesOf s) p (deltaF 0 L))) := by
  obtain ⟨j0, hj, hy0, hy1, hy2⟩ := info_parts Try.info39
  have hrl : r < w.heap.size := lt_of_block h
  have HR : Hid (w.heap[r]? = some (rdr s p)) := h
  have hfd : ∀ (a b c : Value) (w : World), (Instr.field 39 (.agg #[a, b, c]) 1).run Try.prog w = .ok b w := fun _ _ _ _ => by first | rfl | kernel_rfl
  have HSN : Hid (∀ (l : List Val) (x : Val), deltaF 0 (l ++ [x]) = deltaF 0 l ++ vint (zz (wrap64 (x.n - lastF 0 l)))) := deltaF_snoc 0
  clear h
  go_enter Try.func114, Try.ntmps114
  go_wp2_with (at_make; refine wpList_make_own _ rfl _ _ 30 rfl w.heap.size 39 j0 _ 3 Try.underlying30 hj hy0 hy1 .i64 .i64 _ cn rfl rfl rfl (by rw [hy2]; omega) (by unfold maxLen; omega) (Nat.le_refl _) ?_; intro w0 hown0 hgrow0)
  have HK0 : Hid (Kp r w w0) := (Kp.refl r w).grown hgrow0 (by simp)
  have HR0 : Hid (w0.heap[r]? = some (rdr s p)) := by show _ = _; rw [hgrow0.block r hrl (by simp)]; exact HR.out
  clear HR hgrow0
  go_loopw [5, 6, 10] (fun lv la i wr => ∃ l : List Val, i = .int .i64 (l.length : Int) ∧ la = .int .i64 (lastF 0 l) ∧ lv = .slice (some ⟨w.heap.size, 0, none⟩) l.length cn ∧ QSt (deltaF 0) (VK 1) (bytesOf s) p cn l ∧ p + (deltaF 0 l).length ≤ s.size ∧ wr.heap[r]? = some (rdr s (p + (deltaF 0 l).length)) ∧
      wr.ownsRow w.heap.size 39 3 (.slice (some ⟨w.heap.size, 0, none⟩) l.length cn) l.length (vcells l) ∧ Kp r w wr) (fun _ _ i _ => cn - (intOf i).toNat)
  case atStart => exact ⟨[], rfl, rfl, rfl, QSt.zero rfl, by simpa [deltaF] using hp, by simpa [deltaF] using HR0.out, hown0, HK0.out⟩
  case round =>
    clear hown0 HK0 HR0
    obtain ⟨l, rfl, rfl, rfl, hS, hpl, hR, hown, hK⟩ := hrel
    have HS : Hid (QSt (deltaF 0) (VK 1) (bytesOf s) p cn l) := hS
    have HRR : Hid (wr.heap[r]? = some (rdr s (p + (deltaF 0 l).length))) := hR
    have HK : Hid (Kp r w wr) := hK
    have HO : Hid (wr.ownsRow w.heap.size 39 3 (.slice (some ⟨w.heap.size, 0, none⟩) l.length cn) l.length (vcells l)) := hown
    have hsz : w.heap.size ≤ wr.heap.size := hK.size
    have hle := hS.le
    clear hS hR hK hown
    by_cases hlt : l.length < cn
    · go_wp2_with fail
      refine (readPlain1_any 1 (.inl rfl) r (p + (deltaF 0 l).length) s _ hm hpl HRR.out).mono ?_
      rintro e w1 ⟨hK1, ⟨x, rfl, hx, hs1, hl1, hR1⟩ | ⟨q, rfl, hno⟩⟩
      · have HK1 : Hid (Kp r w w1) := HK.out.trans hK1
        have hown1 : w1.ownsRow w.heap.size 39 3 (.slice (some ⟨w.heap.size, 0, none⟩) l.length cn) l.length (vcells l) := hK1.own HO.out hrl
        have hen := stepV_enc (lastF 0 l) x hx
        have HMORE : Hid (QSt (deltaF 0) (VK 1) (bytesOf s) p cn (l ++ [stepV (lastF 0 l) x.n])) :=
          HS.out.more (e := fun l v => vint (zz (wrap64 (v.n - lastF 0 l)))) HSN.out hlt (stepV_ok _ _) (by show Starts _ _ (vint (zz (wrap64 ((stepV (lastF 0 l) x.n).n - lastF 0 l)))); rw [hen]; exact hs1) (fun y hy hs => delta_one hy (stepV_ok _ _) hs (by rw [hen]; exact hs1))
        have HDL : Hid ((deltaF 0 (l ++ [stepV (lastF 0 l) x.n])).length = (deltaF 0 l).length + (plainB 1 x).length) := by
          show _ = _
          rw [HSN.out, List.length_append, hen]
        have HR1 : Hid (w1.heap[r]? = some (rdr s (p + (deltaF 0 (l ++ [stepV (lastF 0 l) x.n])).length))) := by
          show _ = _
          rw [HDL.out, ← Nat.add_assoc]; exact hR1
        have HL1 : Hid (p + (deltaF 0 (l ++ [stepV (lastF 0 l) x.n])).length ≤ s.size) := by
          show _ ≤ _
          rw [HDL.out, ← Nat.add_assoc]; exact hl1
        have HLA : Hid (lastF 0 (l ++ [stepV (lastF 0 l) x.n]) = wrap64 (lastF 0 l + x.n)) := lastF_snoc _ _ _
        have HSV : Hid (∀ v, v = [Value.bool false, .int .i64 (wrap64 (lastF 0 l + x.n)), .string ⟨#[]⟩] → vcells l ++ v = vcells (l ++ [stepV (lastF 0 l) x.n])) := by
          intro v hv
          rw [hv, ← vcells_snoc]; rfl
        have hsz1 := HK1.out.size
        clear hK1 hs1 hR1 hl1 hx HO HK HRR HS hen HDL
        generalize stepV (lastF 0 l) x.n = y at *
        generalize lastF 0 l = la at *
        generalize x.n = d at *
        go_wp2_with (at_builtin; refine wpList_append_fits _ rfl _ _ 30 rfl w.heap.size 39 j0 3 Try.underlying30 hj hy1 w.heap.size l.length cn _ rfl (hown1.alloc _) ⟨w1.heap.size, 0, none⟩ 1 1 [.bool false, .int .i64 (wrap64 (la + d)), .string ⟨#[]⟩] rfl rfl (by exact three_at _ _ _ _ _) (three_one ⟨false, wrap64 (la + d), ⟨#[]⟩⟩) (by omega) ?_; intro w2 hown2 hgrow2)
        have HK2 : Hid (Kp r w w2) := (HK1.out.alloc _).grown hgrow2 (by intro g hg; simp at hg; omega)
        have HR2 : Hid (w2.heap[r]? = some (rdr s (p + (deltaF 0 (l ++ [y])).length))) := by
          show _ = _
          rw [hgrow2.block r (by simp; omega) (by simp; omega), Below.heap_alloc w1 _ r (by omega)]
          exact HR1.out
        rw [HSV.out _ rfl] at hown2
        clear hown1 hgrow2 HK1 HR1 HSV
        go_wp2
        go_roundw
        case rel => exact ⟨l ++ [y], by rw [List.length_append]; rfl, by rw [HLA.out], by rw [List.length_append]; rfl, HMORE.out, HL1.out, HR2.out, by rw [List.length_append]; exact hown2, HK2.out⟩
        case measure => simp [intOf]; omega
      · have HNO : Hid (∀ L : List Val, L.length = cn → (∀ x ∈ L, VK 1 x) → ¬ Starts (bytesOf s) p (deltaF 0 L)) := fun L hL hok => HS.out.fail (e := fun l v => vint (zz (wrap64 (v.n - lastF 0 l)))) HSN.out hlt (fun y hy hs => hno ⟨false, wrap64 (y.n - lastF 0 l), ⟨#[]⟩⟩ ⟨rfl, (wrap64_range _).1, (wrap64_range _).2, fun _ => rfl, fun h => by omega, fun h => by omega⟩ hs) L hL hok
        have HK1 : Hid (Kp r w w1) := HK.out.trans hK1
        clear hno hK1 HK HO
        go_wp2
        exact ⟨rfl, HK1.out, .inr ⟨q, rfl, HNO.out⟩⟩
    · obtain ⟨d1, d3⟩ := HS.out.done hlt
      have HU : Hid (∀ L : List Val, L.length = cn → (∀ x ∈ L, VK 1 x) → Starts (bytesOf s) p (deltaF 0 L) → L = l) := d3
      have HST : Hid (Starts (bytesOf s) p (deltaF 0 l)) := HS.out.st
      have HD : Hid (l.length = cn) := d1
      clear d3 d1
      go_wp2
      go_ret
      exact ⟨HK.out, .inl ⟨l, _, rfl, HD.out, HS.out.oks, HST.out, HU.out, hpl, HRR.out, HO.out⟩⟩

def bitV (z : Int) : Val := ⟨false, z, ⟨#[]⟩⟩

set_option maxRecDepth 100000 in
set_option maxHeartbeats 4000000 in
theorem valuesOf_any (lv : Value) (zs : List Int) (w : World) (hz : zs.length ≤ 100) (hvs : ISl w lv zs) :
    Calls Try.prog 116 #[lv] w fun e w' => Below w.heap.size w w' ∧ ∃ v, e = .returned v ∧ w'.ownsRow w.heap.size 39 3 v zs.length (vcells (zs.map bitV)) := by
  obtain ⟨j0, hj, hy0, hy1, hy2⟩ := info_parts Try.info39
  obtain ⟨ao, b, off, cap, rfl, h1, h2, h3⟩ := hvs
  have H3 : Hid (∀ j, j < zs.length → w.cell? ⟨b, off + j, none⟩ = some (.int .i64 (zs.getD j 0))) := h3
  clear h3
  go_enter Try.func116, Try.ntmps116
  go_wp2_with (at_make; refine wpList_make_own _ rfl _ _ 30 rfl w.heap.size 39 j0 _ 3 Try.underlying30 hj hy0 hy1 .i64 .i64 _ zs.length rfl rfl rfl (by rw [hy2]; omega) (by unfold maxLen; omega) (Nat.le_refl _) ?_; intro w0 hown0 hgrow0)
  have HB0 : Hid (Below w.heap.size w w0) := (Below.refl _ _).grown hgrow0 (Nat.le_refl _) (by simp)
  clear hgrow0
  go_loopw [3, 11] (fun lv i wr => ∃ k : Nat, k ≤ zs.length ∧ i = .int .i64 (k : Int) ∧ lv = .slice (some ⟨w.heap.size, 0, none⟩) k zs.length ∧ wr.ownsRow w.heap.size 39 3 (.slice (some ⟨w.heap.size, 0, none⟩) k zs.length) k (vcells ((zs.take k).map bitV)) ∧ Below w.heap.size w wr) (fun _ i _ => zs.length - (intOf i).toNat)
  case atStart => exact ⟨0, Nat.zero_le _, rfl, rfl, by simpa [vcells] using hown0, HB0.out⟩
  case round =>
    clear hown0 HB0
    obtain ⟨k, hk, rfl, rfl, hown, hB⟩ := hrel
    have HB : Hid (Below w.heap.size w wr) := hB
    have hsz := hB.size
    clear hB
    by_cases hlt : k < zs.length
    · obtain rfl := h1 (by omega)
      have hbl := h2 (by omega)
      have hck : wr.cell? ⟨b, off + k, none⟩ = some (.int .i64 (zs.getD k 0)) := (HB.out.cell (p := ⟨b, off + k, none⟩) hbl).trans (H3.out k hlt)
      have HV : Hid (vcells ((zs.take k).map bitV) ++ [.bool false, .int .i64 (zs.getD k 0), .string ⟨#[]⟩] = vcells ((zs.take (k + 1)).map bitV)) := by
        show _ = _
        rw [List.take_succ_eq_append_getElem hlt, List.map_append, List.map_singleton, ← vcells_snoc, getD_get hlt]
        rfl
      generalize zs.getD k 0 = z at *
      go_wp2_with (at_builtin; refine wpList_append_fits _ rfl _ _ 30 rfl w.heap.size 39 j0 3 Try.underlying30 hj hy1 w.heap.size k zs.length _ rfl (hown.alloc _) ⟨wr.heap.size, 0, none⟩ 1 1 [.bool false, .int .i64 z, .string ⟨#[]⟩] rfl rfl (by exact three_at _ _ _ _ _) (three_one ⟨false, z, ⟨#[]⟩⟩) (by omega) ?_; intro w2 hown2 hgrow2)
      have HB2 : Hid (Below w.heap.size w w2) := (HB.out.alloc hsz _).grown hgrow2 (by simp; omega) (by intro g hg; simp at hg; omega)
      rw [HV.out] at hown2
      clear hown hgrow2 HB hck
      go_wp2
      go_roundw
      case rel => exact ⟨k + 1, by omega, by go_num, rfl, hown2, HB2.out⟩
      case measure => simp [intOf]; omega
    · obtain rfl : k = zs.length := by omega
      rw [List.take_length] at hown
      go_wp2
      go_ret
      exact ⟨HB.out, _, rfl, hown⟩

theorem ones_le (zs : List Int) : ones zs ≤ zs.length := List.length_filter_le _ _
theorem ones_succ (zs : List Int) (hb : Bits zs) (k : Nat) (hk : k < zs.length) : ((ones (zs.take (k + 1)) : Nat) : Int) = (ones (zs.take k) : Nat) + zs.getD k 0 := by
  rw [List.take_succ_eq_append_getElem hk, getD_get hk]
  unfold ones
  rw [List.filter_append, List.length_append]
  rcases hb _ (List.getElem_mem hk) with h | h <;> simp [h]

set_option maxRecDepth 100000 in
set_option maxHeartbeats 4000000 in
theorem countOnes_any (lv : Value) (zs : List Int) (w : World) (hz : zs.length ≤ 100) (hb : Bits zs) (hvs : ISl w lv zs) :
    Calls Try.prog 81 #[lv] w fun e w' => e = .returned (.int .i64 ((ones zs : Nat) : Int)) ∧ w' = w := by
  obtain ⟨ao, b, off, cap, rfl, h1, h2, h3⟩ := hvs
  have H3 : Hid (∀ j, j < zs.length → w.cell? ⟨b, off + j, none⟩ = some (.int .i64 (zs.getD j 0))) := h3
  have HO : Hid (∀ k, k < zs.length → ((ones (zs.take (k + 1)) : Nat) : Int) = (ones (zs.take k) : Nat) + zs.getD k 0) := fun k hk => ones_succ zs hb k hk
  have HL : Hid (∀ k, ones (zs.take k) ≤ k) := fun k => by have := ones_le (zs.take k); rw [List.length_take] at this; omega
  clear h3 hb
  go_enter Try.func81, Try.ntmps81
  go_wp2_with fail
  go_loopw [3, 8] (fun c i wr => ∃ k : Nat, k ≤ zs.length ∧ i = .int .i64 (k : Int) ∧ c = .int .i64 ((ones (zs.take k) : Nat) : Int) ∧ wr = w) (fun _ i _ => zs.length - (intOf i).toNat)
  case atStart => exact ⟨0, Nat.zero_le _, rfl, by simp [ones], rfl⟩
  case round =>
    obtain ⟨k, hk, rfl, rfl, rfl⟩ := hrel
    by_cases hlt : k < zs.length
    · obtain rfl := h1 (by omega)
      have hck := H3.out k hlt
      have hok := HO.out k hlt
      have hl0 := HL.out k
      have hl1 := HL.out (k + 1)
      generalize zs.getD k 0 = z at *
      generalize ones (zs.take k) = o at *
      generalize hq : ones (zs.take (k + 1)) = q at *
      have HQ : Hid (ones (zs.take (k + 1)) = q) := hq
      clear hq
      go_wp2
      go_roundw
      case rel => exact ⟨k + 1, by omega, by go_num, by rw [HQ.out, hok], by trivial⟩
      case measure => simp [intOf]; omega
    · obtain rfl : k = zs.length := by omega
      rw [List.take_length]
      go_wp2
      go_ret
      exact ⟨rfl, rfl⟩
end Go.Proofs.Ytjidbonhhpkljaa.Ec

/- The contracts of the code's readEntries, checkPlaces and readDict. -/
set_option linter.unusedVariables false
namespace Go.Proofs.Ytjidbonhhpkljaa.Ec
open Go.RowKit Go.Proofs.Ytjidbonhhpkljaa.Pk Go.Proofs.Ytjidbonhhpkljaa.Pm

theorem chk_none_of {ps : List Nat} {k : Nat} (h : chk 0 (ps.take k) = none) : chk 0 ps = none := by rw [chk_split ps k, h]; rfl
theorem chk_far {ps : List Nat} {k t n : Nat} (h : chk 0 (ps.take k) = some t) (ht : n < t) : chk 0 ps ≠ some n := by
  rw [chk_split ps k, h]
  intro e
  have := chk_mono (show chk t (ps.drop k) = some n from e)
  omega

set_option maxRecDepth 100000 in
set_option maxHeartbeats 4000000 in
theorem checkPlaces_any (s : ByteArray) (r p n : Nat) (lv : Value) (ps : List Nat) (w : World) (hn : n ≤ 100) (hl : ps.length ≤ 100) (hpb : ∀ q ∈ ps, q < 65536) (hvs : ISl w lv (intsOf ps)) (h : w.heap[r]? = some (rdr s p)) :
    Calls Try.prog 144 #[.pointer (some ⟨r, 0, none⟩), lv, .int .i64 n] w fun e w' => w' = w ∧ ((e = .returned (.tuple #[]) ∧ chk 0 ps = some n) ∨ (∃ q, e = .panicked (badAt q) ∧ chk 0 ps ≠ some n)) := by
  have HR : Hid (w.heap[r]? = some (rdr s p)) := h
  obtain ⟨ao, b, off, cap, rfl, h1, h2, h3⟩ := hvs
  have hil : (intsOf ps).length = ps.length := by simp [intsOf]
  rw [hil] at h1 h2 ⊢
  have H3 : Hid (∀ j, (hj : j < ps.length) → w.cell? ⟨b, off + j, none⟩ = some (.int .i64 (ps[j] : Int))) := fun j hj => by
    have := h3 j (by rw [hil]; exact hj)
    rw [getD_get (by rw [hil]; exact hj)] at this
    simpa [intsOf] using this
  clear h3 h hil
  go_enter Try.func144, Try.ntmps144
  go_wp2_with fail
  go_loopw [6, 11] (fun sv i wr => ∃ k t : Nat, k ≤ ps.length ∧ i = .int .i64 (k : Int) ∧ sv = .int .i64 (t : Int) ∧ t ≤ n ∧ chk 0 (ps.take k) = some t ∧ wr = w) (fun _ i _ => ps.length - (intOf i).toNat)
  case atStart => exact ⟨0, 0, Nat.zero_le _, rfl, rfl, Nat.zero_le _, rfl, rfl⟩
  case round =>
    obtain ⟨k, t, hk, rfl, rfl, ht, hck, rfl⟩ := hrel
    have HCK : Hid (chk 0 (ps.take k) = some t) := hck
    clear hck
    by_cases hlt : k < ps.length
    · obtain rfl := h1 (by omega)
      have hcl := H3.out k hlt
      have HSU : Hid (chk 0 (ps.take (k + 1)) = if ps[k] < t then some t else if ps[k] = t then some (t + 1) else none) := chk_take_succ ps k hlt HCK.out
      have hqb := hpb _ (List.getElem_mem hlt)
      generalize ps[k] = q at *
      by_cases hbad : t < q ∨ n ≤ q
      · have HNO : Hid (chk 0 ps ≠ some n) := by
          by_cases h5 : t < q
          · have h6 := HSU.out
            rw [if_neg (by omega), if_neg (by omega)] at h6
            show _ ≠ _
            rw [chk_none_of h6]
            simp
          · have h6 := HSU.out
            rw [if_neg (by omega), if_pos (by omega)] at h6
            exact chk_far h6 (by omega)
        go_wp2_with (go_at_call 84; refine (giveUp_any r p s _ HR.out).mono ?_; rintro e w' ⟨rfl, rfl⟩)
        all_goals exact ⟨rfl, rfl, .inr ⟨_, rfl, HNO.out⟩⟩
      · by_cases hq : q = t
        · subst hq
          have HS2 : Hid (chk 0 (ps.take (k + 1)) = some (q + 1)) := by
            have h6 := HSU.out
            rw [if_neg (by omega), if_pos rfl] at h6
            exact h6
          go_wp2
          go_roundw
          case rel => exact ⟨k + 1, q + 1, by omega, by go_num, by go_num, by omega, HS2.out, by trivial⟩
          case measure => simp [intOf]; omega
        · have HS2 : Hid (chk 0 (ps.take (k + 1)) = some t) := by
            have h6 := HSU.out
            rw [if_pos (by omega)] at h6
            exact h6
          have hne : ((q : Int) == (t : Int)) = false := by simp; omega
          go_wp2
          go_roundw
          case rel => exact ⟨k + 1, t, by omega, by go_num, rfl, ht, HS2.out, by trivial⟩
          case measure => simp [intOf]; omega
    · obtain rfl : k = ps.length := by omega
      have hck := HCK.out
      rw [List.take_length] at hck
      have HC : Hid (chk 0 ps = some t) := hck
      clear hck HCK
      by_cases htn : t < n
      · have HNO : Hid (chk 0 ps ≠ some n) := by
          show _ ≠ _
          rw [HC.out]
          simp
          omega
        go_wp2_with (go_at_call 84; refine (giveUp_any r p s _ HR.out).mono ?_; rintro e w' ⟨rfl, rfl⟩)
        exact ⟨rfl, rfl, .inr ⟨_, rfl, HNO.out⟩⟩
      · obtain rfl : t = n := by omega
        go_wp2
        go_end0
        exact ⟨rfl, .inl ⟨rfl, HC.out⟩⟩

/-- What a list that is written as a dictionary has there. -/
theorem dict_parts {k : Int} {s : ByteArray} {p cn : Nat} {L : List Val} (hcn : cn ≤ 100) (hL : L.length = cn) (hok : ∀ x ∈ L, VK k x) (hs : Starts (bytesOf s) p (dictB k L)) :
    ∃ (d : List Val) (ps : List Nat), d.length ≤ cn ∧ (∀ x ∈ d, VK k x) ∧ d.Nodup ∧ ps.length = cn ∧ chk 0 ps = some d.length ∧ Starts (bytesOf s) p (vint d.length) ∧ Starts (bytesOf s) (p + (vint d.length).length) (plainsB k d) ∧
      Starts (bytesOf s) (p + (vint d.length).length + (plainsB k d).length) (packBytes (wid d.length) ps) := by
  obtain ⟨f1, f2, f3⟩ := dfold_facts L ⟨false, 0, ⟨#[]⟩⟩
  obtain ⟨g1, g2, g3, g4⟩ := dfold_ok L L.length (Nat.le_refl _)
  rw [List.take_length] at g1 g2 g3 g4
  unfold dictB at hs
  rw [starts_append, starts_append] at hs
  exact ⟨(dfold L).1, (dfold L).2, by omega, fun x hx => hok x (g4 x hx), f1, by omega, f2, hs.1, hs.2.1, hs.2.2⟩

set_option maxRecDepth 100000 in
set_option maxHeartbeats 8000000 in
theorem readEntries_any (k : Int) (hk : k = 1 ∨ k = 2 ∨ k = 3) (s : ByteArray) (r p cn : Nat) (w : World) (hm : s.size ≤ maxLen) (hcn : cn ≤ 100) (hp : p ≤ s.size) (h : w.heap[r]? = some (rdr s p)) :
    Calls Try.prog 143 #[.pointer (some ⟨r, 0, none⟩), .int .i64 k, .int .i64 cn] w fun e w' => Kp r w w' ∧
      ((∃ (d : List Val) (v : Value), e = .returned v ∧ d.length ≤ cn ∧ (∀ x ∈ d, VK k x) ∧ d.Nodup ∧ Starts (bytesOf s) p (vint d.length) ∧ Starts (bytesOf s) (p + (vint d.length).length) (plainsB k d) ∧
        (∀ D : List Val, D.length = d.length → (∀ x ∈ D, VK k x) → Starts (bytesOf s) (p + (vint d.length).length) (plainsB k D) → D = d) ∧ p + (vint d.length).length + (plainsB k d).length ≤ s.size ∧
        w'.heap[r]? = some (rdr s (p + (vint d.length).length + (plainsB k d).length)) ∧ w'.ownsRow w.heap.size 39 3 v d.length (vcells d)) ∨
       (∃ q, e = .panicked (badAt q) ∧ ∀ L : List Val, L.length = cn → (∀ x ∈ L, VK k x) → ¬ Starts (bytesOf s) p (dictB k L))) := by
  have hrl : r < w.heap.size := lt_of_block h
  have HR : Hid (w.heap[r]? = some (rdr s p)) := h
  have hmm := @run_makeMap Try.prog
  clear h
  go_enter Try.func143, Try.ntmps143
  go_wp2_with fail
  refine (number_rd r p s _ hm hp HR.out).mono ?_
  rintro e w1 ⟨hK1, ⟨n, rfl, hn, hs1, hl1, hR1⟩ | ⟨q, rfl, hno⟩⟩
  · have HK1 : Hid (Kp r w w1) := hK1
    have HS1 : Hid (Starts (bytesOf s) p (vint n)) := hs1
    have HR1 : Hid (w1.heap[r]? = some (rdr s (p + (vint n).length))) := hR1
    have HN : Hid (n < 2147483648) := hn
    have hsz1 := hK1.size
    clear hK1 hs1 hR1 hn HR
    by_cases hbig : cn < n
    · have HNO : Hid (∀ L : List Val, L.length = cn → (∀ x ∈ L, VK k x) → ¬ Starts (bytesOf s) p (dictB k L)) := by
        intro L hL hok hs
        obtain ⟨d, ps, g1, g2, g3, g4, g5, g6, g7, g8⟩ := dict_parts hcn hL hok hs
        have := vint_one (by omega) (by have := HN.out; omega) g6 HS1.out
        omega
      go_wp2_with (go_at_call 84; refine (giveUp_any r _ s _ HR1.out).mono ?_; rintro e w' ⟨rfl, rfl⟩)
      exact ⟨rfl, HK1.out, .inr ⟨_, rfl, HNO.out⟩⟩
    · go_wp2_with fail
      refine (readPlain_any k hk s r (p + (vint n).length) n _ hm (by omega) hl1 HR1.out).mono ?_
      rintro e w2 ⟨hK2, ⟨d, v, rfl, hdl, hdk, hs2, hu2, hl2, hR2, hown2⟩ | ⟨q, rfl, hno⟩⟩
      · subst hdl
        have HDK : Hid (∀ x ∈ d, VK k x) := hdk
        have HS2 : Hid (Starts (bytesOf s) (p + (vint d.length).length) (plainsB k d)) := hs2
        have HU2 : Hid (∀ D : List Val, D.length = d.length → (∀ x ∈ D, VK k x) → Starts (bytesOf s) (p + (vint d.length).length) (plainsB k D) → D = d) := hu2
        have HR2 : Hid (w2.heap[r]? = some (rdr s (p + (vint d.length).length + (plainsB k d).length))) := hR2
        have HK2 : Hid (Kp r w w2) := HK1.out.trans hK2
        have HO2 : Hid (w2.ownsRow w.heap.size 39 3 v d.length (vcells d)) := ownsRow_base hown2 hsz1
        obtain ⟨ao, b, off, cap, rfl, hr⟩ := VSl.of_owns hown2
        have HVR : Hid (VRow w2 ao b off d) := hr
        have hom := World.ownsMap_made w2 Try.prog 39 (plainElem (H := Unit) Try.prog 3)
        have hsz2 := HK2.out.size
        clear hdk hs2 hu2 hR2 hK2 hown2 hr HK1 HR1
        go_wp2_with fail
        go_loopw [28] (fun i wr => ∃ (j n : Nat) (D : DataW Unit), j ≤ d.length ∧ n ≤ j ∧ i = .int .i64 (j : Int) ∧ (d.take j).Nodup ∧ wr.ownsMap Try.prog 39 (plainElem (H := Unit) Try.prog 3) w2.heap.size n D ∧ Knows D (d.take j) ∧ Below w2.heap.size w2 wr) (fun i _ => d.length - (intOf i).toNat)
        case atStart => exact ⟨0, 0, .map [], Nat.zero_le _, Nat.le_refl _, rfl, by simp, hom, by simpa using Knows.empty, (Below.refl _ _).alloc (Nat.le_refl _) _⟩
        case round =>
          clear hom
          obtain ⟨j, n, D, hjl, hnj, rfl, hnd, hom, hkn, hbel⟩ := hrel
          have HB : Hid (Below w2.heap.size w2 wr) := hbel
          have hsz : w2.heap.size ≤ wr.heap.size := hbel.size
          have hsz1 : w2.heap.size + 1 ≤ wr.heap.size := by have := hom.lt; omega
          have HND : Hid (d.take j).Nodup := hnd
          clear hnd
          by_cases hlt : j < d.length
          · have hr := HVR.out.below hbel
            obtain rfl := hr.addr (by omega)
            have p0 := hr.c0 j hlt
            have p1 := hr.c1 j hlt
            have p2 := hr.c2 j hlt
            have HX : Hid (VOk d[j]) := (HDK.out _ (List.getElem_mem hlt)).ok hk
            have hkey := key_mk d[j] HX.out
            have HKN : Hid (Knows D (d.take j)) := hkn
            have HHAS := hkn.has d[j] HX.out
            have HTL : Hid ((d.take j).length = j) := by show _ = _; rw [List.length_take]; omega
            have HTS : Hid (d.take (j + 1) = d.take j ++ [d[j]]) := List.take_succ_eq_append_getElem hlt
            clear hr hbel hkn
            by_cases hin : idx (d.take j) d[j] < (d.take j).length
            · have HNO : Hid (∀ L : List Val, L.length = cn → (∀ x ∈ L, VK k x) → ¬ Starts (bytesOf s) p (dictB k L)) := by
                intro L hL hok hs
                obtain ⟨d', ps, g1, g2, g3, g4, g5, g6, g7, g8⟩ := dict_parts hcn hL hok hs
                have e1 := vint_one (by omega) (by have := HN.out; omega) g6 HS1.out
                rw [e1] at g7
                have e2 := HU2.out d' e1 g2 g7
                subst e2
                have hmem := (idx_mem _ _).1 hin
                obtain ⟨i, hi, e3⟩ := List.getElem_of_mem hmem
                rw [List.getElem_take] at e3
                have h5 := HTL.out
                have := nodup_inj g3 (by omega) hlt e3
                omega
              rw [decide_eq_true hin] at HHAS
              generalize d[j] = x at *
              go_wp2_with (first
                | (at_lookup; refine wpList_lookup_own_ok_int _ rfl _ _ 170 rfl 39 3 .i64 lawV Try.underlying170 Try.underlying3 (zeroI _) w2.heap.size n D rfl (hom.alloc _) _ _ rfl hkey ?_; intro c hat hwc)
                | (go_at_call 84; refine (giveUp_any r _ s _ (by rw [Below.heap_alloc _ _ r (by omega), HB.out.block r (by omega)]; exact HR2.out)).mono ?_; rintro e w' ⟨rfl, rfl⟩))
              exact ⟨rfl, HK2.out.trans (Kp.of_below (HB.out.alloc hsz _)), .inr ⟨_, rfl, HNO.out⟩⟩
            · rw [decide_eq_false hin] at HHAS
              have HND2 : Hid (d.take (j + 1)).Nodup := by
                show List.Nodup _
                rw [HTS.out, List.nodup_append]
                refine ⟨HND.out, by simp, ?_⟩
                intro a ha c hc e
                simp at hc
                subst hc
                subst e
                exact hin ((idx_mem _ _).2 ha)
              have HPUT : Hid (Knows (D.put (kl d[j]) (.lit (.int .i64 (j : Int)))) (d.take (j + 1))) := by
                have := HKN.out.put d[j] HX.out hin
                rw [HTL.out] at this
                show Knows _ _
                rw [HTS.out]
                exact this
              have hmb : some wr.heap.size ≠ some w2.heap.size := by simp; omega
              have hal : ∀ o : Obj, (wr.alloc o).heap.size = wr.heap.size + 1 := fun o => by simp
              clear HKN HND HTS
              generalize d[j] = x at *
              go_wp2_with (first
                | (at_lookup; refine wpList_lookup_own_ok_int _ rfl _ _ 170 rfl 39 3 .i64 lawV Try.underlying170 Try.underlying3 (zeroI _) w2.heap.size n D rfl (hom.alloc _) _ _ rfl hkey ?_; intro c hat hwc)
                | (at_mapUpdate; refine wpList_mapUpdate_own _ rfl _ _ _ 170 rfl 39 3 lawV Try.underlying170 _ w2.heap.size n D rfl (hom.alloc _) ?_ _ _ _ rfl rfl hkey _ [] (plainElem_int Try.underlying3 (wf_i64 _ (by omega) (by omega))) ?_; (unfold maxLen; omega); intro w3 hom3 hgm))
              have hb3 : Below w2.heap.size w2 w3 := (HB.out.alloc hsz _).grown hgm (by rw [hal]; omega) (fun g hg => by cases hg; exact Nat.le_refl _)
              refine ⟨⟨j + 1, n + 1, _, by omega, by omega, by simp, HND2.out, hom3, HPUT.out, hb3⟩, by simp [intOf]; omega⟩
          · obtain rfl : j = d.length := by omega
            have hnd := HND.out
            rw [List.take_length] at hnd
            have HND2 : Hid d.Nodup := hnd
            clear hnd HND hkn hbel hom
            go_wp2
            go_ret
            exact ⟨HK2.out.trans (Kp.of_below HB.out), .inl ⟨d, _, rfl, by omega, HDK.out, HND2.out, HS1.out, HS2.out, HU2.out, hl2, by rw [HB.out.block r (by omega)]; exact HR2.out, ownsRow_below HO2.out HB.out⟩⟩
      · have HNO : Hid (∀ L : List Val, L.length = cn → (∀ x ∈ L, VK k x) → ¬ Starts (bytesOf s) p (dictB k L)) := by
          intro L hL hok hs
          obtain ⟨d, ps, g1, g2, g3, g4, g5, g6, g7, g8⟩ := dict_parts hcn hL hok hs
          have := vint_one (by omega) (by have := HN.out; omega) g6 HS1.out
          rw [this] at g7
          exact hno d this g2 g7
        have HK2 : Hid (Kp r w w2) := HK1.out.trans hK2
        clear hno hK2 HK1
        go_wp2
        exact ⟨rfl, HK2.out, .inr ⟨q, rfl, HNO.out⟩⟩
  · have HNO : Hid (∀ L : List Val, L.length = cn → (∀ x ∈ L, VK k x) → ¬ Starts (bytesOf s) p (dictB k L)) := by
      intro L hL hok hs
      obtain ⟨d, ps, g1, g2, g3, g4, g5, g6, g7, g8⟩ := dict_parts hcn hL hok hs
      exact hno d.length (by omega) g6
    have HK1 : Hid (Kp r w w1) := hK1
    clear hno hK1
    go_wp2
    exact ⟨rfl, HK1.out, .inr ⟨q, rfl, HNO.out⟩⟩
end Go.Proofs.Ytjidbonhhpkljaa.Ec

/- The contract of the code's readDict. -/
set_option linter.unusedVariables false
namespace Go.Proofs.Ytjidbonhhpkljaa.Ec
open Go.RowKit Go.Proofs.Ytjidbonhhpkljaa.Pk Go.Proofs.Ytjidbonhhpkljaa.Pm

theorem getD_val (d : List Val) (z : Val) (q : Nat) (h : q < d.length) : d.getD q z = d[q] := by simp [List.getD, h]
theorem ISl.below {w w' : World} {v : Value} {zs : List Int} (h : ISl w v zs) (hb : Below w.heap.size w w') : ISl w' v zs := by
  obtain ⟨ao, b, off, cap, rfl, h1, h2, h3⟩ := h
  exact ⟨ao, b, off, cap, rfl, h1, fun h0 => Nat.lt_of_lt_of_le (h2 h0) hb.size, fun j hj => (hb.cell (p := ⟨b, off + j, none⟩) (h2 (by omega))).trans (h3 j hj)⟩

set_option maxRecDepth 100000 in
set_option maxHeartbeats 8000000 in
theorem readDict_any (k : Int) (hk : k = 1 ∨ k = 2 ∨ k = 3) (s : ByteArray) (r p cn : Nat) (w : World) (hm : s.size ≤ maxLen) (hcn : cn ≤ 100) (hp : p ≤ s.size) (h : w.heap[r]? = some (rdr s p)) :
    Calls Try.prog 115 #[.pointer (some ⟨r, 0, none⟩), .int .i64 k, .int .i64 cn] w fun e w' => Kp r w w' ∧
      ((∃ (l : List Val) (v : Value), e = .returned v ∧ l.length = cn ∧ (∀ x ∈ l, VK k x) ∧ Starts (bytesOf s) p (dictB k l) ∧ (∀ L : List Val, L.length = cn → (∀ x ∈ L, VK k x) → Starts (bytesOf s) p (dictB k L) → L = l) ∧ p + (dictB k l).length ≤ s.size ∧
        w'.heap[r]? = some (rdr s (p + (dictB k l).length)) ∧ w'.ownsRow w.heap.size 39 3 v l.length (vcells l)) ∨
       (∃ q, e = .panicked (badAt q) ∧ ∀ L : List Val, L.length = cn → (∀ x ∈ L, VK k x) → ¬ Starts (bytesOf s) p (dictB k L))) := by
  obtain ⟨j0, hj, hy0, hy1, hy2⟩ := info_parts Try.info39
  have hrl : r < w.heap.size := lt_of_block h
  have HR : Hid (w.heap[r]? = some (rdr s p)) := h
  clear h
  go_enter Try.func115, Try.ntmps115
  go_wp2_with fail
  refine (readEntries_any k hk s r p cn _ hm hcn hp HR.out).mono ?_
  rintro e w1 ⟨hK1, ⟨d, v, rfl, hdl, hdk, hnd, hs1, hs2, hu2, hl2, hR1, hown1⟩ | ⟨q, rfl, hno⟩⟩
  · have HK1 : Hid (Kp r w w1) := hK1
    have HS1 : Hid (Starts (bytesOf s) p (vint d.length)) := hs1
    have HS2 : Hid (Starts (bytesOf s) (p + (vint d.length).length) (plainsB k d)) := hs2
    have HU2 : Hid (∀ D : List Val, D.length = d.length → (∀ x ∈ D, VK k x) → Starts (bytesOf s) (p + (vint d.length).length) (plainsB k D) → D = d) := hu2
    have HR1 : Hid (w1.heap[r]? = some (rdr s (p + (vint d.length).length + (plainsB k d).length))) := hR1
    have HDK : Hid (∀ x ∈ d, VK k x) := hdk
    have HND : Hid d.Nodup := hnd
    have HO1 : Hid (w1.ownsRow w.heap.size 39 3 v d.length (vcells d)) := hown1
    have hsz1 := hK1.size
    obtain ⟨vao, vcap, rfl⟩ := own_shape hown1
    have HP3 : Hid (p + (vint d.length).length + (plainsB k d).length ≤ s.size) := hl2
    generalize hP : p + (vint d.length).length + (plainsB k d).length = P at *
    have HP : Hid (p + (vint d.length).length + (plainsB k d).length = P) := hP
    have HW : Hid (∀ w, Calls Try.prog 107 #[.int .i64 (d.length : Int)] w fun e w' => e = .returned (.int .i64 (wid d.length)) ∧ w' = w) := fun w => widthOf_any d.length (by omega) w
    clear hK1 hs1 hs2 hu2 hR1 hdk hnd hown1 HR hP hl2
    have hwl := wid_le d.length
    go_wp2_with (go_at_call 107; refine (HW.out _).mono ?_; rintro e w' ⟨rfl, hw⟩; rw [hw]; clear hw w')
    refine (readPacked_any s r P (wid d.length) cn _ hm (by omega) hcn HP3.out HR1.out).mono ?_
    rintro e w2 ⟨hK2, ⟨rfl, hok, hR2, hown2⟩ | ⟨q, rfl, hno⟩⟩
    · have HS3 : Hid (Starts (bytesOf s) P (packBytes (wid d.length) (D (wid d.length) (restV s P) cn))) := packed_starts s P _ cn HP3.out hok
      have HUP : Hid (∀ ps : List Nat, ps.length = cn → (∀ x ∈ ps, x < 2 ^ wid d.length) → Starts (bytesOf s) P (packBytes (wid d.length) ps) → ps = D (wid d.length) (restV s P) cn) := by
        intro ps h1 h2 h3
        have := (packed_reads s P _ ps HP3.out h2 h3).2
        rw [h1] at this
        exact this.symm
      have hpl : (D (wid d.length) (restV s P) cn).length = cn := D_length _ _ _
      have hpb : ∀ q ∈ D (wid d.length) (restV s P) cn, q < 65536 := fun q hq => by
        have h1 := D_lt _ _ _ q hq
        have h2 : 2 ^ wid d.length ≤ 2 ^ 7 := Nat.pow_le_pow_right (by omega) hwl
        omega
      generalize D (wid d.length) (restV s P) cn = ps at *
      have hil : (intsOf ps).length = cn := by rw [← hpl]; simp [intsOf]
      have HPL : Hid (ps.length = cn) := hpl
      have HPB : Hid (∀ q ∈ ps, q < 65536) := hpb
      have HIS : Hid (ISl w2 (.slice (some ⟨w1.heap.size, 0, none⟩) cn cn) (intsOf ps)) := ISl.of_owns (by rw [hil]; exact hown2)
      have HK2 : Hid (Kp r w w2) := HK1.out.trans hK2
      have HO2 : Hid (w2.ownsRow w.heap.size 39 3 (.slice vao d.length vcap) d.length (vcells d)) := hK2.own HO1.out hrl
      have HR2 : Hid (w2.heap[r]? = some (rdr s (P + (cn * wid d.length + 7) / 8))) := hR2
      have hsz2 := HK2.out.size
      clear hK2 hR2 hown2 hok HK1 HO1 HR1 hpl hpb hil
      generalize hM : P + (cn * wid d.length + 7) / 8 = M at *
      have HM : Hid (P + (cn * wid d.length + 7) / 8 = M) := hM
      clear hM hwl
      go_wp2_with fail
      refine (checkPlaces_any s r M d.length _ ps _ (by omega) (by rw [HPL.out]; omega) HPB.out HIS.out HR2.out).mono ?_
      rintro e w' ⟨hw, ⟨rfl, hck⟩ | ⟨q, rfl, hno⟩⟩
      · rw [hw]
        clear hw w'
        have HCK : Hid (chk 0 ps = some d.length) := hck
        have HG : Hid _ := dict_good hk (s := s) (p := p) (cn := cn) (n := d.length) (d := d) (ps := ps) ⟨false, 0, ⟨#[]⟩⟩ hcn hdl rfl HDK.out HND.out HPL.out hck HS1.out HS2.out (by rw [HP.out]; exact HS3.out) HU2.out (by rw [HP.out]; exact HP3.out)
        have HLT : Hid (∀ j, (hj : j < ps.length) → ps[j] < d.length) := fun j hj => chk_lt hck _ (List.getElem_mem hj)
        clear hck
        have HVS : Hid (VSl w2 (.slice vao d.length vcap) d) := VSl.of_owns HO2.out
        obtain ⟨iao, ib, ioff, icap, ie, i1, i2, i3⟩ := HIS.out
        simp only [Value.slice.injEq] at ie
        obtain ⟨ie1, ie2, ie3⟩ := ie
        rw [← ie2] at i1 i2 i3
        have HI3 : Hid (∀ j, (hj : j < ps.length) → w2.cell? ⟨ib, ioff + j, none⟩ = some (.int .i64 (ps[j] : Int))) := fun j hj => by
          have h1 := i3 j (by rw [← HPL.out]; exact hj)
          have hil : (intsOf ps).length = ps.length := by simp [intsOf]
          rw [getD_get (by rw [hil]; exact hj)] at h1
          simpa [intsOf] using h1
        have HI2 : Hid (0 < cn → ib < w2.heap.size) := i2
        have HI1 : Hid (0 < cn → (some (⟨w1.heap.size, 0, none⟩ : Addr)) = some ⟨ib, ioff, none⟩) := fun h0 => by rw [ie1]; exact i1 h0
        obtain ⟨ao, b, off, cap, ve, hvr⟩ := HVS.out
        simp only [Value.slice.injEq] at ve
        obtain ⟨rfl, _, rfl⟩ := ve
        have HVR : Hid (VRow w2 vao b off d) := hvr
        clear i1 i2 i3 hvr HVS HIS ie1 ie2 ie3
        go_wp2_with (at_make; refine wpList_make_own _ rfl _ _ 30 rfl w2.heap.size 39 j0 _ 3 Try.underlying30 hj hy0 hy1 .i64 .i64 _ cn rfl rfl rfl (by rw [hy2]; omega) (by unfold maxLen; omega) (Nat.le_refl _) ?_; intro w3 hown3 hgrow3)
        have HB3 : Hid (Below w2.heap.size w2 w3) := (Below.refl _ _).grown hgrow3 (Nat.le_refl _) (by simp)
        clear hgrow3
        go_loopw [9, 31] (fun lv i wr => ∃ j : Nat, j ≤ cn ∧ i = .int .i64 (j : Int) ∧ lv = .slice (some ⟨w2.heap.size, 0, none⟩) j cn ∧ wr.ownsRow w2.heap.size 39 3 (.slice (some ⟨w2.heap.size, 0, none⟩) j cn) j (vcells ((ps.take j).map fun q => d.getD q ⟨false, 0, ⟨#[]⟩⟩)) ∧ Below w2.heap.size w2 wr) (fun _ i _ => cn - (intOf i).toNat)
        case atStart => exact ⟨0, Nat.zero_le _, rfl, rfl, by simpa [vcells] using hown3, HB3.out⟩
        case round =>
          clear hown3 HB3
          obtain ⟨j, hjc, rfl, rfl, hown, hB⟩ := hrel
          have HB : Hid (Below w2.heap.size w2 wr) := hB
          have hsz := hB.size
          clear hB
          by_cases hlt : j < cn
          · have hjp : j < ps.length := by rw [HPL.out]; exact hlt
            have hq := HLT.out j hjp
            have he1 := HI1.out (by omega)
            have hibl := HI2.out (by omega)
            have hck : wr.cell? ⟨ib, ioff + j, none⟩ = some (.int .i64 (ps[j] : Int)) := (HB.out.cell (p := ⟨ib, ioff + j, none⟩) hibl).trans (HI3.out j hjp)
            have hr := HVR.out.below HB.out
            obtain rfl := hr.addr (by omega)
            have p0 := hr.c0 ps[j] hq
            have p1 := hr.c1 ps[j] hq
            have p2 := hr.c2 ps[j] hq
            have HV : Hid (∀ x : Val, d[ps[j]] = x → vcells ((ps.take j).map fun q => d.getD q ⟨false, 0, ⟨#[]⟩⟩) ++ [.bool x.null, .int .i64 x.n, .string x.s] = vcells ((ps.take (j + 1)).map fun q => d.getD q ⟨false, 0, ⟨#[]⟩⟩)) := by
              intro x hx
              rw [List.take_succ_eq_append_getElem hjp, List.map_append, List.map_singleton, ← vcells_snoc, getD_val d _ _ hq, hx]
            simp only [Option.some.injEq, Addr.mk.injEq] at he1
            obtain ⟨hb1, hb2, _⟩ := he1
            subst hb1
            subst hb2
            rw [Nat.zero_add] at hck
            generalize hx : d[ps[j]] = x at *
            have HX := HV.out x rfl
            have HXX : Hid _ := HX
            clear HX HV hx hr
            generalize ps[j] = q at *
            go_wp2_with (at_builtin; refine wpList_append_fits _ rfl _ _ 30 rfl w2.heap.size 39 j0 3 Try.underlying30 hj hy1 w2.heap.size j cn _ rfl (hown.alloc _) ⟨wr.heap.size, 0, none⟩ 1 1 [.bool x.null, .int .i64 x.n, .string x.s] rfl rfl (by exact three_at _ _ _ _ _) (three_one x) (by omega) ?_; intro w4 hown4 hgrow4)
            have HB4 : Hid (Below w2.heap.size w2 w4) := (HB.out.alloc hsz _).grown hgrow4 (by simp; omega) (by intro g hg; simp at hg; omega)
            rw [HXX.out] at hown4
            clear hown hgrow4 HB hck p0 p1 p2
            go_wp2
            go_roundw
            case rel => exact ⟨j + 1, by omega, by go_num, rfl, hown4, HB4.out⟩
            case measure => simp [intOf]; omega
          · obtain rfl : j = cn := by omega
            have htk : ps.take j = ps := List.take_of_length_le (by rw [HPL.out]; omega)
            rw [htk] at hown
            obtain ⟨a1, a2, a3, a4, a5⟩ := HG.out
            have HA1 : Hid _ := a1
            have HA2 : Hid _ := a2
            have HA3 : Hid _ := a3
            have HA4 : Hid _ := a4
            have HA5 : Hid _ := a5
            clear a1 a2 a3 a4 a5 HG htk
            have HLN : Hid (p + (dictB k (ps.map fun q => d.getD q ⟨false, 0, ⟨#[]⟩⟩)).length = M) := by
              show _ = _
              rw [HA3.out, List.length_append, List.length_append, packBytes_length, HPL.out, ← Nat.add_assoc, ← Nat.add_assoc, HP.out, HM.out]
            have HLS : Hid (p + (dictB k (ps.map fun q => d.getD q ⟨false, 0, ⟨#[]⟩⟩)).length ≤ s.size) := by
              have := starts_len HA4.out (by rw [bytesOf_length]; exact hp)
              rwa [bytesOf_length] at this
            generalize hl : (ps.map fun q => d.getD q ⟨false, 0, ⟨#[]⟩⟩) = l at *
            go_wp2
            go_ret
            exact ⟨HK2.out.trans (Kp.of_below HB.out), .inl ⟨l, _, rfl, HA1.out, HA2.out, HA4.out, HA5.out, HLS.out, by rw [HLN.out, HB.out.block r (by omega)]; exact HR2.out, by rw [HA1.out]; exact ownsRow_base hown hsz2⟩⟩
      · have HNO : Hid (∀ L : List Val, L.length = cn → (∀ x ∈ L, VK k x) → ¬ Starts (bytesOf s) p (dictB k L)) := by
          intro L hL hok hs
          obtain ⟨d', ps', g1, g2, g3, g4, g5, g6, g7, g8⟩ := dict_parts hcn hL hok hs
          have e1 := vint_one (by omega) (by omega) g6 HS1.out
          rw [e1] at g7 g8 g5
          have e2 := HU2.out d' e1 g2 g7
          rw [e2, HP.out] at g8
          have e3 := HUP.out ps' g4 (fun x hx => wid_fits _ (by omega) x (chk_lt g5 x hx)) g8
          rw [e3] at g5
          exact hno g5
        rw [hw]
        clear hno hw w'
        go_wp2
        exact ⟨rfl, HK2.out, .inr ⟨q, rfl, HNO.out⟩⟩
    · have HNO : Hid (∀ L : List Val, L.length = cn → (∀ x ∈ L, VK k x) → ¬ Starts (bytesOf s) p (dictB k L)) := by
        intro L hL hok hs
        obtain ⟨d', ps, g1, g2, g3, g4, g5, g6, g7, g8⟩ := dict_parts hcn hL hok hs
        have e1 := vint_one (by omega) (by omega) g6 HS1.out
        rw [e1] at g7 g8 g5
        have e2 := HU2.out d' e1 g2 g7
        rw [e2, HP.out] at g8
        have := (packed_reads s P (wid d.length) ps HP3.out (fun x hx => wid_fits _ (by omega) x (chk_lt g5 x hx)) g8).1
        rw [g4] at this
        exact hno this
      have HK2 : Hid (Kp r w w2) := HK1.out.trans hK2
      clear hno hK2 HK1
      go_wp2
      exact ⟨rfl, HK2.out, .inr ⟨q, rfl, HNO.out⟩⟩
  · have HNO : Hid (∀ L : List Val, L.length = cn → (∀ x ∈ L, VK k x) → ¬ Starts (bytesOf s) p (dictB k L)) := hno
    have HK1 : Hid (Kp r w w1) := hK1
    clear hno hK1
    go_wp2
    exact ⟨rfl, HK1.out, .inr ⟨q, rfl, HNO.out⟩⟩
end Go.Proofs.Ytjidbonhhpkljaa.Ec
