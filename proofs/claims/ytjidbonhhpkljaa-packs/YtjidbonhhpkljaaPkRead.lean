/- The contract of the code's readPacked: the numbers of so many bits that stand in the next bytes, or a panic. -/
import Derived.Test.YtjidbonhhpkljaaPkReader
import Derived.Test.YtjidbonhhpkljaaPkPackC
set_option linter.unusedVariables false
namespace Go.Proofs.Ytjidbonhhpkljaa.Pm

theorem mod_div_mod (v a b c : Nat) (h : c ≤ b) : v % 2 ^ (a + b) / 2 ^ a % 2 ^ c = v / 2 ^ a % 2 ^ c := by
  rw [Nat.pow_add, Nat.mod_mul_right_div_self, show b = c + (b - c) by omega, Nat.pow_add, Nat.mod_mul_right_mod]

/-- What is held behind nb bytes and i numbers. -/
def heldOf (v wd nb i : Nat) : Nat := v % 2 ^ (8 * nb) / 2 ^ (wd * i)

theorem heldOf_lt (v wd nb i q : Nat) (h : 8 * nb = wd * i + q) : heldOf v wd nb i < 2 ^ q := by
  unfold heldOf
  rw [Nat.div_lt_iff_lt_mul (Nat.pow_pos (by omega)), ← Nat.pow_add, show q + wd * i = 8 * nb by omega]
  exact Nat.mod_lt _ (Nat.pow_pos (by omega))

theorem heldOf_byte (v wd nb i q : Nat) (h : 8 * nb = wd * i + q) : heldOf v wd (nb + 1) i = heldOf v wd nb i + 2 ^ q * (v / 256 ^ nb % 256) := by
  unfold heldOf
  rw [show 8 * (nb + 1) = 8 * nb + 8 by omega, Nat.pow_add, Nat.mod_mul, pow256, show (2 : Nat) ^ 8 = 256 by rfl]
  conv => lhs; rw [h, Nat.pow_add, Nat.mul_assoc]
  rw [Nat.add_mul_div_left _ _ (Nat.pow_pos (by omega)), h, Nat.pow_add]

theorem heldOf_num (v wd nb i : Nat) (q : Nat) (h : 8 * nb = wd * i + q) (hq : wd ≤ q) : heldOf v wd nb i % 2 ^ wd = v / 2 ^ (wd * i) % 2 ^ wd := by
  unfold heldOf
  rw [h, mod_div_mod _ _ _ _ hq]

theorem heldOf_next (v wd nb i : Nat) : heldOf v wd nb i / 2 ^ wd = heldOf v wd nb (i + 1) := by
  unfold heldOf
  rw [Nat.div_div_eq_div_mul, ← Nat.pow_add, Nat.mul_succ]

theorem heldOf_zero (v wd : Nat) : heldOf v wd 0 0 = 0 := by simp [heldOf, Nat.mod_one]
end Go.Proofs.Ytjidbonhhpkljaa.Pm

namespace Go.Proofs.Ytjidbonhhpkljaa.Pk
open Go.RowKit Go.Proofs.Ytjidbonhhpkljaa.Pm

/-- The number that the bytes from a place on spell. -/
def restV (s : ByteArray) (p : Nat) : Nat := V ((bytesOf s).drop p)

theorem restV_byte (s : ByteArray) (p nb : Nat) (h : p + nb < s.size) : s[p + nb].toNat = restV s p / 256 ^ nb % 256 := by
  unfold restV
  have h1 : ∀ x ∈ (bytesOf s).drop p, x < 256 := fun x hx => bytesOf_lt s x (List.mem_of_mem_drop hx)
  rw [← V_get _ nb h1, List.getElem?_drop, List.getElem?_eq_getElem (by rw [bytesOf_length]; exact h), Option.getD_some, bytesOf_get s _ h]

/-- Are the next bytes just those of so many numbers? -/
def readOk (s : ByteArray) (p wd cn : Nat) : Prop := p + (cn * wd + 7) / 8 ≤ s.size ∧ heldOf (restV s p) wd ((cn * wd + 7) / 8) cn = 0

theorem and_mask (hh wd : Nat) (hw : wd ≤ 16) (hh0 : hh < 16777216) : bits .and .i64 (hh : Int) (wrap64 (pw wd - 1)) = ((hh % 2 ^ wd : Nat) : Int) := by
  have h0 := pw_pos wd
  have h1 := pw_16 wd hw
  rw [show wrap64 (pw wd - 1) = pw wd - 1 from by unfold wrap64; omega]
  have e : pw wd = (2 : Int) ^ wd := by unfold pw; push_cast; rfl
  rw [e, bits_mask .i64 62 (by decide) wraps_i64 wd (by omega) (hh : Int) (by omega) (by omega)]
  push_cast; rfl

theorem shr_wd (hh wd : Nat) : (hh : Int) / 2 ^ wd = ((hh / 2 ^ wd : Nat) : Int) := by push_cast; rfl

set_option maxRecDepth 100000 in
set_option maxHeartbeats 2000000 in
theorem readPacked_any (s : ByteArray) (r p wd cn : Nat) (w : World) (hm : s.size ≤ maxLen) (hw : wd ≤ 16) (hcn : cn ≤ 100) (hp : p ≤ s.size) (h : w.heap[r]? = some (rdr s p)) :
    Calls Try.prog 53 #[.pointer (some ⟨r, 0, none⟩), .int .i64 wd, .int .i64 cn] w fun e w' => Kp r w w' ∧
      ((e = .returned (.slice (some ⟨w.heap.size, 0, none⟩) cn cn) ∧ readOk s p wd cn ∧ w'.heap[r]? = some (rdr s (p + (cn * wd + 7) / 8)) ∧
        w'.ownsRow w.heap.size 3 1 (.slice (some ⟨w.heap.size, 0, none⟩) cn cn) cn (icells (intsOf (D wd (restV s p) cn)))) ∨
       (∃ q, e = .panicked (badAt q) ∧ ¬ readOk s p wd cn)) := by
  obtain ⟨i0, hi, hz0, hz1, hz2⟩ := info_parts Try.info3
  have hrl : r < w.heap.size := lt_of_block h
  have hp0 := pw_pos wd
  have hp1 := pw_16 wd hw
  have hpw := wrap_pow wd hw
  have HR : Hid (w.heap[r]? = some (rdr s p)) := h
  clear h
  go_enter Try.func53, Try.ntmps53
  go_wp2_with (at_make; refine wpList_make_own _ rfl _ _ 22 rfl w.heap.size 3 i0 (.int .i64 0) 1 Try.underlying22 hi hz0 hz1 .i64 .i64 _ cn rfl rfl rfl (by rw [hz2]; omega) (by unfold maxLen; omega) (Nat.le_refl _) ?_; intro w0 hown0 hgrow0)
  have hbel0 : Kp r w w0 := (Kp.refl _ _).grown hgrow0 (by simp)
  have HR0 : Hid (w0.heap[r]? = some (rdr s (p + 0))) := by show _ = _; rw [hgrow0.block r hrl (by simp)]; exact HR.out
  clear HR hgrow0
  go_loopw [7, 8, 9, 13] (fun lv h q i wr => ∃ (k nb qq : Nat), k ≤ cn ∧ i = .int .i64 k ∧ lv = .slice (some ⟨w.heap.size, 0, none⟩) k cn ∧ q = .int .i64 qq ∧ qq < 8 ∧ 8 * nb = wd * k + qq ∧ p + nb ≤ s.size ∧
      h = .int .i64 ((heldOf (restV s p) wd nb k : Nat) : Int) ∧ wr.heap[r]? = some (rdr s (p + nb)) ∧
      wr.ownsRow w.heap.size 3 1 (.slice (some ⟨w.heap.size, 0, none⟩) k cn) k (icells (intsOf (D wd (restV s p) k))) ∧ Kp r w wr) (fun _ _ _ i _ => cn - (intOf i).toNat)
  case atStart => exact ⟨0, 0, 0, Nat.zero_le _, rfl, rfl, rfl, by omega, by simp, by omega, by rw [heldOf_zero]; rfl, HR0.out, hown0, hbel0⟩
  case round =>
    clear hown0 hbel0 HR0
    obtain ⟨k, nb, qq, hk, rfl, rfl, rfl, hq8, hnq, hpn, rfl, hR, hown, hbel⟩ := hrel
    have HNQ : Hid (8 * nb = wd * k + qq) := hnq
    have HRR : Hid (wr.heap[r]? = some (rdr s (p + nb))) := hR
    clear hnq hR
    by_cases hlt : k < cn
    · have hkw : wd * (k + 1) ≤ 16 * 100 := Nat.mul_le_mul hw (by omega)
      have hcw : wd * (k + 1) ≤ wd * cn := Nat.mul_le_mul_left _ hlt
      go_wp2_with fail
      go_loopw [8, 9] (fun h q wr => ∃ (nb qq : Nat), q = .int .i64 qq ∧ qq < wd + 8 ∧ 8 * nb = wd * k + qq ∧ p + nb ≤ s.size ∧ h = .int .i64 ((heldOf (restV s p) wd nb k : Nat) : Int) ∧ wr.heap[r]? = some (rdr s (p + nb)) ∧
          wr.ownsRow w.heap.size 3 1 (.slice (some ⟨w.heap.size, 0, none⟩) k cn) k (icells (intsOf (D wd (restV s p) k))) ∧ Kp r w wr) (fun _ q _ => wd + 8 - (intOf q).toNat)
      case atStart => exact ⟨nb, qq, rfl, by omega, HNQ.out, hpn, rfl, HRR.out, hown, hbel⟩
      case round =>
        clear hown hbel HRR HNQ hpn hq8
        obtain ⟨nb, qq, rfl, hq8, hnq, hpn, rfl, hR, hown, hbel⟩ := hrel
        have hhq := heldOf_lt (restV s p) wd nb k qq hnq
        have HNX : Hid _ := heldOf_byte (restV s p) wd nb k qq hnq
        have HNU : Hid (wd ≤ qq → heldOf (restV s p) wd nb k % 2 ^ wd = restV s p / 2 ^ (wd * k) % 2 ^ wd) := heldOf_num (restV s p) wd nb k qq hnq
        have HNE : Hid _ := heldOf_next (restV s p) wd nb k
        have HNQ : Hid (8 * nb = wd * k + qq) := hnq
        have HRR : Hid (wr.heap[r]? = some (rdr s (p + nb))) := hR
        have hhb : heldOf (restV s p) wd nb k < 16777216 := by have h2 : 2 ^ qq ≤ 2 ^ 24 := Nat.pow_le_pow_right (by omega) (by omega); omega
        clear hnq hR
        generalize heldOf (restV s p) wd nb k = hh at *
        by_cases hqw : qq < wd
        · by_cases hin : p + nb < s.size
          · have hby : Hid (s[p + nb].toNat = restV s p / 256 ^ nb % 256) := restV_byte s p nb hin
            have hyb : s[p + nb].toNat < 256 := s[p + nb].toNat_lt
            have hor := or_shl hh s[p + nb].toNat qq (by omega) (by omega) hhq
            rw [show hh + 2 ^ qq * s[p + nb].toNat = heldOf (restV s p) wd (nb + 1) k from by rw [HNX.out, hby.out]] at hor
            have HB : Hid (∀ w, w.heap[r]? = some (rdr s (p + nb)) → Calls Try.prog 83 #[.pointer (some ⟨r, 0, none⟩)] w fun e w' => e = .returned (.int .u8 (s[p + nb].toNat : Int)) ∧ ∃ n, w' = (w.setCell ⟨r, 1, none⟩ (.int .i64 ((p + nb + 1 : Nat) : Int))).drewN n) :=
              fun w hw => byte_ok r (p + nb) s w hm hin hw
            clear hby HNX HNU HNE
            have HH2 : Hid (∃ h2, h2 = heldOf (restV s p) wd (nb + 1) k) := ⟨_, rfl⟩
            generalize hh2 : heldOf (restV s p) wd (nb + 1) k = h2 at *
            have HHE : Hid (heldOf (restV s p) wd (nb + 1) k = h2) := hh2
            clear hh2 HH2
            generalize s[p + nb].toNat = y at *
            go_wp2_with (go_at_call 83; refine (HB.out _ HRR.out).mono ?_; rintro e w' ⟨rfl, n, rfl⟩)
            go_roundw
            case rel => exact ⟨nb + 1, qq + 8, by go_num, by omega, by have := HNQ.out; omega, by omega, by rw [HHE.out], rdr_set HRR.out n, ownsRow_drewN (ownsRow_setCell_below hown (by exact hrl) _) n, hbel.set _ _ n⟩
            case measure => simp [intOf]; omega
          · have HNO : Hid (¬ readOk s p wd cn) := by
              rintro ⟨h1, _⟩
              have h2 := HNQ.out
              rw [Nat.mul_succ] at hcw
              rw [Nat.mul_comm cn wd] at h1
              omega
            go_wp2_with (go_at_call 83; refine (byte_bad r (p + nb) s _ hm hin hpn HRR.out).mono ?_; rintro e w' ⟨rfl, n, rfl⟩)
            exact ⟨rfl, hbel.drewN n, .inr ⟨_, rfl, HNO.out⟩⟩
        · have hand := and_mask hh wd hw hhb
          rw [HNU.out (by omega)] at hand
          have hsh := shr_wd hh wd
          rw [HNE.out] at hsh
          have HD : Hid (D wd (restV s p) (k + 1) = D wd (restV s p) k ++ [restV s p / 2 ^ (wd * k) % 2 ^ wd]) := rfl
          generalize restV s p / 2 ^ (wd * k) % 2 ^ wd = x at *
          go_wp2_with (at_builtin; refine wpList_append_fits _ rfl _ _ 22 rfl w.heap.size 3 i0 1 Try.underlying22 hi hz1 w.heap.size k cn _ rfl (hown.alloc _) ⟨wr.heap.size, 0, none⟩ 1 1 [.int .i64 (x : Int)] rfl rfl ?c1 ?c2 (by omega) ?_)
          case c1 =>
            intro j u hj
            match j, hj with
            | 0, hj => simp at hj; subst hj; simp [Addr.add]
          case c2 => intro u hu; simp at hu; subst hu; rfl
          · intro w1 hown' hgrow
            have hbel' : Kp r w w1 := (hbel.alloc _).grown hgrow (by intro g hg; simp at hg; omega)
            have HR1 : Hid (w1.heap[r]? = some (rdr s (p + nb))) := by
              show _ = _
              rw [hgrow.block r (by have := hbel.size; simp; omega) (by simp; omega), Below.heap_alloc wr _ r (by have := hbel.size; omega)]
              exact HRR.out
            rw [icells_snoc] at hown'
            clear hown hgrow hbel HRR hand
            go_wp2
            go_roundw
            case rel => exact ⟨k + 1, nb, qq - wd, by omega, by go_num, rfl, by go_num, by omega, by have := HNQ.out; rw [Nat.mul_succ]; omega, hpn, rfl, HR1.out, by rw [HD.out]; simpa [intsOf] using hown', hbel'⟩
            case measure => simp [intOf]; omega
    · have hkc : k = cn := by omega
      subst hkc
      have hnb : nb = (k * wd + 7) / 8 := by have := HNQ.out; rw [Nat.mul_comm wd k] at this; omega
      by_cases hh0 : heldOf (restV s p) wd nb k = 0
      · have HOK : Hid (readOk s p wd k) := ⟨by rw [← hnb]; exact hpn, by rw [← hnb]; exact hh0⟩
        rw [hh0]
        have HNB : Hid (nb = (k * wd + 7) / 8) := hnb
        clear hh0 hnb
        go_wp2
        go_ret
        exact ⟨hbel, .inl ⟨rfl, HOK.out, by rw [← HNB.out]; exact HRR.out, hown⟩⟩
      · have HOK : Hid (¬ readOk s p wd k) := by rintro ⟨_, h2⟩; rw [← hnb] at h2; exact hh0 h2
        have hhp : 0 < heldOf (restV s p) wd nb k := by omega
        clear hh0 hnb
        generalize heldOf (restV s p) wd nb k = hh at *
        have hne : ((hh : Int) != 0) = true := by simp; omega
        go_wp2_with (go_at_call 84; refine (giveUp_any r (p + nb) s _ HRR.out).mono ?_; rintro e w' ⟨rfl, rfl⟩)
        exact ⟨rfl, hbel, .inr ⟨_, rfl, HOK.out⟩⟩
end Go.Proofs.Ytjidbonhhpkljaa.Pk
