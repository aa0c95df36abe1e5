/- The contract of the document's numbers: the numbers of so many bits that stand in bytes, as far as they go. -/
import Derived.Test.YtjidbonhhpkljaaPkInts
import Derived.Test.YtjidbonhhpkljaaPkSpec
set_option linter.unusedVariables false
namespace Go.Proofs.Ytjidbonhhpkljaa.Pm
theorem V_bit_in (bs : List Nat) (h : ∀ x ∈ bs, x < 256) (a : Nat) (ha : a / 8 < bs.length) : bs[a / 8] / 2 ^ (a % 8) % 2 = V bs / 2 ^ a % 2 := by
  have := V_get bs (a / 8) h
  rw [List.getElem?_eq_getElem ha, Option.getD_some] at this
  rw [this, bit_of_byte]
theorem V_bit_out (bs : List Nat) (h : ∀ x ∈ bs, x < 256) (a : Nat) (ha : ¬ a / 8 < bs.length) : V bs / 2 ^ a % 2 = 0 := by
  rw [Nat.div_eq_of_lt]
  refine Nat.lt_of_lt_of_le (V_lt bs h) ?_
  rw [pow256]
  exact Nat.pow_le_pow_right (by omega) (by omega)
theorem num_step (v wd i t : Nat) : v / 2 ^ (wd * i) % 2 ^ (t + 1) = v / 2 ^ (wd * i) % 2 ^ t + 2 ^ t * (v / 2 ^ (i * wd + t) % 2) := by
  rw [mod_succ_pow, Nat.div_div_eq_div_mul, ← Nat.pow_add, Nat.mul_comm wd i]
end Go.Proofs.Ytjidbonhhpkljaa.Pm

namespace Go.Proofs.Ytjidbonhhpkljaa.Pk
open Go.RowKit Go.Proofs.Ytjidbonhhpkljaa.Pm

/-- The bytes of a text, as numbers. -/
def bytesOf (s : ByteArray) : List Nat := s.data.toList.map UInt8.toNat
theorem bytesOf_lt (s : ByteArray) : ∀ x ∈ bytesOf s, x < 256 := by
  intro x hx
  obtain ⟨u, _, rfl⟩ := List.mem_map.1 hx
  exact u.toNat_lt
theorem bytesOf_length (s : ByteArray) : (bytesOf s).length = s.size := by simp [bytesOf]
theorem bytesOf_get (s : ByteArray) (j : Nat) (h : j < s.size) : (bytesOf s)[j]'(by rw [bytesOf_length]; exact h) = s[j].toNat := by
  simp only [bytesOf, List.getElem_map]; rfl

/-- Numbers, as Go's. -/
def intsOf (l : List Nat) : List Int := l.map (fun (n : Nat) => (n : Int))

theorem icells_snoc (zs : List Int) (x : Int) : icells zs ++ [.int .i64 x] = icells (zs ++ [x]) := by simp [icells]

set_option maxRecDepth 100000 in
set_option maxHeartbeats 2000000 in
theorem numbers_any (s : ByteArray) (wd cn : Nat) (w : World) (hm : s.size ≤ maxLen) (hw : wd ≤ 16) (hcn : cn ≤ 100) :
    Calls Try.prog 67 #[.string s, .int .i64 wd, .int .i64 cn] w fun e w' => ∃ v, e = .returned v ∧
      w'.ownsRow w.heap.size 3 1 v cn (icells (intsOf (D wd (V (bytesOf s)) cn))) ∧ Below w.heap.size w w' := by
  obtain ⟨i0, hi, hz0, hz1, hz2⟩ := info_parts Try.info3
  unfold maxLen at hm
  have hlb := bytesOf_lt s
  have hlen := bytesOf_length s
  have HB : Hid (∀ x ∈ bytesOf s, x < 256) := hlb
  have HL : Hid ((bytesOf s).length = s.size) := hlen
  clear hlb hlen
  go_enter Try.func67, Try.ntmps67
  go_wp2_with fail
  go_loopw [7, 8] (fun lv i wr => ∃ k : Nat, k ≤ cn ∧ i = .int .i64 k ∧ wr.ownsRow w.heap.size 3 1 lv k (icells (intsOf (D wd (V (bytesOf s)) k))) ∧ Below w.heap.size w wr) (fun _ i _ => cn - (intOf i).toNat)
  case atStart => exact ⟨0, Nat.zero_le _, rfl, World.ownsRow_nil _ _ _ _, Below.refl _ _⟩
  case round =>
    obtain ⟨k, hk, rfl, hown, hbel⟩ := hrel
    by_cases hlt : k < cn
    · have hkw : k * wd ≤ 100 * 16 := Nat.mul_le_mul (by omega) hw
      have hkw0 : (0 : Int) ≤ (k : Int) * (wd : Int) := by rw [← Int.natCast_mul]; omega
      have hkw1 : (k : Int) * (wd : Int) ≤ 1600 := by rw [← Int.natCast_mul]; omega
      go_wp2_with fail
      go_loopw [9, 10] (fun n q wr => ∃ t : Nat, t ≤ wd ∧ q = .int .i64 t ∧ n = .int .i64 ((V (bytesOf s) / 2 ^ (wd * k) % 2 ^ t : Nat) : Int) ∧ wr.ownsRow w.heap.size 3 1 u7 k (icells (intsOf (D wd (V (bytesOf s)) k))) ∧ Below w.heap.size w wr) (fun _ q _ => wd - (intOf q).toNat)
      case atStart => exact ⟨0, Nat.zero_le _, rfl, by simp [Nat.mod_one], hown, hbel⟩
      case round =>
        clear hown hbel
        obtain ⟨t, ht, rfl, rfl, hown, hbel⟩ := hrel
        have HS : Hid _ := num_step (V (bytesOf s)) wd k t
        have HD : Hid (t = wd → D wd (V (bytesOf s)) (k + 1) = D wd (V (bytesOf s)) k ++ [V (bytesOf s) / 2 ^ (wd * k) % 2 ^ t]) := by intro h; subst h; rfl
        have hnn : V (bytesOf s) / 2 ^ (wd * k) % 2 ^ t < 65536 := by
          have h1 : V (bytesOf s) / 2 ^ (wd * k) % 2 ^ t < 2 ^ t := Nat.mod_lt _ (Nat.pow_pos (by omega))
          have h2 : 2 ^ t ≤ 2 ^ 16 := Nat.pow_le_pow_right (by omega) (by omega)
          omega
        generalize V (bytesOf s) / 2 ^ (wd * k) % 2 ^ t = nn at *
        by_cases htl : t < wd
        · have ha0 : k * wd + t ≤ 1616 := by omega
          have hp0 := pw_pos t
          have hp1 := pw_16 t (by omega)
          go_wp2_with fail
          rw [show (k : Int) * (wd : Int) + (t : Int) = ((k * wd + t : Nat) : Int) from by push_cast; rfl]
          generalize hat : k * wd + t = a at *
          clear hat
          have hr0 := pw_pos (a % 8)
          have hr1 : pw (a % 8) ≤ 128 := pw_le (a % 8) 7 (by omega)
          have hw1 : IntKind.i64.wrap ((a : Int) / 8) = (a : Int) / 8 := by simp [IntKind.wrap_i64]; omega
          have hw2 : IntKind.i64.wrap ((a : Int) % 8) = (a : Int) % 8 := by simp [IntKind.wrap_i64]; omega
          by_cases hin : a / 8 < s.size
          · have hin0 : (0 : Int) ≤ (a : Int) / 8 := by omega
            have hin1 : (a : Int) / 8 < (s.size : Int) := by omega
            have hind : decide ((a : Int) / 8 < (s.size : Int)) = true := by simpa using hin1
            have hbit := V_bit_in (bytesOf s) HB.out a (by rw [HL.out]; exact hin)
            rw [bytesOf_get s _ hin] at hbit
            have HBT : Hid _ := hbit
            clear hbit
            have hyb : s[a / 8].toNat < 256 := s[a / 8].toNat_lt
            have hq0 : (0 : Int) ≤ (s[a / 8].toNat : Int) / pw (a % 8) := Int.ediv_nonneg (by omega) (by omega)
            have hq1 : (s[a / 8].toNat : Int) / pw (a % 8) ≤ 255 := by have := Int.ediv_le_self (a := (s[a / 8].toNat : Int)) (pw (a % 8)) (by omega); omega
            by_cases hbt : (s[a / 8].toNat : Int) / pw (a % 8) % 2 = 1
            · have hbb : ((s[a / 8].toNat : Int) / pw (a % 8) % 2 == 1) = true := beq_iff_eq.2 hbt
              have HV : Hid (V (bytesOf s) / 2 ^ a % 2 = 1) := by show _ = _; rw [← HBT.out]; exact bit_nat _ _ hbt
              clear hbt HBT
              go_quiet ((go_at_call 34; exact Calls.quiet_of_same (power_mod8 a _)))
              go_wp2_with (go_at_call 34; refine (power_nat _ (by omega) _).mono ?_; rintro e w' ⟨rfl, rfl⟩)
              go_roundw
              case rel => exact ⟨t + 1, by omega, by go_num, by rw [HS.out, HV.out]; congr 1; unfold pw; omega, ownsRow_drewN hown nq, below_drewN hbel nq⟩
              case measure => simp [intOf]; omega
            · have hbb : ((s[a / 8].toNat : Int) / pw (a % 8) % 2 == 1) = false := beq_eq_false_iff_ne.2 hbt
              have HV : Hid (V (bytesOf s) / 2 ^ a % 2 = 0) := by show _ = _; rw [← HBT.out]; have := bit_nat_no _ _ hbt; omega
              clear hbt HBT
              go_quiet ((go_at_call 34; exact Calls.quiet_of_same (power_mod8 a _)))
              go_wp2
              go_roundw
              case rel => exact ⟨t + 1, by omega, by go_num, by rw [HS.out, HV.out]; simp, ownsRow_drewN hown nq, below_drewN hbel nq⟩
              case measure => simp [intOf]; omega
          · have hin1 : ¬ (a : Int) / 8 < (s.size : Int) := by omega
            have hind : decide ((a : Int) / 8 < (s.size : Int)) = false := by simpa using hin1
            have HBT : Hid _ := V_bit_out (bytesOf s) HB.out a (by rw [HL.out]; exact hin)
            go_quiet ((go_at_call 34; exact Calls.quiet_of_same (power_mod8 a _)))
            go_wp2
            go_roundw
            case rel => exact ⟨t + 1, by omega, by go_num, by rw [HS.out, HBT.out]; simp, ownsRow_drewN hown nq, below_drewN hbel nq⟩
            case measure => simp [intOf]; omega
        · have htw : t = wd := by omega
          go_wp2_with (at_builtin; refine wpList_append_own _ rfl _ _ 22 rfl w.heap.size 3 i0 (.int .i64 0) 1 8 Try.underlying22 hi hz0 hz1 hz2 rfl (by decide) _ _ _ rfl (hown.alloc _) ⟨wr.heap.size, 0, none⟩ 1 1 [.int .i64 (nn : Int)] rfl rfl ?c1 ?c2 ?c3 ?c4 ?c5 ?_)
          case c1 =>
            intro j u hj
            match j, hj with
            | 0, hj => simp at hj; subst hj; simp [Addr.add]
          case c2 => intro u hu; simp at hu; subst hu; rfl
          case c3 => unfold maxLen; omega
          case c4 => omega
          case c5 => have := hbel.size; simp; omega
          · intro v' w1 hown' hgrow _
            have hbel' : Below w.heap.size w w1 := (hbel.alloc hbel.size _).grown hgrow (by have := hbel.size; simp; omega) (fun j hj => (hown.lt j hj).1)
            rw [icells_snoc] at hown'
            clear hown hgrow hbel
            go_wp2
            go_roundw
            case rel => exact ⟨k + 1, by omega, by go_num, by rw [HD.out htw]; simpa [intsOf] using hown', hbel'⟩
            case measure => simp [intOf]; omega
    · have hkc : k = cn := by omega
      subst hkc
      go_wp2
      go_ret
      exact ⟨_, rfl, hown, hbel⟩
end Go.Proofs.Ytjidbonhhpkljaa.Pk
