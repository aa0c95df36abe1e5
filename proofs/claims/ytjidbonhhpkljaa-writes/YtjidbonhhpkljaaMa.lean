/- What the proof stands on: PkA, PkMath, PkBits, PkAppend, PkSpec, EcMath, PkRows, PkInts, PkNumbers, PkUnpackR, EcVals, EcVint, EcSmall. -/
import Derived.Test.YtjidbonhhpkljaaRows
import Derived.WalkKit
import Derived.ProofKit
import Derived.Deep.QuietTactic
import Derived.BigQuiet
import Derived.Laws.BytesArg
import Derived.Deep.RegionWith
import Derived.Laws.BitsLemmas
import Derived.ArgAppend
import Derived.Laws.CopyOwn
import Derived.Laws.StructEq

/- The contracts of the small functions beneath Pack: power gives 2^n; checkCount and checkPacking give the document's errors in their order. -/
set_option linter.unusedVariables false
namespace Go.Proofs.Ytjidbonhhpkljaa.Pk
open Go.RowKit

theorem ret_int {k : IntKind} {a b : Int} (h : a = b) : Ending.returned (.int k a) = .returned (.int k b) := by rw [h]

/-- 2 to the n, as a number. -/
def pw (n : Nat) : Int := ((2 ^ n : Nat) : Int)
theorem pw_pos (n : Nat) : 0 < pw n := by
  have : 0 < 2 ^ n := Nat.pow_pos (by omega)
  unfold pw; omega
theorem pw_le (n m : Nat) (h : n ≤ m) : pw n ≤ pw m := by
  have := Nat.pow_le_pow_right (show 0 < 2 by omega) h
  unfold pw; omega
theorem pw_succ (n : Nat) : pw (n + 1) = 2 * pw n := by
  unfold pw; rw [Nat.pow_succ]; omega
theorem pw_16 (n : Nat) (h : n ≤ 16) : pw n ≤ 65536 := pw_le n 16 h

set_option maxHeartbeats 400000 in
theorem power_nat (n : Nat) (hn : n ≤ 16) (w : World) :
    Calls Try.prog 34 #[.int .i64 n] w fun e w' => e = .returned (.int .i64 (pw n)) ∧ w' = w := by
  go_enter Try.func34, Try.ntmps34
  go_wp2
  go_loop [3, 4] (fun p i => ∃ k : Nat, k ≤ n ∧ i = .int .i64 k ∧ p = .int .i64 (pw k)) (fun _ i => n - (intOf i).toNat)
  case atStart => exact ⟨0, Nat.zero_le _, rfl, rfl⟩
  case round =>
    obtain ⟨k, hk, rfl, rfl⟩ := hrel
    have hb1 := pw_pos k
    have hb2 := pw_16 k (by omega)
    by_cases hlt : k < n
    · go_wp2
      go_round
      case rel => exact ⟨k + 1, by omega, by go_num, by rw [pw_succ]⟩
      case measure => simp [intOf]; omega
    · have hkn : k = n := by omega
      subst hkn
      go_wp2
      go_ret
      exact ⟨rfl, rfl⟩

theorem power_any (a : Int) (h0 : 0 ≤ a) (h1 : a ≤ 16) (w : World) :
    Calls Try.prog 34 #[.int .i64 a] w fun e w' => e = .returned (.int .i64 (pw a.toNat)) ∧ w' = w := by
  obtain ⟨n, rfl⟩ := Int.eq_ofNat_of_zero_le h0
  rw [Int.toNat_natCast]
  exact power_nat n (by omega) w

/-- codec's answer to a count: 6 (too long) or 0. -/
def cntE (n : Int) : Int := if n < 0 ∨ 100 < n then 6 else 0
def packE (n wd : Int) : Int := if n < 0 ∨ 100 < n then 6 else if wd < 0 ∨ 16 < wd then 2 else 0

theorem checkCount_any (n : Int) (w : World) :
    Calls Try.prog 66 #[.int .i64 n] w fun e w' => e = .returned (.int .i64 (cntE n)) ∧ w' = w := by
  by_cases h1 : n < 0
  · go_enter Try.func66, Try.ntmps66
    go_wp2
    all_goals go_ret
    all_goals exact ⟨ret_int (by simp [cntE, h1]), rfl⟩
  · by_cases h2 : 100 < n
    all_goals
      go_enter Try.func66, Try.ntmps66
      go_wp2
      all_goals go_ret
      all_goals exact ⟨ret_int (by simp [cntE, h1, h2]), rfl⟩

theorem checkPacking_any (n wd : Int) (w : World) :
    Calls Try.prog 36 #[.int .i64 n, .int .i64 wd] w fun e w' => e = .returned (.int .i64 (packE n wd)) ∧ w' = w := by
  by_cases h1 : n < 0 ∨ 100 < n
  · have hc : cntE n = 6 := by simp [cntE, h1]
    have hp : packE n wd = 6 := by simp [packE, h1]
    have H := checkCount_any n w
    rw [hc] at H
    rw [hp]
    clear hc hp h1
    go_enter Try.func36, Try.ntmps36
    go_wp2_with (go_at_call 66; refine H.mono ?_; rintro e w' ⟨rfl, rfl⟩)
    all_goals go_ret
    all_goals exact ⟨rfl, rfl⟩
  · have hc : cntE n = 0 := by simp [cntE, h1]
    have H := checkCount_any n w
    rw [hc] at H
    by_cases h2 : wd < 0
    · have hp : packE n wd = 2 := by simp [packE, h1, h2]
      rw [hp]
      clear hc hp h1
      go_enter Try.func36, Try.ntmps36
      go_wp2_with (go_at_call 66; refine H.mono ?_; rintro e w' ⟨rfl, rfl⟩)
      all_goals go_ret
      all_goals exact ⟨rfl, rfl⟩
    · by_cases h3 : 16 < wd
      · have hp : packE n wd = 2 := by simp [packE, h1, h3]
        rw [hp]
        clear hc hp h1
        go_enter Try.func36, Try.ntmps36
        go_wp2_with (go_at_call 66; refine H.mono ?_; rintro e w' ⟨rfl, rfl⟩)
        all_goals go_ret
        all_goals exact ⟨rfl, rfl⟩
      · have hp : packE n wd = 0 := by simp [packE, h1, h2, h3]
        rw [hp]
        clear hc hp h1
        go_enter Try.func36, Try.ntmps36
        go_wp2_with (go_at_call 66; refine H.mono ?_; rintro e w' ⟨rfl, rfl⟩)
        all_goals go_ret
        all_goals exact ⟨rfl, rfl⟩
end Go.Proofs.Ytjidbonhhpkljaa.Pk

/- Plain mathematics of packing: a list of bytes is fixed by its length and by the number that it spells; a list of numbers below 2^w likewise. -/
set_option linter.unusedVariables false
namespace Go.Proofs.Ytjidbonhhpkljaa.Pm

/-- The number that bytes spell, the lowest first. -/
def V : List Nat → Nat
  | [] => 0
  | b :: r => b + 256 * V r

/-- The number that numbers of w bits spell, the lowest first. -/
def N (w : Nat) : List Nat → Nat
  | [] => 0
  | x :: r => x + 2 ^ w * N w r

theorem V_append (a b : List Nat) : V (a ++ b) = V a + 256 ^ a.length * V b := by
  induction a with
  | nil => simp [V]
  | cons x r ih => simp only [List.cons_append, V, ih, List.length_cons, Nat.pow_succ]; rw [Nat.mul_add, Nat.mul_comm (256 ^ r.length) 256, Nat.mul_assoc, Nat.add_assoc]

theorem V_lt (a : List Nat) (h : ∀ x ∈ a, x < 256) : V a < 256 ^ a.length := by
  induction a with
  | nil => simp [V]
  | cons x r ih =>
    have h1 := h x (by simp)
    have h2 := ih (fun y hy => h y (by simp [hy]))
    simp only [V, List.length_cons, Nat.pow_succ]; omega

theorem V_inj (a b : List Nat) (ha : ∀ x ∈ a, x < 256) (hb : ∀ x ∈ b, x < 256) (hl : a.length = b.length) (h : V a = V b) : a = b := by
  induction a generalizing b with
  | nil => cases b with
    | nil => rfl
    | cons y s => simp at hl
  | cons x r ih => cases b with
    | nil => simp at hl
    | cons y s =>
      simp only [V] at h
      have h1 := ha x (by simp)
      have h2 := hb y (by simp)
      have e : x = y := by omega
      have e2 : V r = V s := by omega
      rw [e, ih s (fun z hz => ha z (by simp [hz])) (fun z hz => hb z (by simp [hz])) (by simpa using hl) e2]

theorem V_set (a : List Nat) (j x : Nat) (hj : j < a.length) : V (a.set j x) + a[j] * 256 ^ j = V a + x * 256 ^ j := by
  induction a generalizing j with
  | nil => simp at hj
  | cons y r ih =>
    cases j with
    | zero => simp [V]; omega
    | succ k =>
      have := ih k (by simpa using hj)
      simp only [List.set_cons_succ, V, List.getElem_cons_succ, Nat.pow_succ]
      rw [← Nat.mul_assoc, ← Nat.mul_assoc]; omega

theorem V_get_le (a : List Nat) (j : Nat) (hj : j < a.length) : a[j] * 256 ^ j ≤ V a := by
  have := V_set a j 0 hj
  omega

theorem V_zero (n : Nat) : V (List.replicate n 0) = 0 := by
  induction n with
  | zero => rfl
  | succ k ih => simp [List.replicate_succ, V, ih]

theorem V_take (a : List Nat) (n : Nat) (h : ∀ x ∈ a, x < 256) : V (a.take n) = V a % 256 ^ n := by
  induction a generalizing n with
  | nil => simp [V]
  | cons y r ih =>
    cases n with
    | zero => simp [V, Nat.mod_one]
    | succ k =>
      have h1 := h y (by simp)
      have h2 := ih k (fun z hz => h z (by simp [hz]))
      simp only [List.take_succ_cons, V, h2, Nat.pow_succ]
      rw [Nat.mul_comm (256 ^ k) 256, Nat.mod_mul, show (y + 256 * V r) % 256 = y by omega, show (y + 256 * V r) / 256 = V r by omega]

theorem V_get (a : List Nat) (j : Nat) (h : ∀ x ∈ a, x < 256) : (a[j]?.getD 0) = V a / 256 ^ j % 256 := by
  induction a generalizing j with
  | nil => simp [V]
  | cons y r ih =>
    have h1 := h y (by simp)
    cases j with
    | zero => simp [V]; omega
    | succ k =>
      have h2 := ih k (fun z hz => h z (by simp [hz]))
      simp only [List.getElem?_cons_succ, h2, V, Nat.pow_succ]
      rw [Nat.mul_comm (256 ^ k) 256, ← Nat.div_div_eq_div_mul, show (y + 256 * V r) / 256 = V r by omega]

theorem N_snoc (w : Nat) (l : List Nat) (x : Nat) : N w (l ++ [x]) = N w l + 2 ^ (w * l.length) * x := by
  induction l with
  | nil => simp [N]
  | cons y r ih =>
    simp only [List.cons_append, N, ih, List.length_cons]
    rw [Nat.mul_add, ← Nat.mul_assoc, ← Nat.pow_add, Nat.add_assoc, show w + w * r.length = w * (r.length + 1) by rw [Nat.mul_succ]; omega]

theorem N_lt (w : Nat) (l : List Nat) (h : ∀ x ∈ l, x < 2 ^ w) : N w l < 2 ^ (w * l.length) := by
  induction l with
  | nil => simp [N]
  | cons y r ih =>
    have h1 := h y (by simp)
    have h2 := ih (fun z hz => h z (by simp [hz]))
    simp only [N, List.length_cons]
    rw [show w * (r.length + 1) = w + w * r.length by rw [Nat.mul_succ]; omega, Nat.pow_add]
    have h3 : 2 ^ w * (N w r + 1) ≤ 2 ^ w * 2 ^ (w * r.length) := Nat.mul_le_mul_left _ h2
    rw [Nat.mul_add] at h3; omega

/-- The numbers of w bits that stand in a number. -/
def D (w v : Nat) : Nat → List Nat
  | 0 => []
  | n + 1 => D w v n ++ [v / 2 ^ (w * n) % 2 ^ w]

theorem D_length (w v n : Nat) : (D w v n).length = n := by
  induction n with
  | zero => rfl
  | succ k ih => simp [D, ih]

theorem D_lt (w v n : Nat) : ∀ x ∈ D w v n, x < 2 ^ w := by
  induction n with
  | zero => simp [D]
  | succ k ih =>
    intro x hx
    simp only [D, List.mem_append, List.mem_singleton] at hx
    rcases hx with hx | hx
    · exact ih x hx
    · rw [hx]; exact Nat.mod_lt _ (Nat.pow_pos (by omega))

theorem N_D (w v n : Nat) : N w (D w v n) = v % 2 ^ (w * n) := by
  induction n with
  | zero => simp [D, N, Nat.mod_one]
  | succ k ih =>
    rw [D, N_snoc, ih, D_length, show w * (k + 1) = w * k + w by rw [Nat.mul_succ], Nat.pow_add, Nat.mod_mul]

/-- One bit more of a number. -/
theorem mod_succ_pow (x k : Nat) : x % 2 ^ (k + 1) = x % 2 ^ k + 2 ^ k * (x / 2 ^ k % 2) := by
  rw [Nat.pow_succ, Nat.mod_mul]

theorem pow256 (n : Nat) : 256 ^ n = 2 ^ (8 * n) := by rw [Nat.pow_mul]

/-- A bit at a place, in bytes. -/
theorem bit_of_byte (v at_ : Nat) : v / 256 ^ (at_ / 8) % 256 / 2 ^ (at_ % 8) % 2 = v / 2 ^ at_ % 2 := by
  have h8 : (256 : Nat) = 2 ^ (at_ % 8) * (2 ^ (8 - at_ % 8)) := by rw [← Nat.pow_add, show at_ % 8 + (8 - at_ % 8) = 8 by omega]
  have e1 : v / 256 ^ (at_ / 8) % 256 / 2 ^ (at_ % 8) = v / 256 ^ (at_ / 8) / 2 ^ (at_ % 8) % 2 ^ (8 - at_ % 8) := by
    conv => lhs; rw [h8]
    rw [Nat.mod_mul_right_div_self]
    rw [← h8]
  rw [e1, Nat.div_div_eq_div_mul, pow256, ← Nat.pow_add, show 8 * (at_ / 8) + at_ % 8 = at_ by omega]
  rw [show 8 - at_ % 8 = (7 - at_ % 8) + 1 by omega, Nat.pow_succ, Nat.mul_comm, Nat.mod_mul_right_mod]

/-- A bit is laid at its place. -/
theorem step_yes (ns : List Nat) (A x wd k t : Nat) (hA : A < 2 ^ (wd * k)) (hV : V ns = A + 2 ^ (wd * k) * (x % 2 ^ t)) (hj : (k * wd + t) / 8 < ns.length) (hx : x / 2 ^ t % 2 = 1) :
    ns[(k * wd + t) / 8] + 2 ^ ((k * wd + t) % 8) < 256 ∧ V (ns.set ((k * wd + t) / 8) (ns[(k * wd + t) / 8] + 2 ^ ((k * wd + t) % 8))) = A + 2 ^ (wd * k) * (x % 2 ^ (t + 1)) := by
  have hlt : V ns < 2 ^ (k * wd + t) := by
    have h1 : x % 2 ^ t + 1 ≤ 2 ^ t := Nat.mod_lt _ (Nat.pow_pos (by omega))
    have h2 := Nat.mul_le_mul_left (2 ^ (wd * k)) h1
    rw [Nat.mul_add, ← Nat.pow_add] at h2
    rw [hV, Nat.mul_comm k wd]; omega
  have hg := V_get_le ns _ hj
  have e1 : 2 ^ (k * wd + t) = 2 ^ ((k * wd + t) % 8) * 256 ^ ((k * wd + t) / 8) := by
    rw [pow256, ← Nat.pow_add]; congr 1; omega
  have h3 : ns[(k * wd + t) / 8] < 2 ^ ((k * wd + t) % 8) := by
    have : ns[(k * wd + t) / 8] * 256 ^ ((k * wd + t) / 8) < 2 ^ ((k * wd + t) % 8) * 256 ^ ((k * wd + t) / 8) := by omega
    exact Nat.lt_of_mul_lt_mul_right this
  refine ⟨?_, ?_⟩
  · have : 2 ^ ((k * wd + t) % 8 + 1) ≤ 2 ^ 8 := Nat.pow_le_pow_right (by omega) (by omega)
    rw [Nat.pow_succ] at this; omega
  · have hset := V_set ns _ (ns[(k * wd + t) / 8] + 2 ^ ((k * wd + t) % 8)) hj
    rw [Nat.add_mul, ← e1] at hset
    rw [mod_succ_pow, hx, Nat.mul_one, Nat.mul_add, ← Nat.pow_add, show wd * k + t = k * wd + t by rw [Nat.mul_comm]]
    omega

theorem step_no (x t : Nat) (hx : ¬ x / 2 ^ t % 2 = 1) : x % 2 ^ (t + 1) = x % 2 ^ t := by
  rw [mod_succ_pow, show x / 2 ^ t % 2 = 0 by omega]; omega

theorem N_take_succ (wd : Nat) (l : List Nat) (k : Nat) (hk : k < l.length) : N wd (l.take (k + 1)) = N wd (l.take k) + 2 ^ (wd * k) * l[k] := by
  rw [List.take_succ_eq_append_getElem hk, N_snoc, List.length_take, Nat.min_eq_left (by omega)]

theorem N_take_lt (wd : Nat) (l : List Nat) (k : Nat) (h : ∀ x ∈ l, x < 2 ^ wd) (hk : k ≤ l.length) : N wd (l.take k) < 2 ^ (wd * k) := by
  have := N_lt wd (l.take k) (fun x hx => h x (List.mem_of_mem_take hx))
  rwa [List.length_take, Nat.min_eq_left hk] at this

theorem set_lt (ns : List Nat) (j x : Nat) (h : ∀ y ∈ ns, y < 256) (hx : x < 256) : ∀ y ∈ ns.set j x, y < 256 := by
  intro y hy
  rcases List.mem_or_eq_of_mem_set hy with h1 | h1
  · exact h y h1
  · omega

theorem at_lt (n wd k t : Nat) (hk : k < n) (ht : t < wd) : (k * wd + t) / 8 < (n * wd + 7) / 8 := by
  have : (k + 1) * wd ≤ n * wd := Nat.mul_le_mul_right _ hk
  rw [Nat.succ_mul] at this; omega
end Go.Proofs.Ytjidbonhhpkljaa.Pm

/- The contract of the document's bits: the bytes of a list of numbers of so many bits. -/
set_option linter.unusedVariables false
namespace Go.Proofs.Ytjidbonhhpkljaa.Pk
open Go.RowKit Go.Proofs.Ytjidbonhhpkljaa.Pm

theorem Try.info5 : (Try.prog.info? 5).map (fun i => (i.zero, i.size, i.bytes)) = some (some (.int .u8 0), 1, 1) := by kernel_rfl
theorem Try.info3 : (Try.prog.info? 3).map (fun i => (i.zero, i.size, i.bytes)) = some (some (.int .i64 0), 1, 8) := by kernel_rfl

/-- The cells of bytes. -/
def bcells (ns : List Nat) : List Value := ns.map fun (n : Nat) => Value.int .u8 (n : Int)

theorem made_bytes (n : Nat) : (madeCells (Value.cells (.int .u8 0)) (n * 1)).toList = bcells (List.replicate n 0) := by
  have : Value.cells (.int .u8 0) = #[.int .u8 0] := rfl
  rw [this, toList_madeCells_one, bcells, List.map_replicate, Nat.mul_one]; rfl

theorem bcells_get (ns : List Nat) (i : Nat) (h : i < ns.length) : (bcells ns)[i]? = some (.int .u8 ((ns[i] : Nat) : Int)) := by
  simp [bcells, h]

theorem bcells_at {w : World} {base g n cap : Nat} {ns : List Nat} (h : w.ownsRow base 5 1 (.slice (some ⟨g, 0, none⟩) n cap) n (bcells ns)) (hl : ns.length = n) :
    ∀ i, i < n → w.cell? ⟨g, 0 + i, none⟩ = some (.int .u8 ((ns.map (fun (n : Nat) => (n : Int))).getD i 0)) := by
  intro i hi
  rw [Nat.zero_add, h.cellAt i (by omega), bcells_get ns i (by omega)]
  simp [List.getD, show i < ns.length by omega]

theorem bcells_set (ns : List Nat) (j x : Nat) : (bcells ns).set j (.int .u8 (x : Int)) = bcells (ns.set j x) := by simp [bcells, List.map_set]
theorem bits_store {w : World} {base g n cap : Nat} {ns : List Nat} (h : w.ownsRow base 5 1 (.slice (some ⟨g, 0, none⟩) n cap) n (bcells ns)) (j y r : Nat) :
    ((w.setCell ⟨g, j, none⟩ (.int .u8 ((y : Int) + pw r))).drew).ownsRow base 5 1 (.slice (some ⟨g, 0, none⟩) n cap) n (bcells (ns.set j (y + 2 ^ r))) := by
  have h1 := (h.stored j (.int .u8 ((y : Int) + pw r))).1
  rw [show (y : Int) + pw r = ((y + 2 ^ r : Nat) : Int) from by unfold pw; omega, bcells_set] at h1
  rw [show (y : Int) + pw r = ((y + 2 ^ r : Nat) : Int) from by unfold pw; omega]
  exact h1.drew
theorem power_mod8 (a : Nat) (w : World) : Calls Try.prog 34 #[.int .i64 ((a : Int) % 8)] w fun e w' => e = .returned (.int .i64 (pw (a % 8))) ∧ w' = w := by
  have h : ((a : Int) % 8) = ((a % 8 : Nat) : Int) := by omega
  rw [h]
  exact power_nat _ (by omega) w
theorem wrap_u8_id {x : Int} (h0 : 0 ≤ x) (h1 : x < 256) : IntKind.u8.wrap x = x := by
  simp [IntKind.wrap, IntKind.signed, IntKind.bits]; omega
theorem byte_sum {y a : Nat} (h : y + 2 ^ a < 256) : (y : Int) + pw a < 256 := by unfold pw; omega
theorem bit_int (x t : Nat) : (x : Int) / pw t % 2 = ((x / 2 ^ t % 2 : Nat) : Int) := by unfold pw; rw [← Int.natCast_ediv]; omega
theorem bit_nat (x t : Nat) (h : (x : Int) / pw t % 2 = 1) : x / 2 ^ t % 2 = 1 := by rw [bit_int] at h; omega
theorem bit_nat_no (x t : Nat) (h : ¬ (x : Int) / pw t % 2 = 1) : ¬ x / 2 ^ t % 2 = 1 := by rw [bit_int] at h; omega
theorem below_drewN {B : Nat} {a w : World} (h : Below B a w) (n : Nat) : Below B a (w.drewN n) := h.trans ⟨rfl, rfl, rfl, Nat.le_refl _, fun _ _ => rfl⟩
theorem ownsRow_drewN {w : World} {base : Nat} {e : TypeId} {size : Nat} {v : Value} {n : Nat} {xs : List Value} (h : w.ownsRow base e size v n xs) (k : Nat) : (w.drewN k).ownsRow base e size v n xs := by
  induction k with
  | zero => exact h
  | succ k ih => exact ih.drew

set_option maxRecDepth 100000 in
set_option maxHeartbeats 1000000 in
theorem bits_any (l : List Nat) (wd : Nat) (ao : Option Addr) (b off cap : Nat) (w : World) (hw : wd ≤ 16) (hl : l.length ≤ 100) (hlt0 : ∀ x ∈ l, x < 2 ^ wd)
    (hs : 0 < l.length → ao = some ⟨b, off, none⟩) (hb : 0 < l.length → b < w.heap.size) (hc : ∀ j, j < l.length → w.cell? ⟨b, off + j, none⟩ = some (.int .i64 ((l.getD j 0 : Nat) : Int))) :
    Calls Try.prog 35 #[.slice ao l.length cap, .int .i64 wd] w fun e w' => ∃ ns : List Nat, ns.length = (l.length * wd + 7) / 8 ∧ (∀ x ∈ ns, x < 256) ∧ V ns = N wd l ∧
      e = .returned (.string (strOfNums (ns.map (fun (n : Nat) => (n : Int))))) ∧ Below w.heap.size w w' := by
  obtain ⟨i0, hi, hz0, hz1, hz2⟩ := info_parts Try.info5
  have hm : l.length * wd ≤ 1600 := Nat.mul_le_mul hl hw
  have hm0 : (0 : Int) ≤ (l.length : Int) * (wd : Int) := by rw [← Int.natCast_mul]; omega
  have hm1 : (l.length : Int) * (wd : Int) ≤ 1600 := by rw [← Int.natCast_mul]; omega
  go_enter Try.func35, Try.ntmps35
  go_wp2_with (at_make; refine wpList_make_full _ rfl _ _ 44 rfl w.heap.size 5 i0 (.int .u8 0) 1 Try.underlying44 hi hz0 hz1 .i64 .i64 _ _ ((l.length * wd + 7) / 8) rfl rfl (by first | omega | (push_cast; omega)) (by first | omega | (push_cast; omega)) (by rw [hz2]; omega) (by unfold maxLen; omega) (Nat.le_refl _) ?_; intro w0 hown0 hgrow0)
  rw [made_bytes] at hown0
  have hbel0 : Below w.heap.size w w0 := (Below.refl _ _).grown hgrow0 (Nat.le_refl _) (by simp)
  generalize hnb : (l.length * wd + 7) / 8 = nb at *
  have HNB : Hid ((l.length * wd + 7) / 8 = nb) := hnb
  clear hnb hgrow0
  go_loopw [7] (fun i wr => ∃ (k : Nat) (ns : List Nat), k ≤ l.length ∧ i = .int .i64 k ∧ ns.length = nb ∧ (∀ x ∈ ns, x < 256) ∧ V ns = N wd (l.take k) ∧
      wr.ownsRow w.heap.size 5 1 (.slice (some ⟨w.heap.size, 0, none⟩) nb nb) nb (bcells ns) ∧ Below w.heap.size w wr) (fun i _ => l.length - (intOf i).toNat)
  case atStart => exact ⟨0, List.replicate nb 0, Nat.zero_le _, rfl, by simp, by intro x hx; simp at hx; omega, by simp [V_zero, N], hown0, hbel0⟩
  case round =>
    obtain ⟨k, ns, hk, rfl, hnl, hn256, hnV, hown, hbel⟩ := hrel
    clear hown0 hbel0
    by_cases hlt : k < l.length
    · obtain rfl := hs (by omega)
      have hx : l.getD k 0 = l[k] := by simp [List.getD, hlt]
      have hcx : w.cell? ⟨b, off + k, none⟩ = some (.int .i64 ((l[k] : Nat) : Int)) := by rw [hc k hlt, hx]
      have hbw : b < w.heap.size := hb (by omega)
      have hx64 : (l[k] : Nat) < 65536 := by have h1 := hlt0 _ (List.getElem_mem hlt); have h2 : 2 ^ wd ≤ 2 ^ 16 := Nat.pow_le_pow_right (by omega) hw; omega
      have hA : N wd (l.take k) < 2 ^ (wd * k) := N_take_lt wd l k hlt0 (by omega)
      have hkw : k * wd ≤ 100 * 16 := Nat.mul_le_mul (by omega) hw
      have hkw0 : (0 : Int) ≤ (k : Int) * (wd : Int) := by rw [← Int.natCast_mul]; omega
      have hkw1 : (k : Int) * (wd : Int) ≤ 1600 := by rw [← Int.natCast_mul]; omega
      have hNs : Hid (N wd (l.take (k + 1)) = N wd (l.take k) + 2 ^ (wd * k) * l[k]) := N_take_succ wd l k hlt
      have hxlt : Hid (l[k] % 2 ^ wd = l[k]) := Nat.mod_eq_of_lt (hlt0 _ (List.getElem_mem hlt))
      clear hx hc hb hs
      generalize l[k] = x at *
      generalize N wd (l.take k) = A at *
      go_wp2_with fail
      go_loopw [8] (fun q wr => ∃ (t : Nat) (ns : List Nat), t ≤ wd ∧ q = .int .i64 t ∧ ns.length = nb ∧ (∀ x ∈ ns, x < 256) ∧ V ns = A + 2 ^ (wd * k) * (x % 2 ^ t) ∧
          wr.ownsRow w.heap.size 5 1 (.slice (some ⟨w.heap.size, 0, none⟩) nb nb) nb (bcells ns) ∧ Below w.heap.size w wr) (fun q _ => wd - (intOf q).toNat)
      case atStart => exact ⟨0, ns, Nat.zero_le _, rfl, hnl, hn256, by rw [hnV]; simp [Nat.mod_one], hown, hbel⟩
      case round =>
        clear hnV hown hbel hnl hn256
        obtain ⟨t, ns, ht, rfl, hnl, hn256, hnV, hown, hbel⟩ := hrel
        have hcr : wr.cell? ⟨b, off + k, none⟩ = some (.int .i64 (x : Int)) := (hbel.cell (p := ⟨b, off + k, none⟩) hbw).trans hcx
        have hp0 := pw_pos t
        have hp1 := pw_16 t (by omega)
        have hq0 : (0 : Int) ≤ (x : Int) / pw t := Int.ediv_nonneg (by omega) (by omega)
        have hq1 : (x : Int) / pw t ≤ 65536 := by have := Int.ediv_le_self (a := (x : Int)) (pw t) (by omega); omega
        by_cases htl : t < wd
        · by_cases hbit : (x : Int) / pw t % 2 = 1
          · have hbb : ((x : Int) / pw t % 2 == 1) = true := beq_iff_eq.2 hbit
            have HB : Hid ((x : Int) / pw t % 2 = 1) := hbit
            clear hbit
            go_wp2_with fail
            go_quiet ((go_at_call 34; exact Calls.quiet_of_same (power_nat _ (by omega) _)))
            go_wp2_with fail
            rw [show (k : Int) * (wd : Int) + (t : Int) = ((k * wd + t : Nat) : Int) from by push_cast; rfl]
            have hj : (k * wd + t) / 8 < ns.length := by rw [hnl, ← HNB.out]; exact at_lt _ _ _ _ hlt htl
            have S : Hid _ := step_yes ns A x wd k t hA hnV hj (bit_nat x t HB.out)
            have ha0 : k * wd + t ≤ 1616 := by omega
            generalize hat : k * wd + t = a at *
            clear hat hbb HB
            have hownq := ownsRow_drewN hown nq
            have hbelq := below_drewN hbel nq
            clear hown hbel hcr
            generalize wr.drewN nq = wq at *
            clear wr
            have hce := hownq.cellAt (a / 8) (by omega)
            rw [bcells_get ns _ hj] at hce
            have hfr := hownq.frozenAt (a / 8)
            have hy : ns[a / 8] < 256 := hn256 _ (List.getElem_mem hj)
            have hj2 : (a : Int) / 8 < (nb : Int) := by omega
            have hj3 : a / 8 < nb := by omega
            generalize hyy : ns[a / 8] = y at *
            have HYY : Hid (ns[a / 8] = y) := hyy
            clear hyy
            have he8 : Hid (((a : Int) / 8).toNat = a / 8) := show _ = _ by omega
            have hce' : wq.cell? ⟨w.heap.size, ((a : Int) / 8).toNat, none⟩ = some (.int .u8 (y : Int)) := by rw [he8.out]; exact hce
            have hfr' : wq.frozen? ⟨w.heap.size, ((a : Int) / 8).toNat, none⟩ = false := by rw [he8.out]; exact hfr
            have hw1 : IntKind.i64.wrap ((a : Int) / 8) = ((a / 8 : Nat) : Int) := by simp [IntKind.wrap_i64]; omega
            have hw2 : IntKind.i64.wrap ((a : Int) % 8) = ((a % 8 : Nat) : Int) := by simp [IntKind.wrap_i64]; omega
            have hr1 := pw_pos (a % 8)
            have hr2 : pw (a % 8) ≤ 128 := pw_le (a % 8) 7 (by omega)
            have hw3 : IntKind.u8.wrap (pw (a % 8)) = pw (a % 8) := wrap_u8_id (by omega) (by omega)
            have hw4 : IntKind.u8.wrap ((y : Int) + pw (a % 8)) = (y : Int) + pw (a % 8) := wrap_u8_id (by omega) (byte_sum S.out.1)
            go_region_with (go_at_call 34; refine (power_mod8 a _).mono ?_; rintro e w' ⟨rfl, rfl⟩)
            all_goals
              go_wp2
              go_roundw
              case rel =>
                try rw [he8.out]
                exact ⟨t + 1, ns.set (a / 8) (y + 2 ^ (a % 8)), by omega, by go_num, by rw [List.length_set]; exact hnl, set_lt ns _ _ hn256 S.out.1, S.out.2, bits_store hownq (a / 8) y (a % 8), (hbelq.setCell (Nat.le_refl _) _).drew⟩
              case measure => simp [intOf]; omega
          · have hbb : ((x : Int) / pw t % 2 == 1) = false := beq_eq_false_iff_ne.2 hbit
            go_wp2_with fail
            go_quiet ((go_at_call 34; exact Calls.quiet_of_same (power_nat _ (by omega) _)))
            go_wp2
            go_roundw
            case rel => exact ⟨t + 1, ns, by omega, by go_num, hnl, hn256, by rw [hnV, step_no x t (bit_nat_no x t hbit)], ownsRow_drewN hown nq, below_drewN hbel nq⟩
            case measure => simp [intOf]; omega
        · have htw : t = wd := by omega
          subst htw
          go_wp2
          go_roundw
          case rel => exact ⟨k + 1, ns, by omega, by go_num, hnl, hn256, by rw [hnV, hNs.out, hxlt.out], hown, hbel⟩
          case measure => simp [intOf]; omega
    · have hkl : k = l.length := by omega
      subst hkl
      rw [List.take_length] at hnV
      have hcv := run_convert_bytes_arg (P := Try.prog) wr 44 5 Try.underlying44 Try.underlying5 w.heap.size 0 nb nb (ns.map (fun (n : Nat) => (n : Int))) (by simp [hnl]) (bcells_at hown hnl) 9 Try.underlying9
      clear hown
      go_wp2
      go_ret
      exact ⟨ns, by rw [hnl, HNB.out], hn256, hnV, rfl, hbel⟩
end Go.Proofs.Ytjidbonhhpkljaa.Pk

/- The contract of the code's appendPacked: the same bytes, by another road. -/
set_option linter.unusedVariables false
namespace Go.Proofs.Ytjidbonhhpkljaa.Pk
open Go.RowKit Go.Proofs.Ytjidbonhhpkljaa.Pm

theorem wraps_i64 (n : Int) (h₀ : 0 ≤ n) (h₁ : n < 2 ^ 62) : IntKind.i64.wrap n = n := by rw [IntKind.wrap_i64]; omega

/-- 'held | n << bits', held below 2^bits: a sum. -/
theorem or_shl (hh x qq : Nat) (hq : qq ≤ 16) (hx : x < 65536) (hh0 : hh < 2 ^ qq) : bits .or .i64 (hh : Int) (wrap64 ((x : Int) * 2 ^ qq)) = ((hh + 2 ^ qq * x : Nat) : Int) := by
  have h1 : 2 ^ qq ≤ 2 ^ 16 := Nat.pow_le_pow_right (by omega) hq
  have h2 : 2 ^ qq * x ≤ 2 ^ 16 * 65536 := Nat.mul_le_mul h1 (by omega)
  have e : wrap64 ((x : Int) * 2 ^ qq) = ((2 ^ qq * x : Nat) : Int) := by
    rw [show (x : Int) * 2 ^ qq = ((2 ^ qq * x : Nat) : Int) from by push_cast; rw [Int.mul_comm]]
    generalize 2 ^ qq * x = z at *
    unfold wrap64; omega
  rw [e, (bits_nat .i64 62 (by decide) wraps_i64 hh (2 ^ qq * x) (by omega) (by omega)).2, Nat.or_comm, ← Nat.two_pow_add_eq_or_of_lt hh0 x, Nat.add_comm]

theorem hq_next (n qq k wd : Nat) (h : 8 * n + qq = k * wd) : 8 * n + (qq + wd) = (k + 1) * wd := by rw [Nat.add_mul k 1 wd, Nat.one_mul]; omega

theorem bcells_snoc (ns : List Nat) (x : Nat) : bcells ns ++ [.int .u8 (x : Int)] = bcells (ns ++ [x]) := by simp [bcells]

theorem snoc_lt (ns : List Nat) (x : Nat) (h : ∀ y ∈ ns, y < 256) (hx : x < 256) : ∀ y ∈ ns ++ [x], y < 256 := by
  intro y hy
  rcases List.mem_append.1 hy with h1 | h1
  · exact h y h1
  · simp at h1; omega

/-- A byte is laid. -/
theorem V_push (ns : List Nat) (hh A : Nat) (h : V ns + 256 ^ ns.length * hh = A) : V (ns ++ [hh % 256]) + 256 ^ (ns ++ [hh % 256]).length * (hh / 256) = A := by
  rw [V_append, List.length_append, List.length_singleton, Nat.pow_succ, Nat.mul_assoc, ← h]
  have : V [hh % 256] = hh % 256 := by simp [V]
  rw [this, Nat.add_assoc, ← Nat.mul_add]
  congr 2; omega

theorem div_lt_pow (hh qq : Nat) (h8 : 8 ≤ qq) (h : hh < 2 ^ qq) : hh / 256 < 2 ^ (qq - 8) := by
  rw [Nat.div_lt_iff_lt_mul (by omega), show (256 : Nat) = 2 ^ 8 by rfl, ← Nat.pow_add, show qq - 8 + 8 = qq by omega]; exact h

theorem add_lt_pow (hh x qq wd : Nat) (h : hh < 2 ^ qq) (hx : x < 2 ^ wd) : hh + 2 ^ qq * x < 2 ^ (qq + wd) := by
  rw [Nat.pow_add]
  have : 2 ^ qq * (x + 1) ≤ 2 ^ qq * 2 ^ wd := Nat.mul_le_mul_left _ hx
  rw [Nat.mul_add] at this; omega

/-- One number more. -/
theorem N_next (ns : List Nat) (hh x qq wd k : Nat) (l : List Nat) (hk : k < l.length) (hx : l[k] = x) (hq : 8 * ns.length + qq = k * wd) (h : V ns + 256 ^ ns.length * hh = N wd (l.take k)) :
    V ns + 256 ^ ns.length * (hh + 2 ^ qq * x) = N wd (l.take (k + 1)) := by
  rw [N_take_succ wd l k hk, hx, ← h, Nat.mul_add, ← Nat.mul_assoc, pow256, ← Nat.pow_add, hq, Nat.mul_comm k wd, Nat.add_assoc]

set_option maxRecDepth 100000 in
set_option maxHeartbeats 2000000 in
theorem appendPacked_any (l : List Nat) (wd : Nat) (ao : Option Addr) (b off cap : Nat) (w : World) (hw : wd ≤ 16) (hl : l.length ≤ 100) (hlt0 : ∀ x ∈ l, x < 2 ^ wd)
    (hs : 0 < l.length → ao = some ⟨b, off, none⟩) (hb : 0 < l.length → b < w.heap.size) (hc : ∀ j, j < l.length → w.cell? ⟨b, off + j, none⟩ = some (.int .i64 ((l.getD j 0 : Nat) : Int))) :
    Calls Try.prog 37 #[.slice none 0 0, .slice ao l.length cap, .int .i64 wd] w fun e w' => ∃ (v : Value) (ns : List Nat), ns.length = (l.length * wd + 7) / 8 ∧ (∀ x ∈ ns, x < 256) ∧ V ns = N wd l ∧
      e = .returned v ∧ w'.ownsRow w.heap.size 5 1 v ns.length (bcells ns) ∧ Below w.heap.size w w' := by
  obtain ⟨i0, hi, hz0, hz1, hz2⟩ := info_parts Try.info5
  have hm : l.length * wd ≤ 1600 := Nat.mul_le_mul hl hw
  go_enter Try.func37, Try.ntmps37
  go_wp2_with fail
  go_loopw [0, 7, 8, 13] (fun bv h q i wr => ∃ (k hh qq : Nat) (ns : List Nat), k ≤ l.length ∧ i = .int .i64 k ∧ h = .int .i64 hh ∧ q = .int .i64 qq ∧ qq < 8 ∧ hh < 2 ^ qq ∧ 8 * ns.length + qq = k * wd ∧ (∀ x ∈ ns, x < 256) ∧ V ns + 256 ^ ns.length * hh = N wd (l.take k) ∧
      wr.ownsRow w.heap.size 5 1 bv ns.length (bcells ns) ∧ Below w.heap.size w wr) (fun _ _ _ i _ => l.length - (intOf i).toNat)
  case atStart => exact ⟨0, 0, 0, [], Nat.zero_le _, rfl, rfl, rfl, by omega, by simp, by simp, by simp, by simp [V, N], World.ownsRow_nil _ _ _ _, Below.refl _ _⟩
  case round =>
    obtain ⟨k, hh, qq, ns, hk, rfl, rfl, rfl, hq8, hhq, hnq, hn256, hnV, hown, hbel⟩ := hrel
    have HNQ : Hid (8 * ns.length + qq = k * wd) := hnq
    have HNV : Hid (V ns + 256 ^ ns.length * hh = N wd (l.take k)) := hnV
    clear hnV hnq
    by_cases hlt : k < l.length
    · obtain rfl := hs (by omega)
      have hx : l.getD k 0 = l[k] := by simp [List.getD, hlt]
      have hcx : w.cell? ⟨b, off + k, none⟩ = some (.int .i64 ((l[k] : Nat) : Int)) := by rw [hc k hlt, hx]
      have hbw : b < w.heap.size := hb (by omega)
      have hcr : wr.cell? ⟨b, off + k, none⟩ = some (.int .i64 ((l[k] : Nat) : Int)) := (hbel.cell (p := ⟨b, off + k, none⟩) hbw).trans hcx
      have hxw : l[k] < 2 ^ wd := hlt0 _ (List.getElem_mem hlt)
      have hx64 : (l[k] : Nat) < 65536 := by have h2 : 2 ^ wd ≤ 2 ^ 16 := Nat.pow_le_pow_right (by omega) hw; omega
      have hkw : (k + 1) * wd ≤ 100 * 16 := Nat.mul_le_mul (by omega) hw
      have HN : Hid (V ns + 256 ^ ns.length * (hh + 2 ^ qq * l[k]) = N wd (l.take (k + 1))) := N_next ns hh _ qq wd k l hlt rfl HNQ.out HNV.out
      have HQ : Hid (8 * ns.length + (qq + wd) = (k + 1) * wd) := hq_next _ _ _ _ HNQ.out
      have HP : Hid (hh + 2 ^ qq * l[k] < 2 ^ (qq + wd)) := add_lt_pow hh _ qq wd hhq hxw
      have hor := or_shl hh l[k] qq (by omega) hx64 hhq
      clear hx hc hb hs HNQ HNV
      generalize l[k] = x at *
      generalize hh + 2 ^ qq * x = h2 at *
      go_wp2_with fail
      clear hor
      go_loopw [0, 7, 8] (fun bv h q wr => ∃ (hh qq2 : Nat) (ns : List Nat), h = .int .i64 hh ∧ q = .int .i64 qq2 ∧ qq2 < 24 ∧ hh < 2 ^ qq2 ∧ 8 * ns.length + qq2 = (k + 1) * wd ∧ (∀ x ∈ ns, x < 256) ∧ V ns + 256 ^ ns.length * hh = N wd (l.take (k + 1)) ∧
          wr.ownsRow w.heap.size 5 1 bv ns.length (bcells ns) ∧ Below w.heap.size w wr) (fun _ _ q _ => (intOf q).toNat)
      case atStart => exact ⟨h2, qq + wd, ns, rfl, by go_num, by omega, HP.out, HQ.out, hn256, HN.out, hown, hbel⟩
      case round =>
        clear hown hbel hn256 HP HQ HN hhq hcr
        obtain ⟨hh, q2, ns, rfl, rfl, hq24, hhq, hnq, hn256, hnV, hown, hbel⟩ := hrel
        have HNQ : Hid (8 * ns.length + q2 = (k + 1) * wd) := hnq
        have HNV : Hid (V ns + 256 ^ ns.length * hh = N wd (l.take (k + 1))) := hnV
        have hnl : ns.length ≤ 200 := by omega
        have hhb : hh < 16777216 := by have h2 : 2 ^ q2 ≤ 2 ^ 24 := Nat.pow_le_pow_right (by omega) (by omega); omega
        clear hnV hnq
        by_cases h8 : 8 ≤ q2
        · go_wp2_with (at_builtin; refine wpList_append_own _ rfl _ _ 44 rfl w.heap.size 5 i0 (.int .u8 0) 1 1 Try.underlying44 hi hz0 hz1 hz2 rfl (by decide) _ _ _ rfl (hown.alloc _) ⟨wr.heap.size, 0, none⟩ 1 1 [.int .u8 ((hh : Int) % 256)] rfl rfl ?c1 ?c2 ?c3 ?c4 ?c5 ?_)
          case c1 =>
            intro j u hj
            match j, hj with
            | 0, hj => simp at hj; subst hj; simp [Addr.add]
          case c2 => intro u hu; simp at hu; subst hu; rfl
          case c3 => unfold maxLen; omega
          case c4 => omega
          case c5 => have := hbel.size; simp; omega
          · intro v' w1 hown' hgrow _
            have hbel' : Below w.heap.size w w1 := (hbel.alloc hbel.size _).grown hgrow (by have := hbel.size; simp; omega) (fun j hj => (hown.lt j hj).1)
            rw [show ((hh : Int) % 256) = ((hh % 256 : Nat) : Int) from by omega, bcells_snoc] at hown'
            clear hown hgrow hbel
            go_wp2
            go_roundw
            case rel => exact ⟨hh / 256, q2 - 8, ns ++ [hh % 256], by go_num, by go_num, by omega, div_lt_pow hh q2 h8 hhq, by have := HNQ.out; simp; omega, snoc_lt ns _ hn256 (by omega), V_push ns hh _ HNV.out, by simpa using hown', hbel'⟩
            case measure => simp [intOf]; omega
        · go_wp2_with fail
          go_roundw
          case rel => exact ⟨k + 1, hh, q2, ns, by omega, by go_num, rfl, rfl, by omega, hhq, HNQ.out, hn256, HNV.out, hown, hbel⟩
          case measure => simp [intOf]; omega
    · have hkl : k = l.length := by omega
      subst hkl
      have HNV2 : Hid (V ns + 256 ^ ns.length * hh = N wd l) := by have := HNV.out; rwa [List.take_length] at this
      have hnl : ns.length ≤ 200 := by have := HNQ.out; omega
      have hhb : hh < 256 := by have h2 : 2 ^ qq ≤ 2 ^ 8 := Nat.pow_le_pow_right (by omega) (by omega); omega
      by_cases hq0 : 0 < qq
      · go_wp2_with (at_builtin; refine wpList_append_own _ rfl _ _ 44 rfl w.heap.size 5 i0 (.int .u8 0) 1 1 Try.underlying44 hi hz0 hz1 hz2 rfl (by decide) _ _ _ rfl (hown.alloc _) ⟨wr.heap.size, 0, none⟩ 1 1 [.int .u8 ((hh : Int))] rfl rfl ?d1 ?d2 ?d3 ?d4 ?d5 ?_)
        case d1 =>
          intro j u hj
          match j, hj with
          | 0, hj => simp at hj; subst hj; simp [Addr.add]
        case d2 => intro u hu; simp at hu; subst hu; rfl
        case d3 => unfold maxLen; omega
        case d4 => omega
        case d5 => have := hbel.size; simp; omega
        · intro v' w1 hown' hgrow _
          have hbel' : Below w.heap.size w w1 := (hbel.alloc hbel.size _).grown hgrow (by have := hbel.size; simp; omega) (fun j hj => (hown.lt j hj).1)
          rw [bcells_snoc] at hown'
          clear hown hgrow hbel
          go_wp2
          go_ret
          exact ⟨_, ns ++ [hh], by have := HNQ.out; simp; omega, snoc_lt ns _ hn256 hhb, by rw [V_append, ← HNV2.out]; simp [V], rfl, by simpa using hown', hbel'⟩
      · have hq00 : qq = 0 := by omega
        subst hq00
        go_wp2
        go_ret
        exact ⟨_, ns, by have := HNQ.out; omega, hn256, by have := HNV2.out; simp at hhq; subst hhq; simpa using this, rfl, hown, hbel⟩
end Go.Proofs.Ytjidbonhhpkljaa.Pk

/- What Pack and Unpack answer, as plain functions; and the contracts of bits and appendPacked in these words. -/
set_option linter.unusedVariables false
namespace Go.Proofs.Ytjidbonhhpkljaa.Pm
theorem V_eq_N (l : List Nat) : V l = N 8 l := by
  induction l with
  | nil => rfl
  | cons x r ih => simp only [V, N, ih]

/-- The bytes of numbers of w bits. -/
def packBytes (wd : Nat) (l : List Nat) : List Nat := D 8 (N wd l) ((l.length * wd + 7) / 8)

theorem packBytes_lt (wd : Nat) (l : List Nat) : ∀ x ∈ packBytes wd l, x < 256 := fun x hx => D_lt 8 _ _ x hx
theorem packBytes_length (wd : Nat) (l : List Nat) : (packBytes wd l).length = (l.length * wd + 7) / 8 := D_length _ _ _

theorem packBytes_of (wd : Nat) (l ns : List Nat) (h1 : ns.length = (l.length * wd + 7) / 8) (h2 : ∀ x ∈ ns, x < 256) (h3 : V ns = N wd l) : ns = packBytes wd l := by
  refine V_inj ns _ h2 (packBytes_lt wd l) (by rw [packBytes_length, h1]) ?_
  rw [V_eq_N (packBytes wd l), packBytes, N_D, ← h3, ← h1, ← pow256, Nat.mod_eq_of_lt (V_lt ns h2)]
end Go.Proofs.Ytjidbonhhpkljaa.Pm

namespace Go.Proofs.Ytjidbonhhpkljaa.Pk
open Go.RowKit Go.Proofs.Ytjidbonhhpkljaa.Pm

/-- Bytes as a text. -/
def strOf (ns : List Nat) : ByteArray := strOfNums (ns.map (fun (n : Nat) => (n : Int)))

theorem strOf_size (ns : List Nat) : (strOf ns).size = ns.length := by
  unfold strOf strOfNums
  simp [ByteArray.size]

def fitsW (wn : Nat) (zs : List Int) : Bool := zs.all fun z => decide (0 ≤ z) && decide (z < pw wn)

/-- Pack's answer. -/
def packOf (zs : List Int) (wd : Int) : ByteArray × Int :=
  if 100 < zs.length then (ByteArray.empty, 6) else if wd < 0 ∨ 16 < wd then (ByteArray.empty, 2)
  else if fitsW wd.toNat zs then (strOf (packBytes wd.toNat (zs.map Int.toNat)), 0) else (ByteArray.empty, 1)

theorem packOf_long {zs : List Int} {wd : Int} (h : 100 < zs.length) : packOf zs wd = (ByteArray.empty, 6) := by simp [packOf, h]
theorem packOf_wide {zs : List Int} {wd : Int} (h : ¬ 100 < zs.length) (h2 : wd < 0 ∨ 16 < wd) : packOf zs wd = (ByteArray.empty, 2) := by simp [packOf, h, h2]
theorem packOf_bad {zs : List Int} {wn : Nat} (h : ¬ 100 < zs.length) (h2 : wn ≤ 16) (h3 : fitsW wn zs = false) : packOf zs wn = (ByteArray.empty, 1) := by
  have h4 : ¬ ((wn : Int) < 0 ∨ 16 < (wn : Int)) := by omega
  simp [packOf, h, h4, h3]
theorem packOf_ok {zs : List Int} {wn : Nat} (h : ¬ 100 < zs.length) (h2 : wn ≤ 16) (h3 : fitsW wn zs = true) : packOf zs wn = (strOf (packBytes wn (zs.map Int.toNat)), 0) := by
  have h4 : ¬ ((wn : Int) < 0 ∨ 16 < (wn : Int)) := by omega
  simp [packOf, h, h4, h3]

theorem fitsW_mem {wn : Nat} {zs : List Int} (h : fitsW wn zs = true) : ∀ z ∈ zs, 0 ≤ z ∧ z < pw wn := by
  intro z hz
  have := List.all_eq_true.1 h z hz
  simpa using this
theorem fitsW_bad {wn : Nat} {zs : List Int} {k : Nat} (hk : k < zs.length) (h : zs[k] < 0 ∨ pw wn ≤ zs[k]) : fitsW wn zs = false := by
  rw [Bool.eq_false_iff]
  intro h2
  have := fitsW_mem h2 _ (List.getElem_mem hk)
  omega
theorem fitsW_all {wn : Nat} {zs : List Int} (h : ∀ j, (hj : j < zs.length) → 0 ≤ zs[j] ∧ zs[j] < pw wn) : fitsW wn zs = true := by
  unfold fitsW
  rw [List.all_eq_true]
  intro z hz
  obtain ⟨j, hj, rfl⟩ := List.getElem_of_mem hz
  have := h j hj
  simp [this.1, this.2]

theorem toNat_lt {wn : Nat} {zs : List Int} (h : fitsW wn zs = true) : ∀ x ∈ zs.map Int.toNat, x < 2 ^ wn := by
  intro x hx
  obtain ⟨z, hz, rfl⟩ := List.mem_map.1 hx
  have := fitsW_mem h z hz
  unfold pw at this
  omega

theorem toNat_cells {w : World} {wn : Nat} {zs : List Int} (h : fitsW wn zs = true) {b off : Nat} (hc : ∀ j, j < zs.length → w.cell? ⟨b, off + j, none⟩ = some (.int .i64 (zs.getD j 0))) :
    ∀ j, j < (zs.map Int.toNat).length → w.cell? ⟨b, off + j, none⟩ = some (.int .i64 (((zs.map Int.toNat).getD j 0 : Nat) : Int)) := by
  intro j hj
  have hj' : j < zs.length := by simpa using hj
  rw [hc j hj']
  have := fitsW_mem h _ (List.getElem_mem hj')
  simp [List.getD, hj', Int.toNat_of_nonneg this.1]

theorem bits_ints (zs : List Int) (wn : Nat) (ao : Option Addr) (b off cap : Nat) (w : World) (hw : wn ≤ 16) (hl : ¬ 100 < zs.length) (hf : fitsW wn zs = true)
    (hs : 0 < zs.length → ao = some ⟨b, off, none⟩) (hb : 0 < zs.length → b < w.heap.size) (hc : ∀ j, j < zs.length → w.cell? ⟨b, off + j, none⟩ = some (.int .i64 (zs.getD j 0))) :
    Calls Try.prog 35 #[.slice ao zs.length cap, .int .i64 wn] w fun e w' => e = .returned (.string (strOf (packBytes wn (zs.map Int.toNat)))) ∧ Below w.heap.size w w' := by
  have h := bits_any (zs.map Int.toNat) wn ao b off cap w hw (by simp; omega) (toNat_lt hf) (by simpa using hs) (by simpa using hb) (toNat_cells hf hc)
  rw [List.length_map] at h
  refine h.mono ?_
  rintro e w' ⟨ns, h1, h2, h3, rfl, h5⟩
  have := packBytes_of wn (zs.map Int.toNat) ns (by rw [List.length_map]; exact h1) h2 h3
  subst this
  exact ⟨rfl, h5⟩

theorem appendPacked_ints (zs : List Int) (wn : Nat) (ao : Option Addr) (b off cap : Nat) (w : World) (hw : wn ≤ 16) (hl : ¬ 100 < zs.length) (hf : fitsW wn zs = true)
    (hs : 0 < zs.length → ao = some ⟨b, off, none⟩) (hb : 0 < zs.length → b < w.heap.size) (hc : ∀ j, j < zs.length → w.cell? ⟨b, off + j, none⟩ = some (.int .i64 (zs.getD j 0))) :
    Calls Try.prog 37 #[.slice none 0 0, .slice ao zs.length cap, .int .i64 wn] w fun e w' => ∃ v, e = .returned v ∧
      w'.ownsRow w.heap.size 5 1 v (packBytes wn (zs.map Int.toNat)).length (bcells (packBytes wn (zs.map Int.toNat))) ∧ Below w.heap.size w w' := by
  have h := appendPacked_any (zs.map Int.toNat) wn ao b off cap w hw (by simp; omega) (toNat_lt hf) (by simpa using hs) (by simpa using hb) (toNat_cells hf hc)
  rw [List.length_map] at h
  refine h.mono ?_
  rintro e w' ⟨v, ns, h1, h2, h3, rfl, h4, h5⟩
  have := packBytes_of wn (zs.map Int.toNat) ns (by rw [List.length_map]; exact h1) h2 h3
  subst this
  exact ⟨_, rfl, h4, h5⟩

/-- 'string(b)', b the call's own bytes. -/
theorem run_string_own {w : World} {base n : Nat} {v : Value} {ns : List Nat} (h : w.ownsRow base 5 1 v n (bcells ns)) (hl : ns.length = n) :
    (convert 44 9 v).run Try.prog w = .ok (.string (strOf ns)) w := by
  rcases h.2 with ⟨h1, h2⟩ | ⟨g, cap, cur, h1, _⟩
  · have hn : ns = [] := List.eq_nil_of_length_eq_zero (by omega)
    subst hn
    subst h1
    exact run_convert_bytes_nil w 44 5 Try.underlying44 Try.underlying5 0 0 9 Try.underlying9
  · subst h1
    exact run_convert_bytes_arg w 44 5 Try.underlying44 Try.underlying5 g 0 n cap _ (by simp [hl]) (bcells_at h hl) 9 Try.underlying9
end Go.Proofs.Ytjidbonhhpkljaa.Pk

/- Plain mathematics of columns as bytes: varints, zigzag, runs, dictionaries, as functions on lists of numbers. -/
set_option linter.unusedVariables false
namespace Go.Proofs.Ytjidbonhhpkljaa.Ec
open Go.Proofs.Ytjidbonhhpkljaa.Pk Go.Proofs.Ytjidbonhhpkljaa.Pm

/-- A varint, of at most so many bytes. -/
def vintF : Nat → Nat → List Nat
  | 0, n => []
  | f + 1, n => if n < 128 then [n] else (n % 128 + 128) :: vintF f (n / 128)

def vint (n : Nat) : List Nat := vintF 10 n

theorem vintF_small (f n : Nat) (h : n < 128) : vintF (f + 1) n = [n] := by simp [vintF, h]
theorem vintF_big (f n : Nat) (h : ¬ n < 128) : vintF (f + 1) n = (n % 128 + 128) :: vintF f (n / 128) := by simp [vintF, h]

theorem vintF_lt (f n : Nat) : ∀ x ∈ vintF f n, x < 256 := by
  induction f generalizing n with
  | zero => simp [vintF]
  | succ f ih =>
    intro x hx
    by_cases h : n < 128
    · rw [vintF_small f n h] at hx; simp at hx; omega
    · rw [vintF_big f n h] at hx
      rcases List.mem_cons.1 hx with h1 | h1
      · omega
      · exact ih _ x h1

theorem vintF_length (f n : Nat) : (vintF f n).length ≤ f := by
  induction f generalizing n with
  | zero => simp [vintF]
  | succ f ih =>
    by_cases h : n < 128
    · rw [vintF_small f n h]; simp
    · rw [vintF_big f n h]; have := ih (n / 128); simp; omega

theorem pow128 (f : Nat) (n : Nat) (h : n < 128 ^ (f + 1)) : n / 128 < 128 ^ f := by
  rw [Nat.pow_succ] at h
  exact Nat.div_lt_of_lt_mul (by rw [Nat.mul_comm]; exact h)

theorem lt_128_10 (n : Nat) (h : n < 18446744073709551616) : n < 128 ^ 10 := by
  have : (128 : Nat) ^ 10 = 1180591620717411303424 := by decide
  omega

theorem strOf_append (a b : List Nat) : strOf (a ++ b) = strOf a ++ strOf b := by
  unfold strOf strOfNums
  apply ByteArray.ext
  simp

theorem strOf_one (x : Nat) : strOf [x] = ⟨#[UInt8.ofNat x]⟩ := by
  unfold strOf strOfNums
  simp

/-- Zigzag. -/
def zz (n : Int) : Nat := if n < 0 then (-2 * n - 1).toNat else (2 * n).toNat

theorem zz_lt (n : Int) (h0 : -9223372036854775808 ≤ n) (h1 : n ≤ 9223372036854775807) : zz n < 18446744073709551616 := by
  unfold zz; split <;> omega

theorem or128 : ∀ x, x < 256 → x ||| 128 = x % 128 + 128 := by decide +kernel
end Go.Proofs.Ytjidbonhhpkljaa.Ec

/- Rows of the call's own: a lower base, what stays below, and 'append' that says whether the row has moved. -/
set_option linter.unusedVariables false
namespace Go.Proofs.Ytjidbonhhpkljaa.Pk
open Go.RowKit Go.Proofs.Ytjidbonhhpkljaa.Pm

theorem ownsRow_base {w : World} {base B : Nat} {e : TypeId} {size : Nat} {v : Value} {n : Nat} {xs : List Value} (h : w.ownsRow base e size v n xs) (hb : B ≤ base) : w.ownsRow B e size v n xs := by
  refine ⟨h.1, ?_⟩
  rcases h.2 with h1 | ⟨g, cap, cur, h1, h2, h3⟩
  · exact .inl h1
  · exact .inr ⟨g, cap, cur, h1, Nat.le_trans hb h2, h3⟩

theorem ownsRow_below {w w' : World} {base : Nat} {e : TypeId} {size : Nat} {v : Value} {n : Nat} {xs : List Value} (h : w.ownsRow base e size v n xs) (hb : Below w.heap.size w w') : w'.ownsRow base e size v n xs := by
  refine ⟨h.1, ?_⟩
  rcases h.2 with h1 | ⟨g, cap, cur, h1, h2, h3, h4⟩
  · exact .inl h1
  · exact .inr ⟨g, cap, cur, h1, h2, by rw [hb.block g (lt_of_block h3)]; exact h3, h4⟩

/-- 'append' on a row of the call's own: it stays where it was, or it moves, and then nothing old has turned. -/
theorem wpList_append_keep {P : Program} (w : World) {ops : Array Oper} {rest : List Oper} {o : Oper} {a : Act} {Q : Exit → Act → World → Prop}
    (hg : o.guard = none) (s x : Operand) (t : TypeId) (hop : o.op = Op.call { callee := Callee.builtin Builtin.append, args := #[s, x], argTypes := #[t, t] })
    (base : Nat) (e : TypeId) (i : TypeInfo) (z : Value) (size bytes : Nat) (h1 : P.underlying t = some (.slice e)) (h2 : P.info? e = some i) (h3 : i.zero = some z) (h4 : i.size = size) (h5 : i.bytes = bytes) (h6 : z.cells.size = size) (h7 : 0 < size)
    (v : Value) (n : Nat) (xs : List Value) (hs : a.eval s = v) (hown : w.ownsRow base e size v n xs)
    (ad : Addr) (m c : Nat) (news : List Value) (hx : a.eval x = .slice (some ad) m c) (hm : 0 < m) (hn : news.length = m * size) (hc : ∀ j u, news[j]? = some u → w.cell? (ad.add j) = some u) (h1c : ∀ u ∈ news, u.oneCell' = true)
    (b1 : n + m ≤ maxLen) (b2 : (n + m) * bytes ≤ 140737488355328) (b3 : base ≤ w.heap.size)
    (hK : ∀ v' w', w'.ownsRow base e size v' (n + m) (xs ++ news) → ((w.grownBy w' none ∧ w'.ownsRow w.heap.size e size v' (n + m) (xs ++ news)) ∨ (v'.ownBlock = v.ownBlock ∧ w.grownBy w' v.ownBlock)) → wpList P ops Q rest (a.put o.dst v') w') :
    wpList P ops Q (o :: rest) a w := by
  rcases hown.2 with ⟨rfl, rfl⟩ | ⟨g, cap, cur, rfl, hbg, hgb, hnc, hcm, hcs, htake⟩
  · have hxs : xs = [] := List.eq_nil_of_length_eq_zero (by simpa using hown.1)
    subst hxs
    exact wpList_append_grows w hg s x t hop e i z size bytes h1 h2 h3 h4 h5 h6 h7 none 0 0 [] hs (fun _ => ⟨rfl, rfl⟩) (by simp) (fun b h => by cases h) ad m c news hx hn hc h1c (by omega) b1 b2
      fun v' w' o1 g1 => hK v' w' (ownsRow_base o1 b3) (.inl ⟨g1, o1⟩)
  · by_cases hr : n + m ≤ cap
    · exact wpList_append_fits w hg s x t hop base e i size h1 h2 h4 g n cap xs hs hown ad m c news hx hn hc h1c hr fun w' o1 g1 => hK _ w' o1 (.inr ⟨rfl, g1⟩)
    · exact wpList_append_grows w hg s x t hop e i z size bytes h1 h2 h3 h4 h5 h6 h7 (some ⟨g, 0, none⟩) n cap xs hs (fun h => by cases h) hown.1 (fun b hb => by cases hb; exact hown.cells (g := g) rfl) ad m c news hx hn hc h1c (by omega) b1 b2
        fun v' w' o1 g1 => hK v' w' (ownsRow_base o1 b3) (.inl ⟨g1, o1⟩)

end Go.Proofs.Ytjidbonhhpkljaa.Pk

/- The contracts of the statement's own helpers on lists of numbers: lentInts and sameInts. -/
set_option linter.unusedVariables false
namespace Go.Proofs.Ytjidbonhhpkljaa.Pk
open Go.RowKit Go.Proofs.Ytjidbonhhpkljaa.Pm

theorem getD_get {zs : List Int} {k : Nat} (h : k < zs.length) : zs.getD k 0 = zs[k] := by simp [List.getD, h]

/-- The cells of numbers. -/
def icells (zs : List Int) : List Value := zs.map (Value.int .i64)

set_option maxRecDepth 100000 in
set_option maxHeartbeats 2000000 in
theorem sameInts_any (xs ys : List Int) (ao bo : Option Addr) (b off cap b2 off2 cap2 : Nat) (w : World) (hm : xs.length ≤ maxLen) (hm2 : ys.length ≤ maxLen)
    (hs : 0 < xs.length → ao = some ⟨b, off, none⟩) (hc : ∀ j, j < xs.length → w.cell? ⟨b, off + j, none⟩ = some (.int .i64 (xs.getD j 0)))
    (hs2 : 0 < ys.length → bo = some ⟨b2, off2, none⟩) (hc2 : ∀ j, j < ys.length → w.cell? ⟨b2, off2 + j, none⟩ = some (.int .i64 (ys.getD j 0))) :
    Calls Try.prog 13 #[.slice ao xs.length cap, .slice bo ys.length cap2] w fun e w' => e = .returned (.bool (decide (xs = ys))) ∧ ∃ n, w' = w.drewN n := by
  unfold maxLen at hm hm2
  by_cases hl : xs.length = ys.length
  · have hle : ((xs.length : Int) != (ys.length : Int)) = false := by simp [hl]
    have HL : Hid (xs.length = ys.length) := hl
    clear hl
    go_enter Try.func13, Try.ntmps13
    go_wp2_with fail
    clear hle
    go_loopw [5] (fun i wr => ∃ k : Nat, k ≤ xs.length ∧ i = .int .i64 k ∧ xs.take k = ys.take k ∧ ∃ n, wr = w.drewN n) (fun i _ => xs.length - (intOf i).toNat)
    case atStart => exact ⟨0, Nat.zero_le _, rfl, rfl, 0, rfl⟩
    case round =>
      obtain ⟨k, hk, rfl, htk, n, hwr⟩ := hrel
      have HW : Hid (wr = w.drewN n) := hwr
      have HT : Hid (xs.take k = ys.take k) := htk
      clear hwr htk
      by_cases hlt : k < xs.length
      · have hlt2 : k < ys.length := by rw [← HL.out]; exact hlt
        obtain rfl := hs (by omega)
        obtain rfl := hs2 (by omega)
        have hcx := hc k hlt
        rw [getD_get hlt, show w.cell? ⟨b, off + k, none⟩ = wr.cell? ⟨b, off + k, none⟩ from by rw [HW.out]; rfl] at hcx
        have hcy := hc2 k hlt2
        rw [getD_get hlt2, show w.cell? ⟨b2, off2 + k, none⟩ = wr.cell? ⟨b2, off2 + k, none⟩ from by rw [HW.out]; rfl] at hcy
        have HN : Hid (xs[k] ≠ ys[k] → xs ≠ ys) := fun h e => h (by subst e; rfl)
        have HY : Hid (xs[k] = ys[k] → xs.take (k + 1) = ys.take (k + 1)) := fun h => by rw [List.take_succ_eq_append_getElem hlt, List.take_succ_eq_append_getElem hlt2, HT.out, h]
        clear hc hc2 hs hs2 HT
        generalize xs[k] = x at *
        generalize ys[k] = y at *
        by_cases hxy : x = y
        · have hb : (x != y) = false := by simp [hxy]
          have HY2 := HY.out hxy
          have HY3 : Hid (xs.take (k + 1) = ys.take (k + 1)) := HY2
          clear HY HY2 HN hxy
          go_wp2_with fail
          go_quiet (fail)
          go_wp2
          go_roundw
          case rel => exact ⟨k + 1, by omega, by go_num, HY3.out, n + nq, by rw [HW.out]; exact World.drewN_drewN _ _ _⟩
          case measure => simp [intOf]; omega
        · have hb : (x != y) = true := by simp [hxy]
          have HN2 : Hid (xs ≠ ys) := HN.out hxy
          clear HY HN hxy
          go_wp2_with fail
          go_quiet (fail)
          go_wp2
          go_ret
          refine ⟨?_, n + nq, by rw [HW.out]; exact World.drewN_drewN _ _ _⟩
          rw [decide_eq_false HN2.out]
          rfl
      · have he : xs = ys := by
          have := HT.out
          rwa [List.take_of_length_le (by omega), List.take_of_length_le (by rw [← HL.out]; omega)] at this
        have HE : Hid (xs = ys) := he
        clear he
        go_wp2
        go_ret
        exact ⟨by rw [decide_eq_true HE.out]; rfl, n, HW.out⟩
  · have hle : ((xs.length : Int) != (ys.length : Int)) = true := by simp; omega
    have hne : decide (xs = ys) = false := by simp; intro h; exact hl (by rw [h])
    rw [hne]
    clear hne
    go_enter Try.func13, Try.ntmps13
    go_wp2
    go_ret
    exact ⟨rfl, 0, rfl⟩

/-- A row of the call's own, out of its block. -/
theorem owns_of_block {w : World} {base g n : Nat} {e : TypeId} {xs : List Value} (h : w.heap[g]? = some (.cells xs.toArray e (0, 0))) (hl : xs.length = n) (hb : base ≤ g) (hn : n ≤ maxLen) :
    w.ownsRow base e 1 (.slice (some ⟨g, 0, none⟩) n n) n xs :=
  ⟨by omega, .inr ⟨g, n, xs.toArray, rfl, hb, h, Nat.le_refl _, hn, by simp [hl], by simp; exact List.take_of_length_le (by omega)⟩⟩
theorem block_of_owns {w : World} {base g n : Nat} {e : TypeId} {xs : List Value} (h : w.ownsRow base e 1 (.slice (some ⟨g, 0, none⟩) n n) n xs) : w.heap[g]? = some (.cells xs.toArray e (0, 0)) := by
  rcases h.2 with ⟨h1, _⟩ | ⟨g', cap, cur, h1, _, h3, _, _, h6, h7⟩
  · simp at h1
  · simp only [Value.slice.injEq, Option.some.injEq, Addr.mk.injEq, and_true, true_and] at h1
    obtain ⟨rfl, rfl⟩ := h1
    rw [h3]
    have : cur.toList = xs := by rw [← h7]; exact (List.take_of_length_le (by simp [h6])).symm
    rw [← this]

theorem set_fill (zs : List Int) (t : Nat) (ht : t < 8) :
    (icells (zs ++ (List.replicate t (-77) ++ List.replicate (8 - t) 0))).set (zs.length + t) (.int .i64 (-77)) = icells (zs ++ (List.replicate (t + 1) (-77) ++ List.replicate (8 - (t + 1)) 0)) := by
  unfold icells
  rw [← List.map_set]
  congr 1
  rw [List.set_append_right _ _ (by omega), show zs.length + t - zs.length = t by omega, List.set_append_right _ _ (by simp)]
  simp only [List.length_replicate, Nat.sub_self]
  rw [show 8 - t = (8 - (t + 1)) + 1 by omega, List.replicate_succ, List.set_cons_zero, List.replicate_succ' (n := t)]
  simp

theorem made_ints (n : Nat) : (madeCells (Value.cells (.int .i64 0)) (n * 1)).toList = icells (List.replicate n 0) := by
  have : Value.cells (.int .i64 0) = #[.int .i64 0] := rfl
  rw [this, toList_madeCells_one, icells, List.map_replicate, Nat.mul_one]

theorem splice_lent (zs : List Int) : splice (icells (List.replicate (zs.length + 8) 0)) 0 (icells zs) = icells (zs ++ (List.replicate 0 (-77) ++ List.replicate (8 - 0) 0)) := by
  unfold splice icells
  simp [List.map_replicate]

theorem icells_get (zs : List Int) (i : Nat) (h : i < zs.length) : (icells zs)[i]? = some (.int .i64 zs[i]) := by simp [icells, h]
theorem icells_length (zs : List Int) : (icells zs).length = zs.length := by simp [icells]

theorem lent_src (zs : List Int) {ao : Option Addr} {b off : Nat} {w w0 : World} {g : Nat} (hs : 0 < zs.length → ao = some ⟨b, off, none⟩) (hb : 0 < zs.length → b < w.heap.size)
    (hc : ∀ j, j < zs.length → w.cell? ⟨b, off + j, none⟩ = some (.int .i64 (zs.getD j 0))) (hbel : Below w.heap.size w w0) :
    0 < (icells zs).length → some (⟨g, 0, none⟩ : Addr) = some ⟨g, 0, none⟩ ∧ ∃ ad, ao = some ad ∧ ∀ j v, (icells zs)[j]? = some v → w0.cell? (ad.add j) = some v := by
  intro h
  rw [icells_length] at h
  refine ⟨rfl, ⟨b, off, none⟩, hs h, ?_⟩
  intro j v hj
  have hjl : j < zs.length := by have := (List.getElem?_eq_some_iff.1 hj).1; rwa [icells_length] at this
  rw [icells_get zs j hjl] at hj
  rw [Addr.add_lit, hbel.cell (p := ⟨b, off + j, none⟩) (hb h), hc j hjl, getD_get hjl]
  exact hj

theorem lent_copy (zs : List Int) {ao : Option Addr} {b off cap : Nat} {w w0 : World} {g : Nat} (hs : 0 < zs.length → ao = some ⟨b, off, none⟩) (hb : 0 < zs.length → b < w.heap.size)
    (hc : ∀ j, j < zs.length → w.cell? ⟨b, off + j, none⟩ = some (.int .i64 (zs.getD j 0))) (hbel : Below w.heap.size w w0) (hg : w.heap.size ≤ g)
    (hB : w0.heap[g]? = some (.cells (icells (List.replicate (zs.length + 8) 0)).toArray 3 (0, 0))) :
    ∃ w1, (Builtin.copy_ #[22, 22] 3 #[.slice (some ⟨g, 0, none⟩) (zs.length + 8) (zs.length + 8), .slice ao zs.length cap]).run Try.prog w0 = .ok (.int .i64 (zs.length : Int)) w1 ∧
      Hid (w1.heap[g]? = some (.cells (icells (zs ++ (List.replicate 0 (-77) ++ List.replicate (8 - 0) 0))).toArray 3 (0, 0))) ∧ Below w.heap.size w w1 := by
  obtain ⟨i0, hi, hz0, hz1, hz2⟩ := info_parts Try.info3
  have hsz : (Try.prog.info? 3).map (·.size) = some 1 := by rw [hi]; simp [hz1]
  by_cases h : 0 < zs.length
  · obtain ⟨_, ad, rfl, hsrc⟩ := lent_src (g := g) zs hs hb hc hbel (by rw [icells_length]; exact h)
    have hr := run_copy_row (P := Try.prog) w0 22 22 3 3 g 0 (zs.length + 8) (zs.length + 8) ad zs.length cap _ 3 (icells zs) Try.underlying22 hsz hB (by rw [icells_length]; exact (Nat.min_eq_left (by omega)).symm) hsrc (by simp [icells]) (ints_oneCell .i64 zs)
    rw [icells_length] at hr
    refine ⟨_, hr, ?_, below_setRow hbel hg _⟩
    show _ = _
    rw [← splice_lent]
    simpa [splice, icells_length] using setRow_heap w0 g _ _ 3 _ hB
  · have h0 : zs = [] := List.eq_nil_of_length_eq_zero (by omega)
    subst h0
    exact ⟨w0, run_copy_none (P := Try.prog) w0 22 22 3 3 _ ao _ _ _ cap Try.underlying22 hsz (by simp), by show _ = _; simpa using hB, hbel⟩

set_option maxRecDepth 100000 in
set_option maxHeartbeats 2000000 in
theorem lentInts_any (zs : List Int) (ao : Option Addr) (b off cap : Nat) (w : World) (hreach : zs.length * 8 ≤ 140737488351232)
    (hs : 0 < zs.length → ao = some ⟨b, off, none⟩) (hb : 0 < zs.length → b < w.heap.size) (hc : ∀ j, j < zs.length → w.cell? ⟨b, off + j, none⟩ = some (.int .i64 (zs.getD j 0))) :
    Calls Try.prog 11 #[.slice ao zs.length cap] w fun e w' => ∃ g, e = .returned (.slice (some ⟨g, 0, none⟩) (zs.length + 8) (zs.length + 8)) ∧
      w'.ownsRow w.heap.size 3 1 (.slice (some ⟨g, 0, none⟩) (zs.length + 8) (zs.length + 8)) (zs.length + 8) (icells (zs ++ List.replicate 8 (-77))) ∧ Below w.heap.size w w' := by
  obtain ⟨i0, hi, hz0, hz1, hz2⟩ := info_parts Try.info3
  have hsz : (Try.prog.info? 3).map (·.size) = some 1 := by rw [hi]; simp [hz1]
  go_enter Try.func11, Try.ntmps11
  go_wp2_with (first
    | (at_make; refine wpList_make_full _ rfl _ _ 22 rfl w.heap.size 3 i0 (.int .i64 0) 1 Try.underlying22 hi hz0 hz1 .i64 .i64 _ _ (zs.length + 8) rfl rfl (by first | omega | (push_cast; omega)) (by first | omega | (push_cast; omega)) (by rw [hz2]; omega) (by unfold maxLen; omega) (Nat.le_refl _) ?_; intro w0 hown0 hgrow0; have hbel0 : Below w.heap.size w w0 := (Below.refl _ _).grown hgrow0 (Nat.le_refl _) (by simp); rw [made_ints] at hown0; have HB : Hid _ := block_of_owns hown0; clear hown0 hgrow0))
  obtain ⟨w1, hrun, HB1, hbel1⟩ := lent_copy zs (cap := cap) hs hb hc hbel0 (Nat.le_refl _) HB.out
  clear hbel0 HB
  rw [hrun]
  clear hrun
  go_wp2_with fail
  have hown1 : w1.ownsRow w.heap.size 3 1 (.slice (some ⟨w.heap.size, 0, none⟩) (zs.length + 8) (zs.length + 8)) (zs.length + 8) (icells (zs ++ (List.replicate 0 (-77) ++ List.replicate (8 - 0) 0))) :=
    owns_of_block HB1.out (by simp [icells]) (Nat.le_refl _) (by unfold maxLen; omega)
  clear HB1
  go_loopw [4] (fun i wr => ∃ (t p : Nat), t ≤ 8 ∧ p = zs.length + t ∧ i = .int .i64 (p : Int) ∧
      wr.ownsRow w.heap.size 3 1 (.slice (some ⟨w.heap.size, 0, none⟩) (zs.length + 8) (zs.length + 8)) (zs.length + 8) (icells (zs ++ (List.replicate t (-77) ++ List.replicate (8 - t) 0))) ∧ Below w.heap.size w wr) (fun i _ => zs.length + 8 - (intOf i).toNat)
  case atStart => exact ⟨0, _, by omega, rfl, rfl, hown1, hbel1⟩
  case round =>
    clear hown1 hbel1
    obtain ⟨t, p, ht, hp, rfl, hown, hbel⟩ := hrel
    have HP : Hid (p = zs.length + t) := hp
    have hp1 : p ≤ zs.length + 8 := by omega
    by_cases h8 : t < 8
    · have hp2 : p < zs.length + 8 := by omega
      obtain ⟨q, hce⟩ : ∃ q, wr.cell? ⟨w.heap.size, p, none⟩ = some q := by
        rw [hown.cellAt p (by omega)]
        exact ⟨_, icells_get _ _ (by simp; omega)⟩
      have hfr := hown.frozenAt p
      have hst := (hown.stored (zs.length + t) (.int .i64 (-77))).1
      rw [set_fill zs t h8, ← hp] at hst
      have HS : Hid _ := hst
      clear hst hown hp
      go_wp2
      go_roundw
      case rel => exact ⟨t + 1, p + 1, by omega, by have := HP.out; omega, by go_num, HS.out, hbel.setCell (Nat.le_refl _) _⟩
      case measure => simp [intOf]; omega
    · have ht8 : t = 8 := by omega
      subst ht8
      have hp3 : ¬ p < zs.length + 8 := by omega
      clear hp
      go_wp2
      go_ret
      exact ⟨_, rfl, by simpa using hown, hbel⟩
end Go.Proofs.Ytjidbonhhpkljaa.Pk

/- The contract of the document's numbers: the numbers of so many bits that stand in bytes, as far as they go. -/
set_option linter.unusedVariables false
namespace Go.Proofs.Ytjidbonhhpkljaa.Pm
theorem V_bit_in (bs : List Nat) (h : ∀ x ∈ bs, x < 256) (a : Nat) (ha : a / 8 < bs.length) : bs[a / 8] / 2 ^ (a % 8) % 2 = V bs / 2 ^ a % 2 := by
  have := V_get bs (a / 8) h
  rw [List.getElem?_eq_getElem ha, Option.getD_some] at this
  rw [this, bit_of_byte]
theorem V_bit_out (bs : List Nat) (h : ∀ x ∈ bs, x < 256) (a : Nat) (ha : ¬ a / 8 < bs.length) : V bs / 2 ^ a % 2 = 0 := by
  rw [Nat.div_eq_of_lt]
  refine Nat.lt_of_lt_of_le (V_lt bs h) ?_
  rw [pow256]
  exact Nat.pow_le_pow_right (by omega) (by omega)
theorem num_step (v wd i t : Nat) : v / 2 ^ (wd * i) % 2 ^ (t + 1) = v / 2 ^ (wd * i) % 2 ^ t + 2 ^ t * (v / 2 ^ (i * wd + t) % 2) := by
  rw [mod_succ_pow, Nat.div_div_eq_div_mul, ← Nat.pow_add, Nat.mul_comm wd i]
end Go.Proofs.Ytjidbonhhpkljaa.Pm

namespace Go.Proofs.Ytjidbonhhpkljaa.Pk
open Go.RowKit Go.Proofs.Ytjidbonhhpkljaa.Pm

/-- The bytes of a text, as numbers. -/
def bytesOf (s : ByteArray) : List Nat := s.data.toList.map UInt8.toNat
theorem bytesOf_lt (s : ByteArray) : ∀ x ∈ bytesOf s, x < 256 := by
  intro x hx
  obtain ⟨u, _, rfl⟩ := List.mem_map.1 hx
  exact u.toNat_lt
theorem bytesOf_length (s : ByteArray) : (bytesOf s).length = s.size := by simp [bytesOf]
theorem bytesOf_get (s : ByteArray) (j : Nat) (h : j < s.size) : (bytesOf s)[j]'(by rw [bytesOf_length]; exact h) = s[j].toNat := by
  simp only [bytesOf, List.getElem_map]; rfl

/-- Numbers, as Go's. -/
def intsOf (l : List Nat) : List Int := l.map (fun (n : Nat) => (n : Int))

theorem icells_snoc (zs : List Int) (x : Int) : icells zs ++ [.int .i64 x] = icells (zs ++ [x]) := by simp [icells]

set_option maxRecDepth 100000 in
set_option maxHeartbeats 2000000 in
theorem numbers_any (s : ByteArray) (wd cn : Nat) (w : World) (hm : s.size ≤ maxLen) (hw : wd ≤ 16) (hcn : cn ≤ 100) :
    Calls Try.prog 67 #[.string s, .int .i64 wd, .int .i64 cn] w fun e w' => ∃ v, e = .returned v ∧
      w'.ownsRow w.heap.size 3 1 v cn (icells (intsOf (D wd (V (bytesOf s)) cn))) ∧ Below w.heap.size w w' := by
  obtain ⟨i0, hi, hz0, hz1, hz2⟩ := info_parts Try.info3
  unfold maxLen at hm
  have hlb := bytesOf_lt s
  have hlen := bytesOf_length s
  have HB : Hid (∀ x ∈ bytesOf s, x < 256) := hlb
  have HL : Hid ((bytesOf s).length = s.size) := hlen
  clear hlb hlen
  go_enter Try.func67, Try.ntmps67
  go_wp2_with fail
  go_loopw [7, 8] (fun lv i wr => ∃ k : Nat, k ≤ cn ∧ i = .int .i64 k ∧ wr.ownsRow w.heap.size 3 1 lv k (icells (intsOf (D wd (V (bytesOf s)) k))) ∧ Below w.heap.size w wr) (fun _ i _ => cn - (intOf i).toNat)
  case atStart => exact ⟨0, Nat.zero_le _, rfl, World.ownsRow_nil _ _ _ _, Below.refl _ _⟩
  case round =>
    obtain ⟨k, hk, rfl, hown, hbel⟩ := hrel
    by_cases hlt : k < cn
    · have hkw : k * wd ≤ 100 * 16 := Nat.mul_le_mul (by omega) hw
      have hkw0 : (0 : Int) ≤ (k : Int) * (wd : Int) := by rw [← Int.natCast_mul]; omega
      have hkw1 : (k : Int) * (wd : Int) ≤ 1600 := by rw [← Int.natCast_mul]; omega
      go_wp2_with fail
      go_loopw [9, 10] (fun n q wr => ∃ t : Nat, t ≤ wd ∧ q = .int .i64 t ∧ n = .int .i64 ((V (bytesOf s) / 2 ^ (wd * k) % 2 ^ t : Nat) : Int) ∧ wr.ownsRow w.heap.size 3 1 u7 k (icells (intsOf (D wd (V (bytesOf s)) k))) ∧ Below w.heap.size w wr) (fun _ q _ => wd - (intOf q).toNat)
      case atStart => exact ⟨0, Nat.zero_le _, rfl, by simp [Nat.mod_one], hown, hbel⟩
      case round =>
        clear hown hbel
        obtain ⟨t, ht, rfl, rfl, hown, hbel⟩ := hrel
        have HS : Hid _ := num_step (V (bytesOf s)) wd k t
        have HD : Hid (t = wd → D wd (V (bytesOf s)) (k + 1) = D wd (V (bytesOf s)) k ++ [V (bytesOf s) / 2 ^ (wd * k) % 2 ^ t]) := by intro h; subst h; rfl
        have hnn : V (bytesOf s) / 2 ^ (wd * k) % 2 ^ t < 65536 := by
          have h1 : V (bytesOf s) / 2 ^ (wd * k) % 2 ^ t < 2 ^ t := Nat.mod_lt _ (Nat.pow_pos (by omega))
          have h2 : 2 ^ t ≤ 2 ^ 16 := Nat.pow_le_pow_right (by omega) (by omega)
          omega
        generalize V (bytesOf s) / 2 ^ (wd * k) % 2 ^ t = nn at *
        by_cases htl : t < wd
        · have ha0 : k * wd + t ≤ 1616 := by omega
          have hp0 := pw_pos t
          have hp1 := pw_16 t (by omega)
          go_wp2_with fail
          rw [show (k : Int) * (wd : Int) + (t : Int) = ((k * wd + t : Nat) : Int) from by push_cast; rfl]
          generalize hat : k * wd + t = a at *
          clear hat
          have hr0 := pw_pos (a % 8)
          have hr1 : pw (a % 8) ≤ 128 := pw_le (a % 8) 7 (by omega)
          have hw1 : IntKind.i64.wrap ((a : Int) / 8) = (a : Int) / 8 := by simp [IntKind.wrap_i64]; omega
          have hw2 : IntKind.i64.wrap ((a : Int) % 8) = (a : Int) % 8 := by simp [IntKind.wrap_i64]; omega
          by_cases hin : a / 8 < s.size
          · have hin0 : (0 : Int) ≤ (a : Int) / 8 := by omega
            have hin1 : (a : Int) / 8 < (s.size : Int) := by omega
            have hind : decide ((a : Int) / 8 < (s.size : Int)) = true := by simpa using hin1
            have hbit := V_bit_in (bytesOf s) HB.out a (by rw [HL.out]; exact hin)
            rw [bytesOf_get s _ hin] at hbit
            have HBT : Hid _ := hbit
            clear hbit
            have hyb : s[a / 8].toNat < 256 := s[a / 8].toNat_lt
            have hq0 : (0 : Int) ≤ (s[a / 8].toNat : Int) / pw (a % 8) := Int.ediv_nonneg (by omega) (by omega)
            have hq1 : (s[a / 8].toNat : Int) / pw (a % 8) ≤ 255 := by have := Int.ediv_le_self (a := (s[a / 8].toNat : Int)) (pw (a % 8)) (by omega); omega
            by_cases hbt : (s[a / 8].toNat : Int) / pw (a % 8) % 2 = 1
            · have hbb : ((s[a / 8].toNat : Int) / pw (a % 8) % 2 == 1) = true := beq_iff_eq.2 hbt
              have HV : Hid (V (bytesOf s) / 2 ^ a % 2 = 1) := by show _ = _; rw [← HBT.out]; exact bit_nat _ _ hbt
              clear hbt HBT
              go_quiet ((go_at_call 34; exact Calls.quiet_of_same (power_mod8 a _)))
              go_wp2_with (go_at_call 34; refine (power_nat _ (by omega) _).mono ?_; rintro e w' ⟨rfl, rfl⟩)
              go_roundw
              case rel => exact ⟨t + 1, by omega, by go_num, by rw [HS.out, HV.out]; congr 1; unfold pw; omega, ownsRow_drewN hown nq, below_drewN hbel nq⟩
              case measure => simp [intOf]; omega
            · have hbb : ((s[a / 8].toNat : Int) / pw (a % 8) % 2 == 1) = false := beq_eq_false_iff_ne.2 hbt
              have HV : Hid (V (bytesOf s) / 2 ^ a % 2 = 0) := by show _ = _; rw [← HBT.out]; have := bit_nat_no _ _ hbt; omega
              clear hbt HBT
              go_quiet ((go_at_call 34; exact Calls.quiet_of_same (power_mod8 a _)))
              go_wp2
              go_roundw
              case rel => exact ⟨t + 1, by omega, by go_num, by rw [HS.out, HV.out]; simp, ownsRow_drewN hown nq, below_drewN hbel nq⟩
              case measure => simp [intOf]; omega
          · have hin1 : ¬ (a : Int) / 8 < (s.size : Int) := by omega
            have hind : decide ((a : Int) / 8 < (s.size : Int)) = false := by simpa using hin1
            have HBT : Hid _ := V_bit_out (bytesOf s) HB.out a (by rw [HL.out]; exact hin)
            go_quiet ((go_at_call 34; exact Calls.quiet_of_same (power_mod8 a _)))
            go_wp2
            go_roundw
            case rel => exact ⟨t + 1, by omega, by go_num, by rw [HS.out, HBT.out]; simp, ownsRow_drewN hown nq, below_drewN hbel nq⟩
            case measure => simp [intOf]; omega
        · have htw : t = wd := by omega
          go_wp2_with (at_builtin; refine wpList_append_own _ rfl _ _ 22 rfl w.heap.size 3 i0 (.int .i64 0) 1 8 Try.underlying22 hi hz0 hz1 hz2 rfl (by decide) _ _ _ rfl (hown.alloc _) ⟨wr.heap.size, 0, none⟩ 1 1 [.int .i64 (nn : Int)] rfl rfl ?c1 ?c2 ?c3 ?c4 ?c5 ?_)
          case c1 =>
            intro j u hj
            match j, hj with
            | 0, hj => simp at hj; subst hj; simp [Addr.add]
          case c2 => intro u hu; simp at hu; subst hu; rfl
          case c3 => unfold maxLen; omega
          case c4 => omega
          case c5 => have := hbel.size; simp; omega
          · intro v' w1 hown' hgrow _
            have hbel' : Below w.heap.size w w1 := (hbel.alloc hbel.size _).grown hgrow (by have := hbel.size; simp; omega) (fun j hj => (hown.lt j hj).1)
            rw [icells_snoc] at hown'
            clear hown hgrow hbel
            go_wp2
            go_roundw
            case rel => exact ⟨k + 1, by omega, by go_num, by rw [HD.out htw]; simpa [intsOf] using hown', hbel'⟩
            case measure => simp [intOf]; omega
    · have hkc : k = cn := by omega
      subst hkc
      go_wp2
      go_ret
      exact ⟨_, rfl, hown, hbel⟩
end Go.Proofs.Ytjidbonhhpkljaa.Pk

/- What Unpack answers, as a plain function, and the contract of the document's Unpack. -/
set_option linter.unusedVariables false
namespace Go.Proofs.Ytjidbonhhpkljaa.Pk
open Go.RowKit Go.Proofs.Ytjidbonhhpkljaa.Pm

theorem bytesOf_strOf (ns : List Nat) (h : ∀ x ∈ ns, x < 256) : bytesOf (strOf ns) = ns := by
  unfold bytesOf strOf strOfNums
  simp only [List.map_map]
  have : ∀ x ∈ ns, (UInt8.toNat ∘ (fun (n : Int) => UInt8.ofNat n.toNat) ∘ fun (n : Nat) => (n : Int)) x = x := by
    intro x hx
    have := h x hx
    simp; omega
  rw [List.map_congr_left this]
  simp

theorem bytesOf_inj {s t : ByteArray} (h : bytesOf s = bytesOf t) : s = t := by
  have h2 : s.data.toList = t.data.toList := by
    unfold bytesOf at h
    exact List.map_inj_right (fun a b hab => UInt8.toNat_inj.1 hab) |>.1 h
  cases s; cases t
  simp at h2
  simp [h2]

theorem toList_inj {s t : ByteArray} (h : s.toList = t.toList) : s = t := by
  have h1 : ∀ u : ByteArray, u.toList = u.data.toList := fun u => ByteArray.toList_eq u
  rw [h1, h1] at h
  cases s; cases t
  simp at h
  simp [h]

/-- Are bytes just those of so many numbers? -/
def unpackOk (s : ByteArray) (wd cn : Nat) : Bool := decide (s.size = (cn * wd + 7) / 8) && decide (V (bytesOf s) < 2 ^ (wd * cn))
theorem unpackOk_iff {s : ByteArray} {wd cn : Nat} : unpackOk s wd cn = true ↔ s.size = (cn * wd + 7) / 8 ∧ V (bytesOf s) < 2 ^ (wd * cn) := by simp [unpackOk]

theorem strOf_eq (s : ByteArray) (wd cn : Nat) : strOf (packBytes wd (D wd (V (bytesOf s)) cn)) = s ↔ unpackOk s wd cn = true := by
  rw [unpackOk_iff]
  constructor
  · intro h
    have h1 := congrArg bytesOf h
    rw [bytesOf_strOf _ (packBytes_lt _ _)] at h1
    have h2 := congrArg List.length h1
    rw [packBytes_length, D_length, bytesOf_length] at h2
    refine ⟨h2.symm, ?_⟩
    have h3 := congrArg V h1
    rw [V_eq_N (packBytes _ _), packBytes, N_D, N_D] at h3
    have h4 : V (bytesOf s) ≤ V (bytesOf s) % 2 ^ (wd * cn) := by
      conv => lhs; rw [← h3]
      exact Nat.mod_le _ _
    exact Nat.lt_of_le_of_lt h4 (Nat.mod_lt _ (Nat.pow_pos (by omega)))
  · rintro ⟨h1, h2⟩
    apply bytesOf_inj
    rw [bytesOf_strOf _ (packBytes_lt _ _)]
    refine V_inj _ _ (packBytes_lt _ _) (bytesOf_lt s) (by rw [packBytes_length, D_length, bytesOf_length, h1]) ?_
    have h3 := V_lt (bytesOf s) (bytesOf_lt s)
    rw [bytesOf_length, h1, pow256] at h3
    rw [V_eq_N (packBytes _ _), packBytes, N_D, N_D, Nat.mod_eq_of_lt h2, D_length, Nat.mod_eq_of_lt h3]

/-- Unpack's answer: the numbers, and the error. -/
def unpackOf (s : ByteArray) (wd cn : Int) : List Int × Int :=
  if cn < 0 ∨ 100 < cn then ([], 6) else if wd < 0 ∨ 16 < wd then ([], 2)
  else if unpackOk s wd.toNat cn.toNat then (intsOf (D wd.toNat (V (bytesOf s)) cn.toNat), 0) else ([], 3)

theorem unpackOf_long {s : ByteArray} {wd cn : Int} (h : cn < 0 ∨ 100 < cn) : unpackOf s wd cn = ([], 6) := by simp [unpackOf, h]
theorem unpackOf_wide {s : ByteArray} {wd cn : Int} (h : ¬ (cn < 0 ∨ 100 < cn)) (h2 : wd < 0 ∨ 16 < wd) : unpackOf s wd cn = ([], 2) := by simp [unpackOf, h, h2]
theorem unpackOf_bad {s : ByteArray} {wd cn : Nat} (h : cn ≤ 100) (h2 : wd ≤ 16) (h3 : unpackOk s wd cn = false) : unpackOf s wd cn = ([], 3) := by
  have h4 : ¬ ((wd : Int) < 0 ∨ 16 < (wd : Int)) := by omega
  have h5 : ¬ ((cn : Int) < 0 ∨ 100 < (cn : Int)) := by omega
  simp [unpackOf, h4, h5, h3]
theorem unpackOf_ok {s : ByteArray} {wd cn : Nat} (h : cn ≤ 100) (h2 : wd ≤ 16) (h3 : unpackOk s wd cn = true) : unpackOf s wd cn = (intsOf (D wd (V (bytesOf s)) cn), 0) := by
  have h4 : ¬ ((wd : Int) < 0 ∨ 16 < (wd : Int)) := by omega
  have h5 : ¬ ((cn : Int) < 0 ∨ 100 < (cn : Int)) := by omega
  simp [unpackOf, h4, h5, h3]

theorem unpackOf_length (s : ByteArray) (wd cn : Int) : (unpackOf s wd cn).1.length ≤ 100 := by
  unfold unpackOf
  split
  · simp
  · split
    · simp
    · split
      · simp [intsOf, D_length]; omega
      · simp

/-- A slice that the call owns, as a walk wants it. -/
theorem owned_ints {w : World} {base : Nat} {v : Value} {zs : List Int} (h : w.ownsRow base 3 1 v zs.length (icells zs)) :
    ∃ ao g cap, v = .slice ao zs.length cap ∧ (0 < zs.length → ao = some ⟨g, 0, none⟩) ∧ (0 < zs.length → g < w.heap.size) ∧ ∀ j, j < zs.length → w.cell? ⟨g, 0 + j, none⟩ = some (.int .i64 (zs.getD j 0)) := by
  rcases h.2 with ⟨h1, h2⟩ | ⟨g, cap, cur, h1, hb, hg, _⟩
  · exact ⟨none, 0, 0, by rw [h1, h2], by omega, by omega, by omega⟩
  · subst h1
    refine ⟨_, g, cap, rfl, fun _ => rfl, fun _ => lt_of_block hg, ?_⟩
    intro j hj
    rw [Nat.zero_add, h.cellAt j (by omega), icells_get zs j hj, getD_get hj]

theorem D_fits (wd v cn : Nat) : fitsW wd (intsOf (D wd v cn)) = true := by
  apply fitsW_all
  intro j hj
  have hj' : j < (D wd v cn).length := by simpa [intsOf] using hj
  have := D_lt wd v cn _ (List.getElem_mem hj')
  simp only [intsOf, List.getElem_map]
  unfold pw
  omega
theorem D_back (wd v cn : Nat) : (intsOf (D wd v cn)).map Int.toNat = D wd v cn := by
  unfold intsOf
  rw [List.map_map]
  conv => rhs; rw [← List.map_id (D wd v cn)]
  apply List.map_congr_left
  intro x _
  simp

set_option maxRecDepth 100000 in
set_option maxHeartbeats 2000000 in
theorem rUnpack_any (s : ByteArray) (wd cn : Int) (w : World) (hm : s.size ≤ maxLen) :
    Calls Try.prog 38 #[.string s, .int .i64 wd, .int .i64 cn] w fun e w' => ∃ v, e = .returned (.tuple #[v, .int .i64 (unpackOf s wd cn).2]) ∧
      w'.ownsRow w.heap.size 3 1 v (unpackOf s wd cn).1.length (icells (unpackOf s wd cn).1) ∧ Below w.heap.size w w' := by
  by_cases h1 : cn < 0 ∨ 100 < cn
  · rw [unpackOf_long h1]
    rcases h1 with h1 | h1
    all_goals
      go_enter Try.func38, Try.ntmps38
      go_wp2
      all_goals go_ret2
      all_goals exact ⟨_, rfl, World.ownsRow_nil _ _ _ _, Below.refl _ _⟩
  by_cases h2 : wd < 0 ∨ 16 < wd
  · rw [unpackOf_wide h1 h2]
    have h3 : 0 ≤ cn := by omega
    have h4 : cn ≤ 100 := by omega
    rcases h2 with h2 | h2
    all_goals
      go_enter Try.func38, Try.ntmps38
      go_wp2
      all_goals go_ret2
      all_goals exact ⟨_, rfl, World.ownsRow_nil _ _ _ _, Below.refl _ _⟩
  obtain ⟨cm, rfl⟩ := Int.eq_ofNat_of_zero_le (show 0 ≤ cn by omega)
  obtain ⟨wm, rfl⟩ := Int.eq_ofNat_of_zero_le (show 0 ≤ wd by omega)
  have h3 : cm ≤ 100 := by omega
  have h4 : wm ≤ 16 := by omega
  clear h1 h2
  have HN := numbers_any s wm cm
  have H := strOf_eq s wm cm
  have hzl : (intsOf (D wm (V (bytesOf s)) cm)).length = cm := by simp [intsOf, D_length]
  have hfit := D_fits wm (V (bytesOf s)) cm
  have hbk := D_back wm (V (bytesOf s)) cm
  have HO : Hid (unpackOk s wm cm = true → unpackOf s wm cm = (intsOf (D wm (V (bytesOf s)) cm), 0)) := unpackOf_ok h3 h4
  have HX : Hid (unpackOk s wm cm = false → unpackOf s wm cm = ([], 3)) := unpackOf_bad h3 h4
  generalize hzs : intsOf (D wm (V (bytesOf s)) cm) = zs at *
  have HFIT : Hid (fitsW wm zs = true) := hfit
  have HH : Hid (strOf (packBytes wm (zs.map Int.toNat)) = s ↔ unpackOk s wm cm = true) := by rw [hbk]; exact H
  have HZL : Hid (zs.length = cm) := hzl
  clear hfit hbk H hzl hzs
  have HN2 : Hid (∀ w, Calls Try.prog 67 #[.string s, .int .i64 wm, .int .i64 cm] w fun e w' => ∃ v, e = .returned v ∧ w'.ownsRow w.heap.size 3 1 v zs.length (icells zs) ∧ Below w.heap.size w w') := by
    intro w
    rw [HZL.out]
    exact HN w hm h4 h3
  clear HN
  have hzl : ¬ 100 < zs.length := by rw [HZL.out]; omega
  by_cases hok : unpackOk s wm cm = true
  · have hts : ((strOf (packBytes wm (zs.map Int.toNat))).toList == s.toList) = true := by rw [HH.out.2 hok]; simp
    have HO2 : Hid (unpackOf s wm cm = (zs, 0)) := HO.out hok
    clear HO HX HH hok
    go_enter Try.func38, Try.ntmps38
    go_wp2_with (first
      | (go_at_call 67; refine (HN2.out _).mono ?_; rintro e w1 ⟨v, rfl, hown, hbel⟩; obtain ⟨ao, g, cap, rfl, hs, hb, hc⟩ := owned_ints hown)
      | (go_at_call 35; refine (bits_ints zs wm ao g 0 cap _ h4 hzl HFIT.out hs hb hc).mono ?_; rintro e w2 ⟨rfl, hbel2⟩; clear hs hb hc))
    go_ret2
    rw [HO2.out]
    exact ⟨_, rfl, ownsRow_below hown hbel2, hbel.trans (hbel2.mono hbel.size)⟩
  · have hok2 : unpackOk s wm cm = false := by simpa using hok
    have hts : ((strOf (packBytes wm (zs.map Int.toNat))).toList == s.toList) = false := by
      rw [beq_eq_false_iff_ne]; intro h; exact hok (HH.out.1 (toList_inj h))
    have HX2 : Hid (unpackOf s wm cm = ([], 3)) := HX.out hok2
    clear HO HX HH hok hok2
    go_enter Try.func38, Try.ntmps38
    go_wp2_with (first
      | (go_at_call 67; refine (HN2.out _).mono ?_; rintro e w1 ⟨v, rfl, hown, hbel⟩; obtain ⟨ao, g, cap, rfl, hs, hb, hc⟩ := owned_ints hown)
      | (go_at_call 35; refine (bits_ints zs wm ao g 0 cap _ h4 hzl HFIT.out hs hb hc).mono ?_; rintro e w2 ⟨rfl, hbel2⟩; clear hs hb hc))
    go_ret2
    rw [HX2.out]
    exact ⟨_, rfl, World.ownsRow_nil _ _ _ _, hbel.trans (hbel2.mono hbel.size)⟩
end Go.Proofs.Ytjidbonhhpkljaa.Pk

/- Values as the statements have them, their cells, and the contracts of the small tests on kinds and encodings. -/
set_option linter.unusedVariables false
namespace Go.Proofs.Ytjidbonhhpkljaa.Ec
open Go.RowKit Go.Proofs.Ytjidbonhhpkljaa.Pk

/-- A value: Null, or a number, or a text. -/
structure Val where
  null : Bool
  n : Int
  s : ByteArray

/-- A value in one piece. -/
def Val.agg (v : Val) : Value := .agg #[.bool v.null, .int .i64 v.n, .string v.s]

/-- The cells of values. -/
def vcells (l : List Val) : List Value := l.flatMap fun v => [.bool v.null, .int .i64 v.n, .string v.s]

/-- A slice of values, as a walk wants it. -/
structure VRow (w : World) (ao : Option Addr) (b off : Nat) (l : List Val) : Prop where
  addr : 0 < l.length → ao = some ⟨b, off, none⟩
  lt : 0 < l.length → b < w.heap.size
  c0 : ∀ j (h : j < l.length), w.cell? ⟨b, off + j * 3, none⟩ = some (.bool l[j].null)
  c1 : ∀ j (h : j < l.length), w.cell? ⟨b, off + j * 3 + 1, none⟩ = some (.int .i64 l[j].n)
  c2 : ∀ j (h : j < l.length), w.cell? ⟨b, off + j * 3 + 2, none⟩ = some (.string l[j].s)

theorem VRow.below {w w' : World} {ao : Option Addr} {b off : Nat} {l : List Val} (h : VRow w ao b off l) (hb : Below w.heap.size w w') : VRow w' ao b off l :=
  ⟨h.addr, fun h0 => Nat.lt_of_lt_of_le (h.lt h0) hb.size,
    fun j hj => (hb.cell (p := ⟨b, off + j * 3, none⟩) (h.lt (by omega))).trans (h.c0 j hj),
    fun j hj => (hb.cell (p := ⟨b, off + j * 3 + 1, none⟩) (h.lt (by omega))).trans (h.c1 j hj),
    fun j hj => (hb.cell (p := ⟨b, off + j * 3 + 2, none⟩) (h.lt (by omega))).trans (h.c2 j hj)⟩

/-- Are two values alike? -/
def veq (x y : Val) : Bool := (x.null == y.null) && (x.n == y.n) && (x.s.toList == y.s.toList)
theorem veq_iff {x y : Val} : veq x y = true ↔ x = y := by
  unfold veq
  constructor
  · intro h
    simp only [Bool.and_eq_true, beq_iff_eq] at h
    obtain ⟨⟨h1, h2⟩, h3⟩ := h
    cases x; cases y
    simp only at h1 h2 h3
    rw [h1, h2, toList_inj h3]
  · rintro rfl
    simp

theorem run_eql_val (w : World) (x y : Val) : (binOp .eql 39 (.agg #[.bool x.null, .int .i64 x.n, .string x.s]) (.agg #[.bool y.null, .int .i64 y.n, .string y.s])).run Try.prog w = .ok (.bool (veq x y)) w := by
  go_simp
  unfold veq
  by_cases h1 : x.null = y.null <;> by_cases h2 : x.n = y.n <;> by_cases h3 : x.s.toList = y.s.toList <;> simp [h1, h2, h3]
theorem run_neq_val (w : World) (x y : Val) : (binOp .neq 39 (.agg #[.bool x.null, .int .i64 x.n, .string x.s]) (.agg #[.bool y.null, .int .i64 y.n, .string y.s])).run Try.prog w = .ok (.bool (!veq x y)) w := by
  go_simp
  unfold veq
  by_cases h1 : x.null = y.null <;> by_cases h2 : x.n = y.n <;> by_cases h3 : x.s.toList = y.s.toList <;> simp [h1, h2, h3]

set_option maxRecDepth 100000 in
set_option maxHeartbeats 2000000 in
theorem sameValues_any (xs ys : List Val) (ao bo : Option Addr) (b off cap b2 off2 cap2 : Nat) (w : World) (hm : xs.length ≤ maxLen) (hm2 : ys.length ≤ maxLen)
    (h1 : VRow w ao b off xs) (h2 : VRow w bo b2 off2 ys) :
    Calls Try.prog 18 #[.slice ao xs.length cap, .slice bo ys.length cap2] w fun e w' => ∃ b, e = .returned (.bool b) ∧ (b = true ↔ xs = ys) ∧ ∃ n, w' = w.drewN n := by
  unfold maxLen at hm hm2
  by_cases hl : xs.length = ys.length
  · have hle : ((xs.length : Int) != (ys.length : Int)) = false := by simp [hl]
    have HL : Hid (xs.length = ys.length) := hl
    clear hl
    go_enter Try.func18, Try.ntmps18
    go_wp2_with fail
    clear hle
    go_loopw [5] (fun i wr => ∃ k : Nat, k ≤ xs.length ∧ i = .int .i64 k ∧ xs.take k = ys.take k ∧ ∃ n, wr = w.drewN n) (fun i _ => xs.length - (intOf i).toNat)
    case atStart => exact ⟨0, Nat.zero_le _, rfl, rfl, 0, rfl⟩
    case round =>
      obtain ⟨k, hk, rfl, htk, n, hwr⟩ := hrel
      have HT : Hid (xs.take k = ys.take k) := htk
      clear htk
      by_cases hlt : k < xs.length
      · have hlt2 : k < ys.length := by rw [← HL.out]; exact hlt
        obtain rfl := h1.addr (by omega)
        obtain rfl := h2.addr (by omega)
        have p0 : wr.cell? ⟨b, off + k * 3, none⟩ = some (.bool xs[k].null) := by rw [hwr]; exact h1.c0 k hlt
        have p1 : wr.cell? ⟨b, off + k * 3 + 1, none⟩ = some (.int .i64 xs[k].n) := by rw [hwr]; exact h1.c1 k hlt
        have p2 : wr.cell? ⟨b, off + k * 3 + 2, none⟩ = some (.string xs[k].s) := by rw [hwr]; exact h1.c2 k hlt
        have q0 : wr.cell? ⟨b2, off2 + k * 3, none⟩ = some (.bool ys[k].null) := by rw [hwr]; exact h2.c0 k hlt2
        have q1 : wr.cell? ⟨b2, off2 + k * 3 + 1, none⟩ = some (.int .i64 ys[k].n) := by rw [hwr]; exact h2.c1 k hlt2
        have q2 : wr.cell? ⟨b2, off2 + k * 3 + 2, none⟩ = some (.string ys[k].s) := by rw [hwr]; exact h2.c2 k hlt2
        have HW : Hid (wr = w.drewN n) := hwr
        have HN : Hid (xs[k] ≠ ys[k] → xs ≠ ys) := fun h e => h (by subst e; rfl)
        have HY : Hid (xs[k] = ys[k] → xs.take (k + 1) = ys.take (k + 1)) := fun h => by rw [List.take_succ_eq_append_getElem hlt, List.take_succ_eq_append_getElem hlt2, HT.out, h]
        have hq := fun w => run_neq_val w xs[k] ys[k]
        clear hwr h1 h2 HT
        generalize xs[k] = x at *
        generalize ys[k] = y at *
        by_cases hxy : x = y
        · have hb : veq x y = true := veq_iff.2 hxy
          have HY3 : Hid (xs.take (k + 1) = ys.take (k + 1)) := HY.out hxy
          rw [hb] at hq
          clear HY HN hxy hb
          go_wp2_with fail
          go_quiet (fail)
          go_wp2
          go_roundw
          case rel => exact ⟨k + 1, by omega, by go_num, HY3.out, n + nq, by rw [HW.out]; exact World.drewN_drewN _ _ _⟩
          case measure => simp [intOf]; omega
        · have hb : veq x y = false := by rw [Bool.eq_false_iff]; intro h; exact hxy (veq_iff.1 h)
          have HN2 : Hid (xs ≠ ys) := HN.out hxy
          rw [hb] at hq
          clear HY HN hxy hb
          go_wp2_with fail
          go_quiet (fail)
          go_wp2
          go_ret
          exact ⟨false, rfl, by simp; exact HN2.out, n + nq, by rw [HW.out]; exact World.drewN_drewN _ _ _⟩
      · have he : xs = ys := by
          have := HT.out
          rwa [List.take_of_length_le (by omega), List.take_of_length_le (by rw [← HL.out]; omega)] at this
        have HE : Hid (xs = ys) := he
        have HW : Hid (wr = w.drewN n) := hwr
        clear he hwr
        go_wp2
        go_ret
        exact ⟨true, rfl, by simp; exact HE.out, n, HW.out⟩
  · have hle : ((xs.length : Int) != (ys.length : Int)) = true := by simp; omega
    have HN : Hid (xs ≠ ys) := fun h => hl (by rw [h])
    go_enter Try.func18, Try.ntmps18
    go_wp2
    go_ret
    exact ⟨false, rfl, by simp; exact HN.out, 0, rfl⟩
end Go.Proofs.Ytjidbonhhpkljaa.Ec

/- The contracts of varints and zigzag, on both sides. -/
set_option linter.unusedVariables false
namespace Go.Proofs.Ytjidbonhhpkljaa.Ec
open Go.RowKit Go.Proofs.Ytjidbonhhpkljaa.Pk Go.Proofs.Ytjidbonhhpkljaa.Pm

/-- A row of bytes has grown: what else was there has stayed; it lies where it lay, or in new memory. -/
structure Grew (w w' : World) (v v' : Value) : Prop where
  by_ : w.grownBy w' v.ownBlock
  at_ : ∀ g, v'.ownBlock = some g → v.ownBlock = some g ∨ w.heap.size ≤ g

theorem Grew.refl (w : World) (v : Value) : Grew w w v v := ⟨World.grownBy.refl w _, fun _ h => .inl h⟩
theorem Grew.trans {w w1 w2 : World} {v v1 v2 : Value} (h1 : Grew w w1 v v1) (h2 : Grew w1 w2 v1 v2) : Grew w w2 v v2 := by
  refine ⟨⟨h2.by_.os.trans h1.by_.os, h2.by_.tape.trans h1.by_.tape, h2.by_.output.trans h1.by_.output, Nat.le_trans h1.by_.size h2.by_.size, ?_⟩, ?_⟩
  · intro k hk hne
    rw [h2.by_.block k (Nat.lt_of_lt_of_le hk h1.by_.size) (fun hr => ?_), h1.by_.block k hk hne]
    rcases h1.at_ k hr.symm with h | h
    · exact hne h.symm
    · omega
  · intro g hg
    rcases h2.at_ g hg with h | h
    · exact h1.at_ g h
    · exact .inr (Nat.le_trans h1.by_.size h)
theorem Grew.alloc {w w1 : World} {v v1 : Value} (h : Grew w w1 v v1) (o : Obj) : Grew w (w1.alloc o) v v1 :=
  h.trans ⟨World.grownBy_alloc w1 o _, fun _ h => .inl h⟩
theorem Grew.drewN {w w1 : World} {v v1 : Value} (h : Grew w w1 v v1) (n : Nat) : Grew w (w1.drewN n) v v1 :=
  h.trans ⟨⟨rfl, rfl, rfl, Nat.le_refl _, fun _ _ _ => rfl⟩, fun _ h => .inl h⟩
theorem Grew.below {w w' : World} {v v' : Value} {base : Nat} (h : Grew w w' v v') (hv : ∀ g, v.ownBlock = some g → base ≤ g) (hb : base ≤ w.heap.size) : Below base w w' :=
  (Below.refl base w).grown h.by_ hb hv
theorem Grew.append {w w1 : World} {v v1 : Value} {e size n : Nat} {xs : List Value} {o : Obj}
    (h : ((w.alloc o).grownBy w1 none ∧ w1.ownsRow (w.alloc o).heap.size e size v1 n xs) ∨ (v1.ownBlock = v.ownBlock ∧ (w.alloc o).grownBy w1 v.ownBlock)) : Grew w w1 v v1 := by
  have ha := (Grew.refl w v).alloc o
  refine ha.trans ?_
  rcases h with ⟨h1, h2⟩ | ⟨h1, h2⟩
  · refine ⟨⟨h1.os, h1.tape, h1.output, h1.size, fun k hk _ => h1.block k hk (by simp)⟩, fun g hg => .inr (h2.lt g hg).1⟩
  · exact ⟨h2, fun g hg => .inl (by rw [← h1]; exact hg)⟩

/-- 'string([]byte{x})'. -/
theorem conv_one {w : World} {g : Nat} {x : Nat} (hc : w.cell? ⟨g, 0, none⟩ = some (.int .u8 (x : Int))) :
    (convert 44 9 (.slice (some ⟨g, 0, none⟩) 1 1)).run Try.prog w = .ok (.string (strOf [x])) w :=
  run_convert_bytes_arg w 44 5 Try.underlying44 Try.underlying5 g 0 1 1 [(x : Int)] rfl (fun i hi => by
    have : i = 0 := by omega
    subst this
    exact hc) 9 Try.underlying9
theorem after_new {w w1 : World} {v : Value} {t : TypeId} (h : Below ((w.alloc (.cells #[v] t)).drew).heap.size (w.alloc (.cells #[v] t)).drew w1) : w1.cell? ⟨w.heap.size, 0, none⟩ = some v :=
  (h.cell (p := ⟨w.heap.size, 0, none⟩) (by simp)).trans (by simp)
theorem below_one {w w1 : World} {o : Obj} (h : Below ((w.alloc o).drew).heap.size (w.alloc o).drew w1) : Below w.heap.size w w1 :=
  (((Below.refl _ _).alloc (Nat.le_refl _) o).drew).trans (h.mono (by simp))
theorem below_two {w w1 : World} (o : Obj) (h : Below w.drew.heap.size w.drew w1) : Below w.heap.size w (w1.alloc o) :=
  (((Below.refl _ _).drew).trans h).alloc h.size o
theorem one_at (w : World) (a : Value) (t : TypeId) : ∀ (j : Nat) (u : Value), [a][j]? = some u → (w.alloc (.cells #[a] t)).cell? ((⟨w.heap.size, 0, none⟩ : Addr).add j) = some u := by
  intro j u hj
  match j, hj with
  | 0, hj => simp at hj; subst hj; simp [Addr.add]
theorem one_oneB (x : Int) : ∀ u ∈ [Value.int .u8 x], u.oneCell' = true := by
  intro u hu
  simp at hu
  subst hu
  rfl
theorem conv_new (w : World) (x : Nat) : (convert 44 9 (.slice (some ⟨w.heap.size, 0, none⟩) 1 1)).run Try.prog (w.alloc (.cells #[.int .u8 (x : Int)] 5)) = .ok (.string (strOf [x])) (w.alloc (.cells #[.int .u8 (x : Int)] 5)) :=
  conv_one (by simp)

set_option maxRecDepth 100000 in
set_option maxHeartbeats 2000000 in
theorem varint_small (f n : Nat) (w : World) (h : n < 128) : Calls Try.prog 87 #[.int .u64 n] w fun e w' => e = .returned (.string (strOf (vintF (f + 1) n))) ∧ Below w.heap.size w w' := by
  rw [vintF_small f n h]
  have hcv := conv_new w n
  go_enter Try.func87, Try.ntmps87
  go_wp2
  go_ret
  exact ⟨rfl, (Below.refl _ _).alloc (Nat.le_refl _) _⟩

set_option maxRecDepth 100000 in
set_option maxHeartbeats 2000000 in
theorem varint_fuel (f : Nat) (hf : f ≤ 9) : ∀ (n : Nat) (w : World), n < 128 ^ (f + 1) → n < 18446744073709551616 →
    Calls Try.prog 87 #[.int .u64 n] w fun e w' => e = .returned (.string (strOf (vintF (f + 1) n))) ∧ Below w.heap.size w w' := by
  induction f with
  | zero => intro n w h _; exact varint_small 0 n w (by simpa using h)
  | succ f ih =>
    intro n w hn hn2
    have ih := ih (by omega)
    by_cases h : n < 128
    · exact varint_small (f + 1) n w h
    · rw [vintF_big (f + 1) n h]
      have hq := pow128 (f + 1) n hn
      have IH : Hid (∀ w, Calls Try.prog 87 #[.int .u64 ((n : Int) / 128)] w fun e w' => e = .returned (.string (strOf (vintF (f + 1) (n / 128)))) ∧ Below w.heap.size w w') := fun w => by
        have := ih (n / 128) w hq (by omega)
        rwa [show ((n / 128 : Nat) : Int) = (n : Int) / 128 from by omega] at this
      obtain ⟨y, hy⟩ : ∃ y, y = n % 128 + 128 := ⟨_, rfl⟩
      have hw4 : IntKind.u8.wrap (IntKind.u8.wrap ((n : Int).tmod 128) + 128) = (y : Int) := by
        rw [Int.tmod_eq_emod_of_nonneg (by omega), wrap_u8_id (x := (n : Int) % 128) (by omega) (by omega), wrap_u8_id (by omega) (by omega)]; omega
      have hw2 : IntKind.u64.wrap ((n : Int) / 128) = (n : Int) / 128 := by simp [IntKind.wrap, IntKind.signed, IntKind.bits]; omega
      have hcv : ∀ (W : World) (g : Nat), W.cell? ⟨g, 0, none⟩ = some (.int .u8 (y : Int)) → (convert 44 9 (.slice (some ⟨g, 0, none⟩) 1 1)).run Try.prog W = .ok (.string (strOf [y])) W := fun W g h => conv_one h
      rw [← hy, show strOf (y :: vintF (f + 1) (n / 128)) = strOf [y] ++ strOf (vintF (f + 1) (n / 128)) from strOf_append [y] _]
      have hln : (vintF (f + 1) (n / 128)).length ≤ f + 1 := vintF_length _ _
      have HY : Hid (y = n % 128 + 128) := hy
      clear ih hn hq hy
      generalize vintF (f + 1) (n / 128) = rest at *
      have hsz : ¬ 9223372036854775807 < (strOf [y]).size + (strOf rest).size := by rw [Pk.strOf_size, Pk.strOf_size]; simp; omega
      go_enter Try.func87, Try.ntmps87
      go_wp2_with fail
      go_region_with (go_at_call 87; refine (IH.out _).mono ?_; rintro e w1 ⟨rfl, hb1⟩; try (have hcc := after_new hb1))
      all_goals
        go_wp2
        go_ret
        exact ⟨rfl, by first | exact below_one hb1 | exact below_two _ hb1⟩

theorem varint_any (n : Nat) (w : World) (h : n < 18446744073709551616) : Calls Try.prog 87 #[.int .u64 n] w fun e w' => e = .returned (.string (strOf (vint n))) ∧ Below w.heap.size w w' :=
  varint_fuel 9 (by omega) n w (lt_128_10 n h) h

theorem or_u8 (n : Nat) : bits .or .u8 ((n : Int) % 256) 128 = ((n % 128 + 128 : Nat) : Int) := by
  have h := (bits_nat .u8 8 (by decide) wraps_u8 (n % 256) 128 (by omega) (by omega)).2
  rw [show ((n % 256 : Nat) : Int) = (n : Int) % 256 from by omega, or128 (n % 256) (by omega)] at h
  rw [show (128 : Int) = ((128 : Nat) : Int) from rfl, h]
  omega

set_option maxRecDepth 100000 in
set_option maxHeartbeats 2000000 in
theorem appendVarint_any (v : Value) (pre : List Nat) (n base : Nat) (w : World) (hn : n < 18446744073709551616) (hl : pre.length ≤ 4000000) (hb : base ≤ w.heap.size)
    (hown : w.ownsRow base 5 1 v pre.length (bcells pre)) :
    Calls Try.prog 136 #[v, .int .u64 n] w fun e w' => ∃ v', e = .returned v' ∧ w'.ownsRow base 5 1 v' (pre ++ vint n).length (bcells (pre ++ vint n)) ∧ Grew w w' v v' := by
  obtain ⟨i0, hi, hz0, hz1, hz2⟩ := info_parts Try.info5
  go_enter Try.func136, Try.ntmps136
  go_wp2_with fail
  go_loopw [0, 1] (fun bv nv wr => ∃ (f m : Nat) (bs : List Nat), f ≤ 9 ∧ nv = .int .u64 m ∧ m < 128 ^ (f + 1) ∧ m < 18446744073709551616 ∧ bs.length + f = 9 ∧ bs ++ vintF (f + 1) m = vint n ∧ wr.ownsRow base 5 1 bv (pre ++ bs).length (bcells (pre ++ bs)) ∧ Grew w wr v bv ∧ w.heap.size ≤ wr.heap.size) (fun _ nv _ => (intOf nv).toNat)
  case atStart => exact ⟨9, n, [], by omega, rfl, lt_128_10 n hn, hn, rfl, rfl, by simpa using hown, Grew.refl _ _, Nat.le_refl _⟩
  case round =>
    obtain ⟨f, m, bs, hf, rfl, hm, hm2, hbl, hbs, hown, hgr, hsz⟩ := hrel
    have HM : Hid (m < 128 ^ (f + 1)) := hm
    have HBS : Hid (bs ++ vintF (f + 1) m = vint n) := hbs
    have HL : Hid (bs.length + f = 9) := hbl
    have hpl : (pre ++ bs).length ≤ 4000009 := by simp; omega
    clear hm hbs hbl
    have HG : Hid (Grew w wr v u0) := hgr
    clear hgr
    have HPP : Hid (∃ pb, pb = pre ++ bs) := ⟨_, rfl⟩
    generalize hpb : pre ++ bs = pb at *
    have HPB : Hid (pre ++ bs = pb) := hpb
    clear hpb HPP
    by_cases h : m < 128
    · have hwm : IntKind.u8.wrap (m : Int) = (m : Int) := wrap_u8_id (by omega) (by omega)
      go_wp2_with (at_builtin; refine wpList_append_keep _ rfl _ _ 44 rfl base 5 i0 (.int .u8 0) 1 1 Try.underlying44 hi hz0 hz1 hz2 rfl (by decide) _ pb.length _ rfl (hown.alloc _) ⟨wr.heap.size, 0, none⟩ 1 1 [.int .u8 (m : Int)] rfl (by decide) rfl (one_at _ _ _) (one_oneB _) (by unfold maxLen; omega) (by omega) (by simp; omega) ?_; intro v1 w1 hown1 hgr1)
      go_ret
      refine ⟨_, rfl, ?_, HG.out.trans (Grew.append hgr1)⟩
      rw [bcells_snoc] at hown1
      have e : pre ++ vint n = pb ++ [m] := by rw [← HBS.out, vintF_small f m h, ← HPB.out, List.append_assoc]
      rw [e]
      simpa using hown1
    · have hor := or_u8 m
      obtain ⟨y, hy⟩ : ∃ y, y = m % 128 + 128 := ⟨_, rfl⟩
      rw [← hy] at hor
      have hf0 : 0 < f := by
        rcases Nat.eq_zero_or_pos f with h0 | h0
        · subst h0; have := HM.out; simp at this; omega
        · exact h0
      have HY : Hid (y = m % 128 + 128) := hy
      clear hy
      go_wp2_with (at_builtin; refine wpList_append_keep _ rfl _ _ 44 rfl base 5 i0 (.int .u8 0) 1 1 Try.underlying44 hi hz0 hz1 hz2 rfl (by decide) _ pb.length _ rfl (hown.alloc _) ⟨wr.heap.size, 0, none⟩ 1 1 [.int .u8 (y : Int)] rfl (by decide) rfl (one_at _ _ _) (one_oneB _) (by unfold maxLen; omega) (by omega) (by simp; omega) ?_; intro v1 w1 hown1 hgr1)
      have hgr2 := HG.out.trans (Grew.append hgr1)
      have hsz2 : w.heap.size ≤ w1.heap.size := hgr2.by_.size
      rw [bcells_snoc] at hown1
      refine ⟨⟨f - 1, m / 128, bs ++ [y], by omega, by go_num, ?_, by omega, by have := HL.out; simp; omega, ?_, ?_, hgr2, hsz2⟩, by simp [intOf]; omega⟩
      · have := pow128 f m HM.out
        rwa [show f - 1 + 1 = f by omega]
      · rw [← HBS.out, vintF_big f m h, show f - 1 + 1 = f by omega, HY.out, List.append_assoc]; rfl
      · rw [← List.append_assoc, HPB.out]
        simpa using hown1
end Go.Proofs.Ytjidbonhhpkljaa.Ec

/- The contracts of zigzag, of numbers, and of the tests on kinds, encodings and values, on both sides. -/
set_option linter.unusedVariables false
namespace Go.Proofs.Ytjidbonhhpkljaa.Ec
open Go.RowKit Go.Proofs.Ytjidbonhhpkljaa.Pk Go.Proofs.Ytjidbonhhpkljaa.Pm

theorem wrap_u64 (n : Int) : IntKind.u64.wrap n = n % 18446744073709551616 := by simp [IntKind.wrap, IntKind.bits, IntKind.signed]

theorem xor_zero (x : Nat) (hx : x < 18446744073709551616) : bits .xor .u64 (x : Int) 0 = (x : Int) := by
  show IntKind.u64.wrap (((BitVec.ofInt 64 (x : Int)) ^^^ (BitVec.ofInt 64 0)).toNat : Int) = _
  rw [BitVec.ofInt_natCast, show BitVec.ofInt 64 0 = 0#64 from rfl, BitVec.xor_zero, BitVec.toNat_ofNat, wrap_u64]
  omega

theorem xor_ones (x : Nat) (hx : x < 18446744073709551616) : bits .xor .u64 (x : Int) 18446744073709551615 = ((18446744073709551615 - x : Nat) : Int) := by
  show IntKind.u64.wrap (((BitVec.ofInt 64 (x : Int)) ^^^ (BitVec.ofInt 64 18446744073709551615)).toNat : Int) = _
  rw [BitVec.ofInt_natCast, show BitVec.ofInt 64 18446744073709551615 = BitVec.allOnes 64 from by decide +kernel, BitVec.xor_allOnes, BitVec.toNat_not, BitVec.toNat_ofNat, wrap_u64]
  omega

theorem zig_bits (n : Int) (h0 : -9223372036854775808 ≤ n) (h1 : n ≤ 9223372036854775807) :
    bits .xor .u64 (IntKind.u64.wrap (wrap64 (n * 2))) (IntKind.u64.wrap (n / 9223372036854775808)) = (zz n : Int) := by
  by_cases h : n < 0
  · have e1 : IntKind.u64.wrap (n / 9223372036854775808) = 18446744073709551615 := by rw [wrap_u64]; omega
    obtain ⟨x, hx⟩ : ∃ x : Nat, IntKind.u64.wrap (wrap64 (n * 2)) = (x : Int) := ⟨(IntKind.u64.wrap (wrap64 (n * 2))).toNat, by rw [wrap_u64]; omega⟩
    rw [hx, e1]
    rw [wrap_u64] at hx
    unfold wrap64 at hx
    rw [xor_ones x (by omega)]
    unfold zz
    rw [if_pos h]
    omega
  · have e1 : IntKind.u64.wrap (n / 9223372036854775808) = 0 := by rw [wrap_u64]; omega
    obtain ⟨x, hx⟩ : ∃ x : Nat, IntKind.u64.wrap (wrap64 (n * 2)) = (x : Int) := ⟨(IntKind.u64.wrap (wrap64 (n * 2))).toNat, by rw [wrap_u64]; omega⟩
    rw [hx, e1]
    rw [wrap_u64] at hx
    unfold wrap64 at hx
    rw [xor_zero x (by omega)]
    unfold zz
    rw [if_neg h]
    omega

def isKindB (k : Int) : Bool := decide (1 ≤ k) && decide (k ≤ 3)
def hasEncB (k e : Int) : Bool := ((e == 0 || e == 2) && isKindB k) || (e == 1 && k == 1) || (e == 3 && k == 2)

theorem isKind_any (k : Int) (w : World) : Calls Try.prog 71 #[.int .i64 k] w fun e w' => e = .returned (.bool (isKindB k)) ∧ w' = w := by
  by_cases h1 : 1 ≤ k <;> by_cases h2 : k ≤ 3
  all_goals
    go_enter Try.func71, Try.ntmps71
    go_wp2
    all_goals go_ret
    all_goals exact ⟨by simp [isKindB, h1, h2], rfl⟩

theorem cases4 (e : Int) : e = 0 ∨ e = 1 ∨ e = 2 ∨ e = 3 ∨ ((e == 0) = false ∧ (e == 1) = false ∧ (e == 2) = false ∧ (e == 3) = false) := by
  by_cases h0 : e = 0
  · exact .inl h0
  by_cases h1 : e = 1
  · exact .inr (.inl h1)
  by_cases h2 : e = 2
  · exact .inr (.inr (.inl h2))
  by_cases h3 : e = 3
  · exact .inr (.inr (.inr (.inl h3)))
  exact .inr (.inr (.inr (.inr ⟨by simpa using h0, by simpa using h1, by simpa using h2, by simpa using h3⟩)))

theorem hasEncoding_any (k e : Int) (w : World) : Calls Try.prog 70 #[.int .i64 k, .int .i64 e] w fun r w' => r = .returned (.bool (hasEncB k e)) ∧ w' = w := by
  have hx : ∀ b : Bool, (b || false) = b := by simp
  rcases cases4 e with rfl | rfl | rfl | rfl | ⟨h0, h1, h2, h3⟩
  · rw [show hasEncB k 0 = isKindB k from by simp [hasEncB]]
    go_enter Try.func70, Try.ntmps70
    go_wp2_with (go_at_call 71; refine (isKind_any k _).mono ?_; rintro e w' ⟨rfl, rfl⟩)
    go_ret
    exact ⟨rfl, rfl⟩
  · rw [show hasEncB k 1 = (k == 1) from by simp [hasEncB]]
    go_enter Try.func70, Try.ntmps70
    go_wp2
    all_goals go_ret
    all_goals exact ⟨rfl, rfl⟩
  · rw [show hasEncB k 2 = isKindB k from by simp [hasEncB]]
    go_enter Try.func70, Try.ntmps70
    go_wp2_with (go_at_call 71; refine (isKind_any k _).mono ?_; rintro e w' ⟨rfl, rfl⟩)
    go_ret
    exact ⟨rfl, rfl⟩
  · rw [show hasEncB k 3 = (k == 2) from by simp [hasEncB]]
    go_enter Try.func70, Try.ntmps70
    go_wp2
    all_goals go_ret
    all_goals exact ⟨rfl, rfl⟩
  · rw [show hasEncB k e = false from by simp [hasEncB, h0, h1, h2, h3]]
    go_enter Try.func70, Try.ntmps70
    go_wp2
    all_goals go_ret
    all_goals exact ⟨rfl, rfl⟩

theorem not_kind {k e : Int} (k1 : (k == 1) = false) (k2 : (k == 2) = false) (k3 : (k == 3) = false) : hasEncB k e = false := by
  have h1 : isKindB k = false := by
    simp at k1 k2 k3
    unfold isKindB
    by_cases h : 1 ≤ k
    · have : ¬ k ≤ 3 := by omega
      simp [this]
    · simp [h]
  simp [hasEncB, h1, k1, k2]
theorem not_enc {k e : Int} (h0 : (e == 0) = false) (h1 : (e == 1) = false) (h2 : (e == 2) = false) (h3 : (e == 3) = false) : hasEncB k e = false := by simp [hasEncB, h0, h1, h2, h3]
theorem fits_any (k e : Int) (w : World) : Calls Try.prog 40 #[.int .i64 k, .int .i64 e] w fun r w' => r = .returned (.bool (hasEncB k e)) ∧ w' = w := by
  rcases cases4 e with rfl | rfl | rfl | rfl | ⟨h0, h1, h2, h3⟩
  · rcases cases4 k with rfl | rfl | rfl | rfl | ⟨k0, k1, k2, k3⟩
    case inr.inr.inr.inr => rw [not_kind k1 k2 k3]; go_enter Try.func40, Try.ntmps40; go_wp2; go_ret; exact ⟨rfl, rfl⟩
    all_goals (go_enter Try.func40, Try.ntmps40; go_wp2; go_ret; exact ⟨rfl, rfl⟩)
  · rcases cases4 k with rfl | rfl | rfl | rfl | ⟨k0, k1, k2, k3⟩
    case inr.inr.inr.inr => rw [not_kind k1 k2 k3]; go_enter Try.func40, Try.ntmps40; go_wp2; go_ret; exact ⟨rfl, rfl⟩
    all_goals (go_enter Try.func40, Try.ntmps40; go_wp2; go_ret; exact ⟨rfl, rfl⟩)
  · rcases cases4 k with rfl | rfl | rfl | rfl | ⟨k0, k1, k2, k3⟩
    case inr.inr.inr.inr => rw [not_kind k1 k2 k3]; go_enter Try.func40, Try.ntmps40; go_wp2; go_ret; exact ⟨rfl, rfl⟩
    all_goals (go_enter Try.func40, Try.ntmps40; go_wp2; go_ret; exact ⟨rfl, rfl⟩)
  · rcases cases4 k with rfl | rfl | rfl | rfl | ⟨k0, k1, k2, k3⟩
    case inr.inr.inr.inr => rw [not_kind k1 k2 k3]; go_enter Try.func40, Try.ntmps40; go_wp2; go_ret; exact ⟨rfl, rfl⟩
    all_goals (go_enter Try.func40, Try.ntmps40; go_wp2; go_ret; exact ⟨rfl, rfl⟩)
  · rw [not_enc h0 h1 h2 h3]
    rcases cases4 k with rfl | rfl | rfl | rfl | ⟨k0, k1, k2, k3⟩
    all_goals (go_enter Try.func40, Try.ntmps40; go_wp2; go_ret; exact ⟨rfl, rfl⟩)

def colE (n k e : Int) : Int := if n < 0 ∨ 100 < n then 6 else if hasEncB k e then 0 else 2

theorem checkColumn_any (n k e : Int) (w : World) : Calls Try.prog 43 #[.int .i64 n, .int .i64 k, .int .i64 e] w fun r w' => r = .returned (.int .i64 (colE n k e)) ∧ w' = w := by
  by_cases h1 : n < 0 ∨ 100 < n
  · have H := checkCount_any n w
    rw [show cntE n = 6 from by simp [cntE, h1]] at H
    rw [show colE n k e = 6 from by simp [colE, h1]]
    clear h1
    go_enter Try.func43, Try.ntmps43
    go_wp2_with (go_at_call 66; refine H.mono ?_; rintro e w' ⟨rfl, rfl⟩)
    all_goals go_ret
    all_goals exact ⟨rfl, rfl⟩
  · have H := checkCount_any n w
    rw [show cntE n = 0 from by simp [cntE, h1]] at H
    have H2 := hasEncoding_any k e
    by_cases h2 : hasEncB k e = true
    · rw [show colE n k e = 0 from by simp [colE, h1, h2]]
      rw [h2] at H2
      clear h1 h2
      go_enter Try.func43, Try.ntmps43
      go_wp2_with (first | (go_at_call 66; refine H.mono ?_; rintro e w' ⟨rfl, rfl⟩) | (go_at_call 70; refine (H2 _).mono ?_; rintro e w' ⟨rfl, rfl⟩))
      all_goals go_ret
      all_goals exact ⟨rfl, rfl⟩
    · have h3 : hasEncB k e = false := by simpa using h2
      rw [show colE n k e = 2 from by simp [colE, h1, h3]]
      rw [h3] at H2
      clear h1 h2 h3
      go_enter Try.func43, Try.ntmps43
      go_wp2_with (first | (go_at_call 66; refine H.mono ?_; rintro e w' ⟨rfl, rfl⟩) | (go_at_call 70; refine (H2 _).mono ?_; rintro e w' ⟨rfl, rfl⟩))
      all_goals go_ret
      all_goals exact ⟨rfl, rfl⟩

set_option maxRecDepth 100000 in
set_option maxHeartbeats 1000000 in
theorem appendNumber_any (v : Value) (pre : List Nat) (n base : Nat) (w : World) (hn : n < 2147483648) (hl : pre.length ≤ 4000000) (hb : base ≤ w.heap.size)
    (hown : w.ownsRow base 5 1 v pre.length (bcells pre)) :
    Calls Try.prog 105 #[v, .int .i64 n] w fun e w' => ∃ v', e = .returned v' ∧ w'.ownsRow base 5 1 v' (pre ++ vint n).length (bcells (pre ++ vint n)) ∧ Grew w w' v v' := by
  have HA : Hid (Calls Try.prog 136 #[v, .int .u64 n] w fun e w' => ∃ v', e = .returned v' ∧ w'.ownsRow base 5 1 v' (pre ++ vint n).length (bcells (pre ++ vint n)) ∧ Grew w w' v v') :=
    appendVarint_any v pre n base w (by omega) hl hb hown
  clear hown
  go_enter Try.func105, Try.ntmps105
  go_wp2_with fail
  refine HA.out.mono ?_
  rintro e w' ⟨v', rfl, h1, h2⟩
  go_wp2
  go_ret
  exact ⟨_, rfl, h1, h2⟩

theorem zigzag_any (n : Int) (h0 : -9223372036854775808 ≤ n) (h1 : n ≤ 9223372036854775807) (w : World) :
    Calls Try.prog 103 #[.int .i64 n] w fun e w' => e = .returned (.int .u64 (zz n)) ∧ w' = w := by
  by_cases h : n < 0
  all_goals
    go_enter Try.func103, Try.ntmps103
    go_wp2
    all_goals go_ret
    all_goals exact ⟨ret_int (by unfold zz; split <;> omega), rfl⟩

theorem czigzag_any (n : Int) (h0 : -9223372036854775808 ≤ n) (h1 : n ≤ 9223372036854775807) (w : World) :
    Calls Try.prog 137 #[.int .i64 n] w fun e w' => e = .returned (.int .u64 (zz n)) ∧ w' = w := by
  have hz := zig_bits n h0 h1
  go_enter Try.func137, Try.ntmps137
  go_wp2
  go_ret
  exact ⟨rfl, rfl⟩

/-- May a value be of a kind (from Int to Text)? -/
def mayB (v : Val) (k : Int) : Bool :=
  if v.null then (v.n == 0) && (v.s.toList == []) else if k == 1 then v.s.toList == [] else if k == 2 then (v.n == 0 || v.n == 1) && (v.s.toList == []) else (v.n == 0) && decide ((v.s.size : Int) ≤ 32)

theorem ret_bool {a b : Bool} (h : a = b) : Ending.returned (.bool a) = .returned (.bool b) := by rw [h]

set_option maxRecDepth 100000 in
set_option maxHeartbeats 2000000 in
theorem may_any (v : Val) (k : Int) (w : World) (hk : k = 1 ∨ k = 2 ∨ k = 3) :
    Calls Try.prog 41 #[.agg #[.bool v.null, .int .i64 v.n, .string v.s], .int .i64 k] w fun e w' => e = .returned (.bool (mayB v k)) ∧ Below w.heap.size w w' := by
  cases hn : v.null
  · rcases hk with rfl | rfl | rfl
    all_goals
      go_enter Try.func41, Try.ntmps41
      go_wp2
      all_goals go_ret
      all_goals refine ⟨ret_bool ?_, (Below.refl _ _).alloc (Nat.le_refl _) _⟩
      all_goals rw [Bool.eq_iff_iff]
      all_goals simp [mayB, *]
      all_goals try omega
  · rcases hk with rfl | rfl | rfl
    all_goals
      go_enter Try.func41, Try.ntmps41
      go_wp2
      all_goals go_ret
      all_goals refine ⟨ret_bool ?_, (Below.refl _ _).alloc (Nat.le_refl _) _⟩
      all_goals rw [Bool.eq_iff_iff]
      all_goals simp [mayB, *]
      all_goals try omega

set_option maxRecDepth 100000 in
set_option maxHeartbeats 2000000 in
theorem mayBe_any (v : Val) (k : Int) (w : World) (hk : k = 1 ∨ k = 2 ∨ k = 3) :
    Calls Try.prog 44 #[.agg #[.bool v.null, .int .i64 v.n, .string v.s], .int .i64 k] w fun e w' => e = .returned (.bool (mayB v k)) ∧ Below w.heap.size w w' := by
  have H := isKind_any k
  rw [show isKindB k = true from by rcases hk with rfl | rfl | rfl <;> rfl] at H
  cases hn : v.null
  · rcases hk with rfl | rfl | rfl
    all_goals
      go_enter Try.func44, Try.ntmps44
      go_wp2
      all_goals go_ret
      all_goals refine ⟨ret_bool ?_, (Below.refl _ _).alloc (Nat.le_refl _) _⟩
      all_goals rw [Bool.eq_iff_iff]
      all_goals simp [mayB, *]
      all_goals try omega
  · rcases hk with rfl | rfl | rfl
    all_goals
      go_enter Try.func44, Try.ntmps44
      go_wp2_with (go_at_call 71; refine (H _).mono ?_; rintro e w' ⟨rfl, rfl⟩)
      all_goals go_ret
      all_goals refine ⟨ret_bool ?_, (Below.refl _ _).alloc (Nat.le_refl _) _⟩
      all_goals rw [Bool.eq_iff_iff]
      all_goals simp [mayB, *]
      all_goals try omega
end Go.Proofs.Ytjidbonhhpkljaa.Ec
