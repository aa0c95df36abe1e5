/- Plain mathematics of packing: a list of bytes is fixed by its length and by the number that it spells; a list of numbers below 2^w likewise. -/
set_option linter.unusedVariables false
namespace Go.Proofs.Ytjidbonhhpkljaa.Pm

/-- The number that bytes spell, the lowest first. -/
def V : List Nat → Nat
  | [] => 0
  | b :: r => b + 256 * V r

/-- The number that numbers of w bits spell, the lowest first. -/
def N (w : Nat) : List Nat → Nat
  | [] => 0
  | x :: r => x + 2 ^ w * N w r

theorem V_append (a b : List Nat) : V (a ++ b) = V a + 256 ^ a.length * V b := by
  induction a with
  | nil => simp [V]
  | cons x r ih => simp only [List.cons_append, V, ih, List.length_cons, Nat.pow_succ]; rw [Nat.mul_add, Nat.mul_comm (256 ^ r.length) 256, Nat.mul_assoc, Nat.add_assoc]

theorem V_lt (a : List Nat) (h : ∀ x ∈ a, x < 256) : V a < 256 ^ a.length := by
  induction a with
  | nil => simp [V]
  | cons x r ih =>
    have h1 := h x (by simp)
    have h2 := ih (fun y hy => h y (by simp [hy]))
    simp only [V, List.length_cons, Nat.pow_succ]; omega

theorem V_inj (a b : List Nat) (ha : ∀ x ∈ a, x < 256) (hb : ∀ x ∈ b, x < 256) (hl : a.length = b.length) (h : V a = V b) : a = b := by
  induction a generalizing b with
  | nil => cases b with
    | nil => rfl
    | cons y s => simp at hl
  | cons x r ih => cases b with
    | nil => simp at hl
    | cons y s =>
      simp only [V] at h
      have h1 := ha x (by simp)
      have h2 := hb y (by simp)
      have e : x = y := by omega
      have e2 : V r = V s := by omega
      rw [e, ih s (fun z hz => ha z (by simp [hz])) (fun z hz => hb z (by simp [hz])) (by simpa using hl) e2]

theorem V_set (a : List Nat) (j x : Nat) (hj : j < a.length) : V (a.set j x) + a[j] * 256 ^ j = V a + x * 256 ^ j := by
  induction a generalizing j with
  | nil => simp at hj
  | cons y r ih =>
    cases j with
    | zero => simp [V]; omega
    | succ k =>
      have := ih k (by simpa using hj)
      simp only [List.set_cons_succ, V, List.getElem_cons_succ, Nat.pow_succ]
      rw [← Nat.mul_assoc, ← Nat.mul_assoc]; omega

theorem V_get_le (a : List Nat) (j : Nat) (hj : j < a.length) : a[j] * 256 ^ j ≤ V a := by
  have := V_set a j 0 hj
  omega

theorem V_zero (n : Nat) : V (List.replicate n 0) = 0 := by
  induction n with
  | zero => rfl
  | succ k ih => simp [List.replicate_succ, V, ih]

theorem V_take (a : List Nat) (n : Nat) (h : ∀ x ∈ a, x < 256) : V (a.take n) = V a % 256 ^ n := by
  induction a generalizing n with
  | nil => simp [V]
  | cons y r ih =>
    cases n with
    | zero => simp [V, Nat.mod_one]
    | succ k =>
      have h1 := h y (by simp)
      have h2 := ih k (fun z hz => h z (by simp [hz]))
      simp only [List.take_succ_cons, V, h2, Nat.pow_succ]
      rw [Nat.mul_comm (256 ^ k) 256, Nat.mod_mul, show (y + 256 * V r) % 256 = y by omega, show (y + 256 * V r) / 256 = V r by omega]

theorem V_get (a : List Nat) (j : Nat) (h : ∀ x ∈ a, x < 256) : (a[j]?.getD 0) = V a / 256 ^ j % 256 := by
  induction a generalizing j with
  | nil => simp [V]
  | cons y r ih =>
    have h1 := h y (by simp)
    cases j with
    | zero => simp [V]; omega
    | succ k =>
      have h2 := ih k (fun z hz => h z (by simp [hz]))
      simp only [List.getElem?_cons_succ, h2, V, Nat.pow_succ]
      rw [Nat.mul_comm (256 ^ k) 256, ← Nat.div_div_eq_div_mul, show (y + 256 * V r) / 256 = V r by omega]

theorem N_snoc (w : Nat) (l : List Nat) (x : Nat) : N w (l ++ [x]) = N w l + 2 ^ (w * l.length) * x := by
  induction l with
  | nil => simp [N]
  | cons y r ih =>
    simp only [List.cons_append, N, ih, List.length_cons]
    rw [Nat.mul_add, ← Nat.mul_assoc, ← Nat.pow_add, Nat.add_assoc, show w + w * r.length = w * (r.length + 1) by rw [Nat.mul_succ]; omega]

theorem N_lt (w : Nat) (l : List Nat) (h : ∀ x ∈ l, x < 2 ^ w) : N w l < 2 ^ (w * l.length) := by
  induction l with
  | nil => simp [N]
  | cons y r ih =>
    have h1 := h y (by simp)
    have h2 := ih (fun z hz => h z (by simp [hz]))
    simp only [N, List.length_cons]
    rw [show w * (r.length + 1) = w + w * r.length by rw [Nat.mul_succ]; omega, Nat.pow_add]
    have h3 : 2 ^ w * (N w r + 1) ≤ 2 ^ w * 2 ^ (w * r.length) := Nat.mul_le_mul_left _ h2
    rw [Nat.mul_add] at h3; omega

/-- The numbers of w bits that stand in a number. -/
def D (w v : Nat) : Nat → List Nat
  | 0 => []
  | n + 1 => D w v n ++ [v / 2 ^ (w * n) % 2 ^ w]

theorem D_length (w v n : Nat) : (D w v n).length = n := by
  induction n with
  | zero => rfl
  | succ k ih => simp [D, ih]

theorem D_lt (w v n : Nat) : ∀ x ∈ D w v n, x < 2 ^ w := by
  induction n with
  | zero => simp [D]
  | succ k ih =>
    intro x hx
    simp only [D, List.mem_append, List.mem_singleton] at hx
    rcases hx with hx | hx
    · exact ih x hx
    · rw [hx]; exact Nat.mod_lt _ (Nat.pow_pos (by omega))

theorem N_D (w v n : Nat) : N w (D w v n) = v % 2 ^ (w * n) := by
  induction n with
  | zero => simp [D, N, Nat.mod_one]
  | succ k ih =>
    rw [D, N_snoc, ih, D_length, show w * (k + 1) = w * k + w by rw [Nat.mul_succ], Nat.pow_add, Nat.mod_mul]

/-- One bit more of a number. -/
theorem mod_succ_pow (x k : Nat) : x % 2 ^ (k + 1) = x % 2 ^ k + 2 ^ k * (x / 2 ^ k % 2) := by
  rw [Nat.pow_succ, Nat.mod_mul]

theorem pow256 (n : Nat) : 256 ^ n = 2 ^ (8 * n) := by rw [Nat.pow_mul]

/-- A bit at a place, in bytes. -/
theorem bit_of_byte (v at_ : Nat) : v / 256 ^ (at_ / 8) % 256 / 2 ^ (at_ % 8) % 2 = v / 2 ^ at_ % 2 := by
  have h8 : (256 : Nat) = 2 ^ (at_ % 8) * (2 ^ (8 - at_ % 8)) := by rw [← Nat.pow_add, show at_ % 8 + (8 - at_ % 8) = 8 by omega]
  have e1 : v / 256 ^ (at_ / 8) % 256 / 2 ^ (at_ % 8) = v / 256 ^ (at_ / 8) / 2 ^ (at_ % 8) % 2 ^ (8 - at_ % 8) := by
    conv => lhs; rw [h8]
    rw [Nat.mod_mul_right_div_self]
    rw [← h8]
  rw [e1, Nat.div_div_eq_div_mul, pow256, ← Nat.pow_add, show 8 * (at_ / 8) + at_ % 8 = at_ by omega]
  rw [show 8 - at_ % 8 = (7 - at_ % 8) + 1 by omega, Nat.pow_succ, Nat.mul_comm, Nat.mod_mul_right_mod]

/-- A bit is laid at its place. -/
theorem step_yes (ns : List Nat) (A x wd k t : Nat) (hA : A < 2 ^ (wd * k)) (hV : V ns = A + 2 ^ (wd * k) * (x % 2 ^ t)) (hj : (k * wd + t) / 8 < ns.length) (hx : x / 2 ^ t % 2 = 1) :
    ns[(k * wd + t) / 8] + 2 ^ ((k * wd + t) % 8) < 256 ∧ V (ns.set ((k * wd + t) / 8) (ns[(k * wd + t) / 8] + 2 ^ ((k * wd + t) % 8))) = A + 2 ^ (wd * k) * (x % 2 ^ (t + 1)) := by
  have hlt : V ns < 2 ^ (k * wd + t) := by
    have h1 : x % 2 ^ t + 1 ≤ 2 ^ t := Nat.mod_lt _ (Nat.pow_pos (by omega))
    have h2 := Nat.mul_le_mul_left (2 ^ (wd * k)) h1
    rw [Nat.mul_add, ← Nat.pow_add] at h2
    rw [hV, Nat.mul_comm k wd]; omega
  have hg := V_get_le ns _ hj
  have e1 : 2 ^ (k * wd + t) = 2 ^ ((k * wd + t) % 8) * 256 ^ ((k * wd + t) / 8) := by
    rw [pow256, ← Nat.pow_add]; congr 1; omega
  have h3 : ns[(k * wd + t) / 8] < 2 ^ ((k * wd + t) % 8) := by
    have : ns[(k * wd + t) / 8] * 256 ^ ((k * wd + t) / 8) < 2 ^ ((k * wd + t) % 8) * 256 ^ ((k * wd + t) / 8) := by omega
    exact Nat.lt_of_mul_lt_mul_right this
  refine ⟨?_, ?_⟩
  · have : 2 ^ ((k * wd + t) % 8 + 1) ≤ 2 ^ 8 := Nat.pow_le_pow_right (by omega) (by omega)
    rw [Nat.pow_succ] at this; omega
  · have hset := V_set ns _ (ns[(k * wd + t) / 8] + 2 ^ ((k * wd + t) % 8)) hj
    rw [Nat.add_mul, ← e1] at hset
    rw [mod_succ_pow, hx, Nat.mul_one, Nat.mul_add, ← Nat.pow_add, show wd * k + t = k * wd + t by rw [Nat.mul_comm]]
    omega

theorem step_no (x t : Nat) (hx : ¬ x / 2 ^ t % 2 = 1) : x % 2 ^ (t + 1) = x % 2 ^ t := by
  rw [mod_succ_pow, show x / 2 ^ t % 2 = 0 by omega]; omega

theorem N_take_succ (wd : Nat) (l : List Nat) (k : Nat) (hk : k < l.length) : N wd (l.take (k + 1)) = N wd (l.take k) + 2 ^ (wd * k) * l[k] := by
  rw [List.take_succ_eq_append_getElem hk, N_snoc, List.length_take, Nat.min_eq_left (by omega)]

theorem N_take_lt (wd : Nat) (l : List Nat) (k : Nat) (h : ∀ x ∈ l, x < 2 ^ wd) (hk : k ≤ l.length) : N wd (l.take k) < 2 ^ (wd * k) := by
  have := N_lt wd (l.take k) (fun x hx => h x (List.mem_of_mem_take hx))
  rwa [List.length_take, Nat.min_eq_left hk] at this

theorem set_lt (ns : List Nat) (j x : Nat) (h : ∀ y ∈ ns, y < 256) (hx : x < 256) : ∀ y ∈ ns.set j x, y < 256 := by
  intro y hy
  rcases List.mem_or_eq_of_mem_set hy with h1 | h1
  · exact h y h1
  · omega

theorem at_lt (n wd k t : Nat) (hk : k < n) (ht : t < wd) : (k * wd + t) / 8 < (n * wd + 7) / 8 := by
  have : (k + 1) * wd ≤ n * wd := Nat.mul_le_mul_right _ hk
  rw [Nat.succ_mul] at this; omega
end Go.Proofs.Ytjidbonhhpkljaa.Pm
