/- Reading, as plain mathematics: what comes next in bytes, varints, runs; and that nothing else can stand there. -/
import Derived.Test.YtjidbonhhpkljaaEcRuns
set_option linter.unusedVariables false
namespace Go.Proofs.Ytjidbonhhpkljaa.Ec
open Go.RowKit Go.Proofs.Ytjidbonhhpkljaa.Pk Go.Proofs.Ytjidbonhhpkljaa.Pm

/-- At place p these bytes come next. -/
def Starts (B : List Nat) (p : Nat) (xs : List Nat) : Prop := xs <+: B.drop p

theorem starts_nil (B : List Nat) (p : Nat) : Starts B p [] := List.nil_prefix
theorem starts_append {B : List Nat} {p : Nat} {a b : List Nat} : Starts B p (a ++ b) ↔ Starts B p a ∧ Starts B (p + a.length) b := by
  unfold Starts
  constructor
  · rintro ⟨t, ht⟩
    refine ⟨⟨b ++ t, by rw [← ht]; simp⟩, ⟨t, ?_⟩⟩
    rw [← List.drop_drop, ← ht]; simp
  · rintro ⟨⟨t, ht⟩, ⟨t2, ht2⟩⟩
    refine ⟨t2, ?_⟩
    rw [← List.drop_drop, ← ht] at ht2
    simp at ht2
    rw [← ht, List.append_assoc, ht2]
theorem starts_cons {B : List Nat} {p x : Nat} {r : List Nat} : Starts B p (x :: r) ↔ B[p]? = some x ∧ Starts B (p + 1) r := by
  rw [show x :: r = [x] ++ r from rfl, starts_append]
  have : Starts B p [x] ↔ B[p]? = some x := by
    unfold Starts
    rw [← List.head?_drop]
    cases B.drop p with
    | nil => simp
    | cons y t => simp [List.cons_prefix_cons]; exact eq_comm
  rw [this]
  rfl
theorem starts_one {B : List Nat} {p x : Nat} : Starts B p [x] ↔ B[p]? = some x := by
  rw [starts_cons]; simp [starts_nil]
theorem starts_len {B : List Nat} {p : Nat} {xs : List Nat} (h : Starts B p xs) (hp : p ≤ B.length) : p + xs.length ≤ B.length := by
  have := h.length_le
  rw [List.length_drop] at this
  omega
theorem starts_whole {B xs : List Nat} (h : Starts B 0 xs) (hl : ¬ 0 + xs.length < B.length) : xs = B := by
  unfold Starts at h
  rw [List.drop_zero] at h
  exact h.eq_of_length_le (by omega)
theorem starts_of_eq {B xs : List Nat} (h : xs = B) : Starts B 0 xs := by
  subst h
  unfold Starts
  exact List.prefix_refl _
/-- Two pieces of the same length that come next are alike. -/
theorem starts_same {B : List Nat} {p : Nat} {a b : List Nat} (ha : Starts B p a) (hb : Starts B p b) (hl : a.length = b.length) : a = b :=
  (List.prefix_of_prefix_length_le ha hb (by omega)).eq_of_length hl

theorem starts_vint_hi {B : List Nat} {p f c x : Nat} (hc : B[p]? = some c) (h : 128 ≤ c) (hs : Starts B p (vintF (f + 1) x)) : 128 ≤ x ∧ x % 128 + 128 = c ∧ Starts B (p + 1) (vintF f (x / 128)) := by
  by_cases hx : x < 128
  · rw [vintF_small f x hx, starts_one, hc] at hs
    simp at hs; omega
  · rw [vintF_big f x hx, starts_cons, hc] at hs
    simp at hs
    exact ⟨by omega, hs.1.symm, hs.2⟩
theorem starts_vint_lo {B : List Nat} {p f c x : Nat} (hc : B[p]? = some c) (h : c < 128) : Starts B p (vintF (f + 1) x) ↔ x = c := by
  by_cases hx : x < 128
  · rw [vintF_small f x hx, starts_one, hc]
    simp; exact eq_comm
  · rw [vintF_big f x hx, starts_cons, hc]
    simp; omega

/-- A varint of which j bytes were read, all of them high. -/
structure VSt (B : List Nat) (p j acc : Nat) : Prop where
  lt : acc < 128 ^ j
  all : ∀ v, v < 18446744073709551616 → (Starts B p (vint v) ↔ ∃ x, v = acc + 128 ^ j * x ∧ (x ≠ 0 ∨ j = 0) ∧ Starts B (p + j) (vintF (10 - j) x))
  len : ∀ x, (x ≠ 0 ∨ j = 0) → (vint (acc + 128 ^ j * x)).length = j + (vintF (10 - j) x).length

theorem VSt.zero (B : List Nat) (p : Nat) : VSt B p 0 0 :=
  ⟨by simp, fun v _ => ⟨fun h => ⟨v, by simp, .inr rfl, h⟩, fun ⟨x, h1, _, h2⟩ => by simp at h1; subst h1; exact h2⟩, fun x _ => by simp [vint]⟩

theorem VSt.more {B : List Nat} {p j acc c : Nat} (h : VSt B p j acc) (hj : j < 10) (hc : B[p + j]? = some c) (h1 : 128 ≤ c) (h2 : c < 256) : VSt B p (j + 1) (acc + 128 ^ j * (c - 128)) := by
  have hlt := h.lt
  have hf : 10 - j = (10 - (j + 1)) + 1 := by omega
  have hkey : ∀ x, c - 128 + 128 * x = 128 * x + (c - 128) := fun x => by omega
  have hexp : ∀ x, acc + 128 ^ j * (c - 128) + 128 ^ (j + 1) * x = acc + 128 ^ j * (c - 128 + 128 * x) := fun x => by
    rw [Nat.pow_succ, Nat.mul_add, Nat.mul_assoc]; omega
  refine ⟨?_, ?_, ?_⟩
  · have h3 : 128 ^ j * (c - 128) ≤ 128 ^ j * 127 := Nat.mul_le_mul_left _ (by omega)
    rw [Nat.pow_succ]
    omega
  · intro v hv
    rw [h.all v hv]
    constructor
    · rintro ⟨x, h3, h4, h5⟩
      rw [hf] at h5
      obtain ⟨h6, h7, h8⟩ := starts_vint_hi hc h1 h5
      refine ⟨x / 128, ?_, .inl (by omega), by rw [← Nat.add_assoc]; exact h8⟩
      rw [hexp, h3]
      congr 2
      omega
    · rintro ⟨x, h3, h4, h5⟩
      have hx : x ≠ 0 := by rcases h4 with h | h; exact h; omega
      refine ⟨c - 128 + 128 * x, by rw [h3, hexp], .inl (by omega), ?_⟩
      rw [hf, vintF_big _ _ (by omega), starts_cons]
      refine ⟨by rw [hc]; congr 1; omega, ?_⟩
      rw [show (c - 128 + 128 * x) / 128 = x by omega, Nat.add_assoc]
      exact h5
  · intro x hx
    have hx : x ≠ 0 := by rcases hx with h | h; exact h; omega
    rw [hexp, h.len _ (.inl (by omega)), hf, vintF_big _ _ (by omega), show (c - 128 + 128 * x) / 128 = x by omega]
    simp; omega

theorem VSt.fin {B : List Nat} {p j acc c : Nat} (h : VSt B p j acc) (hj : j < 10) (hc : B[p + j]? = some c) (h1 : c < 128) (v : Nat) (hv : v < 18446744073709551616) :
    Starts B p (vint v) ↔ v = acc + 128 ^ j * c ∧ (c ≠ 0 ∨ j = 0) := by
  rw [h.all v hv]
  have hf : 10 - j = (10 - (j + 1)) + 1 := by omega
  constructor
  · rintro ⟨x, h3, h4, h5⟩
    rw [hf, starts_vint_lo hc h1] at h5
    subst h5
    exact ⟨h3, h4⟩
  · rintro ⟨h3, h4⟩
    exact ⟨c, h3, h4, by rw [hf, starts_vint_lo hc h1]⟩
theorem VSt.fin_len {B : List Nat} {p j acc c : Nat} (h : VSt B p j acc) (hj : j < 10) (h1 : c < 128) (hc : c ≠ 0 ∨ j = 0) : (vint (acc + 128 ^ j * c)).length = j + 1 := by
  rw [h.len c hc, show 10 - j = (10 - (j + 1)) + 1 by omega, vintF_small _ _ h1]
  rfl
theorem VSt.none {B : List Nat} {p j acc : Nat} (h : VSt B p j acc) (hj : j < 10) (hp : ¬ p + j < B.length) (v : Nat) (hv : v < 18446744073709551616) : ¬ Starts B p (vint v) := by
  rw [h.all v hv]
  rintro ⟨x, h3, h4, h5⟩
  rw [show 10 - j = (10 - (j + 1)) + 1 by omega] at h5
  have hn : B[p + j]? = Option.none := List.getElem?_eq_none (by omega)
  by_cases hx : x < 128
  · rw [vintF_small _ _ hx, starts_one, hn] at h5; simp at h5
  · rw [vintF_big _ _ hx, starts_cons, hn] at h5; simp at h5
theorem VSt.ten {B : List Nat} {p acc : Nat} (h : VSt B p 10 acc) (v : Nat) (hv : v < 18446744073709551616) : ¬ Starts B p (vint v) := by
  rw [h.all v hv]
  rintro ⟨x, h3, h4, h5⟩
  have : (128 : Nat) ^ 10 = 1180591620717411303424 := by decide
  rw [this] at h3
  omega
theorem VSt.top {B : List Nat} {p j acc c : Nat} (h : VSt B p j acc) (hj : j < 9 ∨ (j = 9 ∧ c ≤ 1)) (hc : c < 128) : acc + 128 ^ j * c < 18446744073709551616 := by
  have hlt := h.lt
  rcases hj with h1 | ⟨rfl, h1⟩
  · have h2 : 128 ^ (j + 1) ≤ 128 ^ 9 := Nat.pow_le_pow_right (by omega) (by omega)
    have h3 : (128 : Nat) ^ 9 = 9223372036854775808 := by decide
    rw [Nat.pow_succ] at h2
    have h4 : 128 ^ j * c ≤ 128 ^ j * 127 := Nat.mul_le_mul_left _ (by omega)
    omega
  · have h3 : (128 : Nat) ^ 9 = 9223372036854775808 := by decide
    rw [h3] at hlt ⊢
    omega
theorem VSt.over {B : List Nat} {p acc c : Nat} (h : 1 < c) : ¬ acc + 128 ^ 9 * c < 18446744073709551616 := by
  have h3 : (128 : Nat) ^ 9 = 9223372036854775808 := by decide
  rw [h3]
  omega

/-- Two numbers whose varints come next are alike. -/
theorem vint_one {B : List Nat} {p a b : Nat} (ha : a < 18446744073709551616) (hb : b < 18446744073709551616) (h1 : Starts B p (vint a)) (h2 : Starts B p (vint b)) : a = b := by
  have key : ∀ f a b p, a < 128 ^ f → b < 128 ^ f → Starts B p (vintF f a) → Starts B p (vintF f b) → a = b := by
    intro f
    induction f with
    | zero => intro a b p h1 h2; simp at h1 h2; omega
    | succ f ih =>
      intro a b p h1 h2 h3 h4
      by_cases ha : a < 128
      · rw [vintF_small f a ha, starts_one] at h3
        exact ((starts_vint_lo h3 ha).1 h4).symm
      · rw [vintF_big f a ha, starts_cons] at h3
        obtain ⟨h5, h6, h7⟩ := starts_vint_hi h3.1 (by omega) h4
        have h8 := ih (a / 128) (b / 128) (p + 1) (by rw [Nat.pow_succ] at h1; omega) (by rw [Nat.pow_succ] at h2; omega) h3.2 h7
        omega
  have h3 : (128 : Nat) ^ 10 = 1180591620717411303424 := by decide
  exact key 10 a b p (by omega) (by omega) h1 h2

def Bits (l : List Int) : Prop := ∀ z ∈ l, z = 0 ∨ z = 1

theorem runLen_self_pos (x : Int) (r : List Int) : 0 < runLen x (x :: r) := by simp [runLen]
theorem runsF_more : ∀ (f : Nat) (l : List Int), l.length ≤ f → runsF (f + 1) l = runsF f l := by
  intro f
  induction f with
  | zero => intro l h; cases l with
    | nil => rfl
    | cons x r => simp at h
  | succ f ih =>
    intro l h
    cases l with
    | nil => rfl
    | cons x r =>
      have h1 := runLen_self_pos x r
      have h2 := ih ((x :: r).drop (runLen x (x :: r))) (by rw [List.length_drop]; simp at h ⊢; omega)
      rw [runsF, runsF]
      simp only [h2]
theorem runsF_eq (f : Nat) (l : List Int) (h : l.length ≤ f) : runsF f l = runsB l := by
  induction f with
  | zero =>
    have : l = [] := List.length_eq_zero_iff.1 (by omega)
    subst this; rfl
  | succ f ih =>
    by_cases h2 : l.length ≤ f
    · rw [runsF_more f l h2, ih h2]
    · unfold runsB; rw [show l.length = f + 1 by omega]
theorem runsB_nil : runsB [] = [] := rfl
theorem runsB_cons (x : Int) (r : List Int) : runsB (x :: r) = vint (runLen x (x :: r)) ++ ([byteOf x] ++ runsB ((x :: r).drop (runLen x (x :: r)))) := by
  have h1 := runLen_self_pos x r
  rw [← runsF_eq r.length ((x :: r).drop (runLen x (x :: r))) (by rw [List.length_drop]; simp; omega)]
  rfl
theorem runLen_rep (b : Int) (n : Nat) (m : List Int) (h : m.head? ≠ some b) : runLen b (List.replicate n b ++ m) = n := by
  induction n with
  | zero =>
    cases m with
    | nil => rfl
    | cons y r => simp [runLen]; intro hy; subst hy; simp at h
  | succ n ih => rw [List.replicate_succ, List.cons_append, runLen, if_pos rfl, ih]
theorem runsB_rep (b : Int) (n : Nat) (m : List Int) (hn : n ≠ 0) (h : m.head? ≠ some b) : runsB (List.replicate n b ++ m) = vint n ++ ([byteOf b] ++ runsB m) := by
  obtain ⟨k, rfl⟩ : ∃ k, n = k + 1 := ⟨n - 1, by omega⟩
  have h1 : List.replicate (k + 1) b ++ m = b :: (List.replicate k b ++ m) := by rw [List.replicate_succ]; rfl
  have h2 := runLen_rep b (k + 1) m h
  rw [h1] at h2 ⊢
  rw [runsB_cons, h2, ← h1]
  simp
theorem runLen_split (x : Int) (l : List Int) : l = List.replicate (runLen x l) x ++ l.drop (runLen x l) := by
  induction l with
  | nil => rfl
  | cons y r ih =>
    simp only [runLen]
    split
    · rename_i h
      subst h
      rw [List.replicate_succ, List.cons_append, List.drop_succ_cons, ← ih]
    · simp
theorem runLen_after (x : Int) (l : List Int) : (l.drop (runLen x l)).head? ≠ some x := by
  intro h
  rw [List.head?_drop] at h
  obtain ⟨h1, h2⟩ := List.getElem?_eq_some_iff.1 h
  exact runLen_out x l h1 h2

/-- Runs of which some were read. -/
structure RSt (B : List Nat) (p cn : Nat) (l : List Int) (R : List Nat) : Prop where
  le : l.length ≤ cn
  bits : Bits l
  st : Starts B p R
  ext : ∀ m : List Int, (m = [] ∨ l = [] ∨ m.head? ≠ l.getLast?) → runsB (l ++ m) = R ++ runsB m
  uni : ∀ L : List Int, L.length = cn → Bits L → Starts B p (runsB L) → ∃ m, L = l ++ m ∧ (m = [] ∨ l = [] ∨ m.head? ≠ l.getLast?)

theorem RSt.zero (B : List Nat) (p cn : Nat) : RSt B p cn [] [] :=
  ⟨Nat.zero_le _, fun z hz => by simp at hz, starts_nil _ _, fun m _ => rfl, fun L _ _ _ => ⟨L, rfl, .inr (.inl rfl)⟩⟩

theorem byteOf_bit {b : Int} (h : b = 0 ∨ b = 1) : byteOf b = b.toNat := by rcases h with rfl | rfl <;> rfl

/-- What a list that is written there has behind what was read. -/
theorem RSt.next {B : List Nat} {p cn : Nat} {l : List Int} {R : List Nat} (h : RSt B p cn l R) (hlt : l.length < cn) (L : List Int) (hL : L.length = cn) (hb : Bits L) (hs : Starts B p (runsB L)) :
    ∃ (n : Nat) (b : Int) (m : List Int), 1 ≤ n ∧ n ≤ cn - l.length ∧ (b = 0 ∨ b = 1) ∧ (l = [] ∨ l.getLast? ≠ some b) ∧ Starts B (p + R.length) (vint n) ∧ Starts B (p + R.length + (vint n).length) [b.toNat] ∧
      L = (l ++ List.replicate n b) ++ m ∧ m.head? ≠ some b := by
  obtain ⟨m, rfl, hm⟩ := h.uni L hL hb hs
  rw [List.length_append] at hL
  cases m with
  | nil => simp at hL; omega
  | cons x r =>
    rw [h.ext _ hm, starts_append] at hs
    have hs2 := hs.2
    rw [runsB_cons, starts_append, starts_append] at hs2
    have hx : x = 0 ∨ x = 1 := hb x (by simp)
    refine ⟨runLen x (x :: r), x, (x :: r).drop (runLen x (x :: r)), runLen_self_pos x r, ?_, hx, ?_, hs2.1, ?_, ?_, runLen_after x (x :: r)⟩
    · have := runLen_le x (x :: r); omega
    · rcases hm with h1 | h1 | h1
      · simp at h1
      · exact .inl h1
      · right; simpa [eq_comm] using h1
    · rw [← byteOf_bit hx]; exact hs2.2.1
    · rw [List.append_assoc, ← runLen_split]

theorem RSt.more {B : List Nat} {p cn : Nat} {l : List Int} {R : List Nat} (h : RSt B p cn l R) {n : Nat} {b : Int} (hn : n ≠ 0) (hle : n ≤ cn - l.length) (hn2 : n < 18446744073709551616) (hb : b = 0 ∨ b = 1) (hlast : l = [] ∨ l.getLast? ≠ some b)
    (s1 : Starts B (p + R.length) (vint n)) (s2 : Starts B (p + R.length + (vint n).length) [b.toNat]) (hcn : cn ≤ 100) (hlt : l.length < cn) : RSt B p cn (l ++ List.replicate n b) (R ++ (vint n ++ [b.toNat])) := by
  have hne : List.replicate n b ≠ [] := by simp; exact hn
  have hgl : (l ++ List.replicate n b).getLast? = some b := by
    rw [List.getLast?_append, List.getLast?_replicate, if_neg hn]; rfl
  have hhd : ∀ m, (List.replicate n b ++ m).head? = some b := by
    intro m
    obtain ⟨k, rfl⟩ : ∃ k, n = k + 1 := ⟨n - 1, by omega⟩
    rw [List.replicate_succ]; rfl
  refine ⟨by simp; omega, ?_, ?_, ?_, ?_⟩
  · intro z hz
    rcases List.mem_append.1 hz with h1 | h1
    · exact h.bits z h1
    · rw [(List.mem_replicate.1 h1).2]; exact hb
  · rw [starts_append, starts_append]; exact ⟨h.st, s1, s2⟩
  · intro m hm
    rw [hgl] at hm
    have hm2 : m.head? ≠ some b := by
      rcases hm with h1 | h1 | h1
      · subst h1; simp
      · simp at h1; omega
      · exact h1
    rw [List.append_assoc, h.ext _ (by rw [hhd]; rcases hlast with h1 | h1; exact .inr (.inl h1); exact .inr (.inr (fun e => h1 e.symm))), runsB_rep b n m hn hm2, byteOf_bit hb]
    simp
  · intro L hL hbL hs
    obtain ⟨n', b', m, h1, h2, h3, h4, h5, h6, h7, h8⟩ := h.next hlt L hL hbL hs
    have e1 : n' = n := vint_one (by omega) hn2 h5 s1
    subst e1
    have e2 : b' = b := by
      rw [starts_one] at h6 s2
      rw [h6] at s2
      simp at s2
      omega
    subst e2
    exact ⟨m, h7, .inr (.inr (by rw [hgl]; exact h8))⟩

theorem RSt.done {B : List Nat} {p cn : Nat} {l : List Int} {R : List Nat} (h : RSt B p cn l R) (hl : ¬ l.length < cn) :
    l.length = cn ∧ runsB l = R ∧ (∀ L : List Int, L.length = cn → Bits L → Starts B p (runsB L) → L = l) := by
  have hlen : l.length = cn := by have := h.le; omega
  refine ⟨hlen, ?_, ?_⟩
  · have := h.ext [] (.inl rfl)
    simpa [runsB_nil] using this
  · intro L hL hb hs
    obtain ⟨m, rfl, _⟩ := h.uni L hL hb hs
    rw [List.length_append] at hL
    have : m = [] := List.length_eq_zero_iff.1 (by omega)
    rw [this]; simp
end Go.Proofs.Ytjidbonhhpkljaa.Ec
