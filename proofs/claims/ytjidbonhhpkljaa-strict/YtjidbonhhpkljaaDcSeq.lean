/- Lists that are read one element behind the other: what was read, and that nothing else can stand there; plain values. -/
import Derived.Test.YtjidbonhhpkljaaDcRunsP
import Derived.Test.YtjidbonhhpkljaaEcEncode
set_option linter.unusedVariables false
namespace Go.Proofs.Ytjidbonhhpkljaa.Ec
open Go.RowKit Go.Proofs.Ytjidbonhhpkljaa.Pk Go.Proofs.Ytjidbonhhpkljaa.Pm

/-- Of count elements some were read: E what a list is written as, e what an element is behind those ahead of it. -/
structure QSt {α : Type} (E : List α → List Nat) (ok : α → Prop) (B : List Nat) (p cn : Nat) (l : List α) : Prop where
  le : l.length ≤ cn
  oks : ∀ x ∈ l, ok x
  st : Starts B p (E l)
  uni : ∀ L : List α, L.length = cn → (∀ x ∈ L, ok x) → Starts B p (E L) → ∃ m, L = l ++ m

theorem snoc_pre {α : Type} {E : List α → List Nat} {e : List α → α → List Nat} (hE : ∀ l x, E (l ++ [x]) = E l ++ e l x) (l m : List α) : ∃ t, E (l ++ m) = E l ++ t := by
  induction m generalizing l with
  | nil => exact ⟨[], by simp⟩
  | cons x r ih =>
    obtain ⟨t, ht⟩ := ih (l ++ [x])
    refine ⟨e l x ++ t, ?_⟩
    rw [show l ++ x :: r = l ++ [x] ++ r by simp, ht, hE, List.append_assoc]

theorem QSt.zero {α : Type} {E : List α → List Nat} {ok : α → Prop} {B : List Nat} {p cn : Nat} (h0 : E [] = []) : QSt E ok B p cn [] :=
  ⟨Nat.zero_le _, fun x hx => by simp at hx, by rw [h0]; exact starts_nil _ _, fun L _ _ _ => ⟨L, rfl⟩⟩
theorem QSt.next {α : Type} {E : List α → List Nat} {ok : α → Prop} {e : List α → α → List Nat} {B : List Nat} {p cn : Nat} {l : List α} (h : QSt E ok B p cn l) (hE : ∀ l x, E (l ++ [x]) = E l ++ e l x) (hlt : l.length < cn)
    (L : List α) (hL : L.length = cn) (hok : ∀ x ∈ L, ok x) (hs : Starts B p (E L)) : ∃ x m, L = (l ++ [x]) ++ m ∧ ok x ∧ Starts B (p + (E l).length) (e l x) := by
  obtain ⟨m, rfl⟩ := h.uni L hL hok hs
  cases m with
  | nil => simp at hL; omega
  | cons x r =>
    obtain ⟨t, ht⟩ := snoc_pre hE (l ++ [x]) r
    refine ⟨x, r, by simp, hok x (by simp), ?_⟩
    rw [show l ++ x :: r = l ++ [x] ++ r by simp, ht, hE, List.append_assoc, starts_append, starts_append] at hs
    exact hs.2.1
theorem QSt.more {α : Type} {E : List α → List Nat} {ok : α → Prop} {e : List α → α → List Nat} {B : List Nat} {p cn : Nat} {l : List α} (h : QSt E ok B p cn l) (hE : ∀ l x, E (l ++ [x]) = E l ++ e l x) (hlt : l.length < cn)
    {x : α} (hx : ok x) (hs : Starts B (p + (E l).length) (e l x)) (hu : ∀ y, ok y → Starts B (p + (E l).length) (e l y) → y = x) : QSt E ok B p cn (l ++ [x]) := by
  refine ⟨by simp; omega, ?_, by rw [hE, starts_append]; exact ⟨h.st, hs⟩, ?_⟩
  · intro y hy
    rcases List.mem_append.1 hy with h1 | h1
    · exact h.oks y h1
    · simp at h1; rw [h1]; exact hx
  · intro L hL hok hsL
    obtain ⟨y, m, h1, h2, h3⟩ := h.next hE hlt L hL hok hsL
    rw [hu y h2 h3] at h1
    exact ⟨m, h1⟩
theorem QSt.fail {α : Type} {E : List α → List Nat} {ok : α → Prop} {e : List α → α → List Nat} {B : List Nat} {p cn : Nat} {l : List α} (h : QSt E ok B p cn l) (hE : ∀ l x, E (l ++ [x]) = E l ++ e l x) (hlt : l.length < cn)
    (hu : ∀ y, ok y → ¬ Starts B (p + (E l).length) (e l y)) (L : List α) (hL : L.length = cn) (hok : ∀ x ∈ L, ok x) : ¬ Starts B p (E L) := by
  intro hs
  obtain ⟨y, m, h1, h2, h3⟩ := h.next hE hlt L hL hok hs
  exact hu y h2 h3
theorem QSt.done {α : Type} {E : List α → List Nat} {ok : α → Prop} {B : List Nat} {p cn : Nat} {l : List α} (h : QSt E ok B p cn l) (hl : ¬ l.length < cn) :
    l.length = cn ∧ (∀ L : List α, L.length = cn → (∀ x ∈ L, ok x) → Starts B p (E L) → L = l) := by
  have hlen : l.length = cn := by have := h.le; omega
  refine ⟨hlen, ?_⟩
  intro L hL hb hs
  obtain ⟨m, rfl⟩ := h.uni L hL hb hs
  rw [List.length_append] at hL
  have : m = [] := List.length_eq_zero_iff.1 (by omega)
  rw [this]; simp

/-- The number that was folded. -/
def uz (m : Nat) : Int := if m % 2 = 1 then -((m / 2 : Nat) : Int) - 1 else ((m / 2 : Nat) : Int)
theorem zz_uz (m : Nat) : zz (uz m) = m := by
  unfold zz uz
  split <;> split <;> omega
theorem uz_zz (n : Int) : uz (zz n) = n := by
  unfold zz uz
  split <;> split <;> omega
theorem uz_range (m : Nat) (h : m < 18446744073709551616) : -9223372036854775808 ≤ uz m ∧ uz m ≤ 9223372036854775807 := by
  unfold uz
  split <;> omega

/-- A value that is there, of a kind. -/
structure VK (k : Int) (v : Val) : Prop where
  there : v.null = false
  lo : -9223372036854775808 ≤ v.n
  hi : v.n ≤ 9223372036854775807
  s1 : k = 1 → v.s = ⟨#[]⟩
  s2 : k = 2 → (v.n = 0 ∨ v.n = 1) ∧ v.s = ⟨#[]⟩
  s3 : k = 3 → v.n = 0 ∧ v.s.size ≤ 32

theorem nil_of_toList {s : ByteArray} (h : s.toList = []) : s = ⟨#[]⟩ := by
  rw [ByteArray.toList_eq s] at h
  apply ByteArray.ext
  apply Array.ext'
  simpa using h
theorem may_of_vk {k : Int} {v : Val} (hk : k = 1 ∨ k = 2 ∨ k = 3) (h : VK k v) : mayB v k = true := by
  unfold mayB
  rw [h.there]
  rcases hk with rfl | rfl | rfl
  · simp [h.s1 rfl, ByteArray.toList_eq]
  · have := h.s2 rfl
    simp [this.2, this.1, ByteArray.toList_eq]
  · have := h.s3 rfl
    simp [this.1]; omega
theorem vk_of_may {k : Int} {v : Val} (hk : k = 1 ∨ k = 2 ∨ k = 3) (hn : v.null = false) (h : VIn v) (hm : mayB v k = true) : VK k v := by
  unfold mayB at hm
  rw [hn] at hm
  refine ⟨hn, h.lo, h.hi, ?_, ?_, ?_⟩
  · rintro rfl
    simp at hm
    exact nil_of_toList hm
  · rintro rfl
    simp at hm
    exact ⟨hm.1, nil_of_toList hm.2⟩
  · rintro rfl
    simp at hm
    exact ⟨hm.1, by omega⟩
theorem VK.ok {k : Int} {v : Val} (hk : k = 1 ∨ k = 2 ∨ k = 3) (h : VK k v) : VOk v := by
  refine ⟨h.lo, h.hi, ?_⟩
  rcases hk with rfl | rfl | rfl
  · rw [h.s1 rfl]; decide
  · rw [(h.s2 rfl).2]; decide
  · exact (h.s3 rfl).2

/-- Two values that stand at one place are alike. -/
theorem plain_one {k : Int} (hk : k = 1 ∨ k = 2 ∨ k = 3) {B : List Nat} {p : Nat} {x y : Val} (hx : VK k x) (hy : VK k y) (h1 : Starts B p (plainB k x)) (h2 : Starts B p (plainB k y)) : x = y := by
  have key : x.n = y.n → x.s = y.s → x = y := by
    intro a b
    have c := hx.there.trans hy.there.symm
    cases x; cases y
    simp at a b c
    simp [a, b, c]
  rcases hk with rfl | rfl | rfl
  · have e1 : ∀ v, plainB 1 v = vint (zz v.n) := fun v => rfl
    rw [e1] at h1 h2
    have := vint_one (zz_lt _ hx.lo hx.hi) (zz_lt _ hy.lo hy.hi) h1 h2
    refine key ?_ (by rw [hx.s1 rfl, hy.s1 rfl])
    rw [← uz_zz x.n, this, uz_zz]
  · have e1 : ∀ v, plainB 2 v = [byteOf v.n] := fun v => rfl
    rw [e1, starts_one] at h1 h2
    rw [h1] at h2
    simp at h2
    refine key ?_ (by rw [(hx.s2 rfl).2, (hy.s2 rfl).2])
    rw [byteOf_bit (hx.s2 rfl).1, byteOf_bit (hy.s2 rfl).1] at h2
    have := (hx.s2 rfl).1
    have := (hy.s2 rfl).1
    omega
  · have e1 : ∀ v, plainB 3 v = vint v.s.size ++ bytesOf v.s := fun v => rfl
    rw [e1, starts_append] at h1 h2
    have a1 := (hx.s3 rfl).2
    have a2 := (hy.s3 rfl).2
    have := vint_one (by omega) (by omega) h1.1 h2.1
    rw [this] at h1
    refine key (by rw [(hx.s3 rfl).1, (hy.s3 rfl).1]) ?_
    exact bytesOf_inj (starts_same h1.2 h2.2 (by rw [bytesOf_length, bytesOf_length, this]))

theorem plainsB_snoc (k : Int) (l : List Val) (x : Val) : plainsB k (l ++ [x]) = plainsB k l ++ plainB k x := by
  unfold plainsB
  rw [List.flatMap_append, List.flatMap_singleton]

/-- The value that stands behind a difference. -/
theorem wrap64_back (a n d : Int) (hn0 : -9223372036854775808 ≤ n) (hn1 : n ≤ 9223372036854775807) (h : wrap64 (n - a) = d) : wrap64 (a + d) = n := by
  unfold wrap64 at *
  omega
theorem wrap64_forth (a d : Int) (hd0 : -9223372036854775808 ≤ d) (hd1 : d ≤ 9223372036854775807) : wrap64 (wrap64 (a + d) - a) = d := by
  unfold wrap64
  omega
theorem delta_one {a : Int} {B : List Nat} {p : Nat} {x y : Val} (hx : VK 1 x) (hy : VK 1 y) (h1 : Starts B p (vint (zz (wrap64 (x.n - a))))) (h2 : Starts B p (vint (zz (wrap64 (y.n - a))))) : x = y := by
  have r1 := wrap64_range (x.n - a)
  have r2 := wrap64_range (y.n - a)
  have e := vint_one (zz_lt _ r1.1 r1.2) (zz_lt _ r2.1 r2.2) h1 h2
  have e2 : wrap64 (x.n - a) = wrap64 (y.n - a) := by rw [← uz_zz (wrap64 (x.n - a)), e, uz_zz]
  have b1 := wrap64_back a x.n _ hx.lo hx.hi rfl
  have b2 := wrap64_back a y.n _ hy.lo hy.hi rfl
  rw [e2, b2] at b1
  have c := hx.there.trans hy.there.symm
  have d := (hx.s1 rfl).trans (hy.s1 rfl).symm
  cases x; cases y
  simp at b1 c d
  simp [b1, c, d]
end Go.Proofs.Ytjidbonhhpkljaa.Ec
