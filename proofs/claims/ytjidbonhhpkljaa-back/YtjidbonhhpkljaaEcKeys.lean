/- Values as keys of a map; dictionaries as plain functions. -/
import Derived.Test.YtjidbonhhpkljaaEcPacked
import Derived.Maps.OwnSet
import Derived.Maps.OwnOps
import Derived.DeepKeys4
set_option linter.unusedVariables false
namespace Go.Proofs.Ytjidbonhhpkljaa.Ec
open Go.RowKit Go.Proofs.Ytjidbonhhpkljaa.Pk Go.Proofs.Ytjidbonhhpkljaa.Pm

theorem laidV : laidOutB Try.prog = true := by kernel_rfl
theorem rowV : (39 : TypeId) < Try.prog.types.size := of_decide_eq_true (by kernel_rfl)
theorem ktV : Try.prog.keyTypeAt 2 39 = true := by kernel_rfl
theorem lawV : Maps.Keyed Try.prog 39 := Maps.Keyed.of_law (deep_law_laid laidV (m := 2) (by omega) rowV ktV (by rw [Try.underlying39]))
theorem cellsV : Try.prog.cellsOf 39 = 3 := by kernel_rfl
theorem cellsB1 : Try.prog.cellsOf 4 = 1 := by kernel_rfl
theorem cellsI1 : Try.prog.cellsOf 3 = 1 := by kernel_rfl
theorem cellsS1 : Try.prog.cellsOf 9 = 1 := by kernel_rfl
theorem size_succ (n : Nat) (h : 39 < n) : ∃ m, n = m + 1 := ⟨n - 1, by omega⟩
theorem sizeP : ∃ m, Try.prog.types.size = m + 1 := size_succ _ rowV
theorem keyTypeV : Try.prog.keyType 39 = true := by kernel_rfl

/-- What a value reads as, as a key. -/
def kl (x : Val) : Lit := .string (keyBytes [.bool x.null, .int .i64 x.n, .string x.s.data.toList])

theorem wf_i64 (a : Int) (h0 : -9223372036854775808 ≤ a) (h1 : a ≤ 9223372036854775807) : (Lit.int .i64 a).wf = true := by
  simp [Lit.wf, IntKind.min, IntKind.max, IntKind.signed, IntKind.bits]
  omega

theorem key_mk (x : Val) (h : VOk x) : keyOf Try.prog 39 (.agg #[.bool x.null, .int .i64 x.n, .string x.s]) = some (kl x) := by
  obtain ⟨m, hm⟩ := sizeP
  have hw := wf_i64 x.n h.lo h.hi
  have hs : x.s.size ≤ maxLen := by have := h.sz; unfold maxLen; omega
  have hf : (Value.agg #[.bool x.null, .int .i64 x.n, .string x.s]).formed Try.prog 39 = true := by simp [Value.formed, Try.underlying39, cellsV]
  unfold keyOf
  simp only [Try.underlying39, keyTypeV, hf, Bool.and_self, if_true, hm]
  unfold Program.keyLits
  simp [Try.underlying39, cellsV, cellsB1, cellsI1, cellsS1, Value.cells, Program.keyLits, Try.underlying4, Try.underlying3, Try.underlying9, hw, hs, kl]

theorem kl_inj {x y : Val} (hx : VOk x) (hy : VOk y) (h : kl x = kl y) : x = y := by
  have e := lawV.inj (key_mk x hx) (by rw [h]; exact key_mk y hy)
  cases x; cases y
  simp at e
  simp [e]
theorem kl_key (x : Val) : WideAt.IsKeyLit (kl x) := trivial

/-- A dictionary, one value more. -/
def ins (d : List Val) (v : Val) : List Val := if idx d v < d.length then d else d ++ [v]

theorem idx_append_in (d : List Val) (x : Val) (r : List Val) (h : idx d x < d.length) : idx (d ++ r) x = idx d x := by
  induction d with
  | nil => simp at h
  | cons y t ih =>
    simp only [idx, List.cons_append] at h ⊢
    by_cases hy : veq y x = true
    · simp [hy]
    · simp only [hy] at h ⊢
      have := ih (by simpa using h)
      simp [this]
theorem idx_append_out (d : List Val) (x : Val) (h : ¬ idx d x < d.length) (v : Val) : idx (d ++ [v]) x = if veq v x then d.length else d.length + 1 := by
  induction d with
  | nil => simp [idx]
  | cons y t ih =>
    simp only [idx, List.cons_append] at h ⊢
    by_cases hy : veq y x = true
    · simp [hy] at h
    · simp only [hy] at h ⊢
      have := ih (by simpa using h)
      rw [if_neg (by simp), this]
      split <;> simp
theorem idx_ins (d : List Val) (v : Val) : idx (ins d v) v = idx d v ∧ idx (ins d v) v < (ins d v).length ∧ (¬ idx d v < d.length → idx d v = d.length) := by
  have hle := idx_le d v
  unfold ins
  by_cases h : idx d v < d.length
  · simp only [h, if_true]
    exact ⟨trivial, trivial, fun h => absurd trivial h⟩
  · have hv : veq v v = true := veq_iff.2 rfl
    have := idx_append_out d v h v
    rw [hv] at this
    simp only [h, if_false]
    simp at this
    rw [this]
    refine ⟨by omega, by simp, fun _ => by omega⟩

def dstep (s : List Val × List Nat) (v : Val) : List Val × List Nat := (ins s.1 v, s.2 ++ [idx (ins s.1 v) v])
def dfold (l : List Val) : List Val × List Nat := l.foldl dstep ([], [])
theorem dfold_succ (l : List Val) (k : Nat) (h : k < l.length) : dfold (l.take (k + 1)) = dstep (dfold (l.take k)) l[k] := by
  unfold dfold
  rw [List.take_succ_eq_append_getElem h, List.foldl_append]
  rfl
theorem ins_length (d : List Val) (v : Val) : (ins d v).length ≤ d.length + 1 ∧ d.length ≤ (ins d v).length := by
  unfold ins; split <;> simp
theorem ins_mem (d : List Val) (v x : Val) (h : x ∈ ins d v) : x ∈ d ∨ x = v := by
  unfold ins at h
  split at h
  · exact .inl h
  · rcases List.mem_append.1 h with h | h
    · exact .inl h
    · exact .inr (by simpa using h)
theorem dfold_ok (l : List Val) : ∀ k, k ≤ l.length → (dfold (l.take k)).1.length ≤ k ∧ (dfold (l.take k)).2.length = k ∧ (∀ p ∈ (dfold (l.take k)).2, p < (dfold (l.take k)).1.length) ∧ (∀ x ∈ (dfold (l.take k)).1, x ∈ l) := by
  intro k
  induction k with
  | zero => intro _; simp [dfold]
  | succ k ih =>
    intro h
    obtain ⟨h1, h2, h3, h4⟩ := ih (by omega)
    rw [dfold_succ l k (by omega)]
    have i1 := ins_length (dfold (l.take k)).1 l[k]
    have i2 := idx_ins (dfold (l.take k)).1 l[k]
    unfold dstep
    refine ⟨by simp only; omega, by simp [h2], ?_, ?_⟩
    · intro p hp
      simp only at hp ⊢
      rcases List.mem_append.1 hp with hp | hp
      · have := h3 p hp; omega
      · simp at hp; rw [hp]; exact i2.2.1
    · intro x hx
      rcases ins_mem _ _ _ hx with h | h
      · exact h4 x h
      · rw [h]; exact List.getElem_mem _

/-- What a map knows of a dictionary. -/
structure Knows (D : DataW Unit) (d : List Val) : Prop where
  map : Maps.IsMap D
  has : ∀ x, VOk x → Maps.has D (kl x) = decide (idx d x < d.length)
  at_ : ∀ x, VOk x → idx d x < d.length → D.atKey (kl x) (.lit (.int .i64 0)) = .lit (.int .i64 (idx d x : Int))
theorem Knows.empty : Knows (.map []) [] := ⟨Maps.isMap_empty, fun x _ => by simp [Maps.has_eq], fun x _ h => by simp at h⟩
theorem Knows.put {D : DataW Unit} {d : List Val} (h : Knows D d) (v : Val) (hv : VOk v) (hn : ¬ idx d v < d.length) : Knows (D.put (kl v) (.lit (.int .i64 (d.length : Int)))) (d ++ [v]) := by
  have hvv : veq v v = true := veq_iff.2 rfl
  refine ⟨h.map.put _ _, ?_, ?_⟩
  · intro x hx
    by_cases e : x = v
    · subst e
      rw [Maps.has_put_same h.map (kl_key x)]
      have := idx_append_out d x hn x
      rw [hvv] at this
      simp at this
      simp [this]
    · rw [Maps.has_put_other (fun e2 => e (kl_inj hx hv e2)), h.has x hx]
      by_cases hi : idx d x < d.length
      · rw [idx_append_in d x [v] hi]; simp; omega
      · rw [idx_append_out d x hi v]
        have : veq v x = false := by
          rw [Bool.eq_false_iff]; intro h2; exact e (veq_iff.1 h2).symm
        rw [this]
        simp; omega
  · intro x hx hi
    by_cases e : x = v
    · subst e
      rw [Maps.atKey_put_same h.map (kl_key x)]
      have := idx_append_out d x hn x
      rw [hvv] at this
      simp at this
      rw [this]
    · rw [Maps.atKey_put_other (fun e2 => e (kl_inj hx hv e2))]
      by_cases hi2 : idx d x < d.length
      · rw [idx_append_in d x [v] hi2]; exact h.at_ x hx hi2
      · exfalso
        rw [idx_append_out d x hi2 v] at hi
        have : veq v x = false := by
          rw [Bool.eq_false_iff]; intro h2; exact e (veq_iff.1 h2).symm
        rw [this] at hi
        simp at hi
end Go.Proofs.Ytjidbonhhpkljaa.Ec
