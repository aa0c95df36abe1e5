/- Values as the statements have them, their cells, and the contracts of the small tests on kinds and encodings. -/
import Derived.Test.YtjidbonhhpkljaaPkInts
import Derived.Test.YtjidbonhhpkljaaPkUnpackR
import Derived.Laws.StructEq
set_option linter.unusedVariables false
namespace Go.Proofs.Ytjidbonhhpkljaa.Ec
open Go.RowKit Go.Proofs.Ytjidbonhhpkljaa.Pk

/-- A value: Null, or a number, or a text. -/
structure Val where
  null : Bool
  n : Int
  s : ByteArray

/-- A value in one piece. -/
def Val.agg (v : Val) : Value := .agg #[.bool v.null, .int .i64 v.n, .string v.s]

/-- The cells of values. -/
def vcells (l : List Val) : List Value := l.flatMap fun v => [.bool v.null, .int .i64 v.n, .string v.s]

/-- A slice of values, as a walk wants it. -/
structure VRow (w : World) (ao : Option Addr) (b off : Nat) (l : List Val) : Prop where
  addr : 0 < l.length → ao = some ⟨b, off, none⟩
  lt : 0 < l.length → b < w.heap.size
  c0 : ∀ j (h : j < l.length), w.cell? ⟨b, off + j * 3, none⟩ = some (.bool l[j].null)
  c1 : ∀ j (h : j < l.length), w.cell? ⟨b, off + j * 3 + 1, none⟩ = some (.int .i64 l[j].n)
  c2 : ∀ j (h : j < l.length), w.cell? ⟨b, off + j * 3 + 2, none⟩ = some (.string l[j].s)

theorem VRow.below {w w' : World} {ao : Option Addr} {b off : Nat} {l : List Val} (h : VRow w ao b off l) (hb : Below w.heap.size w w') : VRow w' ao b off l :=
  ⟨h.addr, fun h0 => Nat.lt_of_lt_of_le (h.lt h0) hb.size,
    fun j hj => (hb.cell (p := ⟨b, off + j * 3, none⟩) (h.lt (by omega))).trans (h.c0 j hj),
    fun j hj => (hb.cell (p := ⟨b, off + j * 3 + 1, none⟩) (h.lt (by omega))).trans (h.c1 j hj),
    fun j hj => (hb.cell (p := ⟨b, off + j * 3 + 2, none⟩) (h.lt (by omega))).trans (h.c2 j hj)⟩

/-- Are two values alike? -/
def veq (x y : Val) : Bool := (x.null == y.null) && (x.n == y.n) && (x.s.toList == y.s.toList)
theorem veq_iff {x y : Val} : veq x y = true ↔ x = y := by
  unfold veq
  constructor
  · intro h
    simp only [Bool.and_eq_true, beq_iff_eq] at h
    obtain ⟨⟨h1, h2⟩, h3⟩ := h
    cases x; cases y
    simp only at h1 h2 h3
    rw [h1, h2, toList_inj h3]
  · rintro rfl
    simp

theorem run_eql_val (w : World) (x y : Val) : (binOp .eql 39 (.agg #[.bool x.null, .int .i64 x.n, .string x.s]) (.agg #[.bool y.null, .int .i64 y.n, .string y.s])).run Try.prog w = .ok (.bool (veq x y)) w := by
  go_simp
  unfold veq
  by_cases h1 : x.null = y.null <;> by_cases h2 : x.n = y.n <;> by_cases h3 : x.s.toList = y.s.toList <;> simp [h1, h2, h3]
theorem run_neq_val (w : World) (x y : Val) : (binOp .neq 39 (.agg #[.bool x.null, .int .i64 x.n, .string x.s]) (.agg #[.bool y.null, .int .i64 y.n, .string y.s])).run Try.prog w = .ok (.bool (!veq x y)) w := by
  go_simp
  unfold veq
  by_cases h1 : x.null = y.null <;> by_cases h2 : x.n = y.n <;> by_cases h3 : x.s.toList = y.s.toList <;> simp [h1, h2, h3]

set_option maxRecDepth 100000 in
set_option maxHeartbeats 2000000 in
theorem sameValues_any (xs ys : List Val) (ao bo : Option Addr) (b off cap b2 off2 cap2 : Nat) (w : World) (hm : xs.length ≤ maxLen) (hm2 : ys.length ≤ maxLen)
    (h1 : VRow w ao b off xs) (h2 : VRow w bo b2 off2 ys) :
    Calls Try.prog 18 #[.slice ao xs.length cap, .slice bo ys.length cap2] w fun e w' => ∃ b, e = .returned (.bool b) ∧ (b = true ↔ xs = ys) ∧ ∃ n, w' = w.drewN n := by
  unfold maxLen at hm hm2
  by_cases hl : xs.length = ys.length
  · have hle : ((xs.length : Int) != (ys.length : Int)) = false := by simp [hl]
    have HL : Hid (xs.length = ys.length) := hl
    clear hl
    go_enter Try.func18, Try.ntmps18
    go_wp2_with fail
    clear hle
    go_loopw [5] (fun i wr => ∃ k : Nat, k ≤ xs.length ∧ i = .int .i64 k ∧ xs.take k = ys.take k ∧ ∃ n, wr = w.drewN n) (fun i _ => xs.length - (intOf i).toNat)
    case atStart => exact ⟨0, Nat.zero_le _, rfl, rfl, 0, rfl⟩
    case round =>
      obtain ⟨k, hk, rfl, htk, n, hwr⟩ := hrel
      have HT : Hid (xs.take k = ys.take k) := htk
      clear htk
      by_cases hlt : k < xs.length
      · have hlt2 : k < ys.length := by rw [← HL.out]; exact hlt
        obtain rfl := h1.addr (by omega)
        obtain rfl := h2.addr (by omega)
        have p0 : wr.cell? ⟨b, off + k * 3, none⟩ = some (.bool xs[k].null) := by rw [hwr]; exact h1.c0 k hlt
        have p1 : wr.cell? ⟨b, off + k * 3 + 1, none⟩ = some (.int .i64 xs[k].n) := by rw [hwr]; exact h1.c1 k hlt
        have p2 : wr.cell? ⟨b, off + k * 3 + 2, none⟩ = some (.string xs[k].s) := by rw [hwr]; exact h1.c2 k hlt
        have q0 : wr.cell? ⟨b2, off2 + k * 3, none⟩ = some (.bool ys[k].null) := by rw [hwr]; exact h2.c0 k hlt2
        have q1 : wr.cell? ⟨b2, off2 + k * 3 + 1, none⟩ = some (.int .i64 ys[k].n) := by rw [hwr]; exact h2.c1 k hlt2
        have q2 : wr.cell? ⟨b2, off2 + k * 3 + 2, none⟩ = some (.string ys[k].s) := by rw [hwr]; exact h2.c2 k hlt2
        have HW : Hid (wr = w.drewN n) := hwr
        have HN : Hid (xs[k] ≠ ys[k] → xs ≠ ys) := fun h e => h (by subst e; rfl)
        have HY : Hid (xs[k] = ys[k] → xs.take (k + 1) = ys.take (k + 1)) := fun h => by rw [List.take_succ_eq_append_getElem hlt, List.take_succ_eq_append_getElem hlt2, HT.out, h]
        have hq := fun w => run_neq_val w xs[k] ys[k]
        clear hwr h1 h2 HT
        generalize xs[k] = x at *
        generalize ys[k] = y at *
        by_cases hxy : x = y
        · have hb : veq x y = true := veq_iff.2 hxy
          have HY3 : Hid (xs.take (k + 1) = ys.take (k + 1)) := HY.out hxy
          rw [hb] at hq
          clear HY HN hxy hb
          go_wp2_with fail
          go_quiet (fail)
          go_wp2
          go_roundw
          case rel => exact ⟨k + 1, by omega, by go_num, HY3.out, n + nq, by rw [HW.out]; exact World.drewN_drewN _ _ _⟩
          case measure => simp [intOf]; omega
        · have hb : veq x y = false := by rw [Bool.eq_false_iff]; intro h; exact hxy (veq_iff.1 h)
          have HN2 : Hid (xs ≠ ys) := HN.out hxy
          rw [hb] at hq
          clear HY HN hxy hb
          go_wp2_with fail
          go_quiet (fail)
          go_wp2
          go_ret
          exact ⟨false, rfl, by simp; exact HN2.out, n + nq, by rw [HW.out]; exact World.drewN_drewN _ _ _⟩
      · have he : xs = ys := by
          have := HT.out
          rwa [List.take_of_length_le (by omega), List.take_of_length_le (by rw [← HL.out]; omega)] at this
        have HE : Hid (xs = ys) := he
        have HW : Hid (wr = w.drewN n) := hwr
        clear he hwr
        go_wp2
        go_ret
        exact ⟨true, rfl, by simp; exact HE.out, n, HW.out⟩
  · have hle : ((xs.length : Int) != (ys.length : Int)) = true := by simp; omega
    have HN : Hid (xs ≠ ys) := fun h => hl (by rw [h])
    go_enter Try.func18, Try.ntmps18
    go_wp2
    go_ret
    exact ⟨false, rfl, by simp; exact HN.out, 0, rfl⟩
end Go.Proofs.Ytjidbonhhpkljaa.Ec
