/- The contracts of the code's Reader: a byte is taken, or the bytes are given up by a panic. -/
import Derived.Test.YtjidbonhhpkljaaPkUnpackR
import Derived.WalkLawsBesides
import Derived.Recover
set_option linter.unusedVariables false
namespace Go.Proofs.Ytjidbonhhpkljaa.Pk
open Go.RowKit Go.Proofs.Ytjidbonhhpkljaa.Pm

theorem extract_one (s : ByteArray) (p : Nat) (h : p < s.size) : s.extract p (p + 1) = ⟨#[s[p]]⟩ := by
  apply bytesOf_inj
  unfold bytesOf
  congr 1
  rw [ByteArray.data_extract]
  simp only [Array.toList_extract]
  have h2 : p < s.data.toList.length := h
  rw [show List.extract s.data.toList p (p + 1) = (s.data.toList.drop p).take 1 from by simp [List.extract], List.drop_eq_getElem_cons h2]
  rfl

/-- The block of a Reader. -/
def rdr (s : ByteArray) (p : Nat) : Obj := .cells #[.string s, .int .i64 (p : Int)] 181 (0, 0)

/-- The panic by which a Reader gives up. -/
def badAt (p : Nat) : List PanicEntry := [{ v := .iface 183 (.agg #[.int .i64 (p : Int)]), recovered := false }]

theorem rdr_cells {w : World} {r p : Nat} {s : ByteArray} (h : w.heap[r]? = some (rdr s p)) :
    w.cell? ⟨r, 0, none⟩ = some (.string s) ∧ w.cell? ⟨r, 1, none⟩ = some (.int .i64 (p : Int)) ∧ w.frozen? ⟨r, 0, none⟩ = false ∧ w.frozen? ⟨r, 1, none⟩ = false := by
  unfold rdr at h
  refine ⟨?_, ?_, ?_, ?_⟩
  · simp [World.cell?, h]
  · simp [World.cell?, h]
  · simp [World.frozen?, h]
  · simp [World.frozen?, h]

theorem drew_set (w : World) (a : Addr) (v : Value) (m n : Nat) : ((w.drewN m).setCell a v).drewN n = (w.setCell a v).drewN (m + n) := by
  rw [show (w.drewN m).setCell a v = (w.setCell a v).drewN m from by unfold World.setCell; rfl, World.drewN_drewN]

set_option maxRecDepth 100000 in
set_option maxHeartbeats 1000000 in
theorem giveUp_any (r p : Nat) (s : ByteArray) (w : World) (h : w.heap[r]? = some (rdr s p)) :
    Calls Try.prog 84 #[.pointer (some ⟨r, 0, none⟩)] w fun e w' => e = .panicked (badAt p) ∧ w' = w := by
  obtain ⟨c0, c1, f0, f1⟩ := rdr_cells h
  clear h
  go_enter Try.func84, Try.ntmps84
  go_wp2
  exact ⟨rfl, rfl, rfl⟩

set_option maxRecDepth 100000 in
set_option maxHeartbeats 1000000 in
theorem take_bad (r p : Nat) (s : ByteArray) (w : World) (hm : s.size ≤ maxLen) (hp : ¬ p < s.size) (hp2 : p ≤ s.size) (h : w.heap[r]? = some (rdr s p)) :
    Calls Try.prog 119 #[.pointer (some ⟨r, 0, none⟩), .int .i64 1] w fun e w' => e = .panicked (badAt p) ∧ ∃ n, w' = w.drewN n := by
  obtain ⟨c0, c1, f0, f1⟩ := rdr_cells h
  unfold maxLen at hm
  have HR : Hid (w.heap[r]? = some (rdr s p)) := h
  clear h
  have hd : decide ((s.size : Int) - (p : Int) < 1) = true := by simp; omega
  go_enter Try.func119, Try.ntmps119
  go_wp2_with fail
  go_quiet (fail)
  go_wp2_with (go_at_call 84; refine (giveUp_any r p s _ (by exact HR.out)).mono ?_; rintro e w' ⟨rfl, rfl⟩)
  exact ⟨rfl, rfl, nq, rfl⟩

set_option maxRecDepth 100000 in
set_option maxHeartbeats 1000000 in
theorem take_ok (r p : Nat) (s : ByteArray) (w : World) (hm : s.size ≤ maxLen) (hp : p < s.size) (h : w.heap[r]? = some (rdr s p)) :
    Calls Try.prog 119 #[.pointer (some ⟨r, 0, none⟩), .int .i64 1] w fun e w' => e = .returned (.string ⟨#[s[p]]⟩) ∧ ∃ n, w' = (w.setCell ⟨r, 1, none⟩ (.int .i64 ((p + 1 : Nat) : Int))).drewN n := by
  obtain ⟨c0, c1, f0, f1⟩ := rdr_cells h
  unfold maxLen at hm
  clear h
  have hd : decide ((s.size : Int) - (p : Int) < 1) = false := by simp; omega
  have q1 : (0 : Int) ≤ (p : Int) + 1 := by omega
  have q2 : (p : Int) + 1 ≤ (s.size : Int) := by omega
  have q3 : (p : Int) ≤ (p : Int) + 1 := by omega
  have q4 : ((p : Int) + 1).toNat = p + 1 := by omega
  have q5 := extract_one s p hp
  go_enter Try.func119, Try.ntmps119
  go_wp2_with fail
  go_quiet (fail)
  generalize nq = m at *
  go_wp2_with fail
  go_quiet (fail)
  go_wp2
  go_ret
  exact ⟨rfl, m + nq, drew_set _ _ _ _ _⟩

set_option maxRecDepth 100000 in
set_option maxHeartbeats 1000000 in
theorem byte_bad (r p : Nat) (s : ByteArray) (w : World) (hm : s.size ≤ maxLen) (hp : ¬ p < s.size) (hp2 : p ≤ s.size) (h : w.heap[r]? = some (rdr s p)) :
    Calls Try.prog 83 #[.pointer (some ⟨r, 0, none⟩)] w fun e w' => e = .panicked (badAt p) ∧ ∃ n, w' = w.drewN n := by
  have HR : Hid (w.heap[r]? = some (rdr s p)) := h
  clear h
  go_enter Try.func83, Try.ntmps83
  go_wp2_with (go_at_call 119; refine (take_bad r p s _ hm hp hp2 HR.out).mono ?_; rintro e w' ⟨rfl, n, rfl⟩)
  exact ⟨rfl, rfl, n, rfl⟩

set_option maxRecDepth 100000 in
set_option maxHeartbeats 1000000 in
theorem byte_ok (r p : Nat) (s : ByteArray) (w : World) (hm : s.size ≤ maxLen) (hp : p < s.size) (h : w.heap[r]? = some (rdr s p)) :
    Calls Try.prog 83 #[.pointer (some ⟨r, 0, none⟩)] w fun e w' => e = .returned (.int .u8 (s[p].toNat : Int)) ∧ ∃ n, w' = (w.setCell ⟨r, 1, none⟩ (.int .i64 ((p + 1 : Nat) : Int))).drewN n := by
  have HR : Hid (w.heap[r]? = some (rdr s p)) := h
  clear h
  go_enter Try.func83, Try.ntmps83
  go_wp2_with (go_at_call 119; refine (take_ok r p s _ hm hp HR.out).mono ?_; rintro e w' ⟨rfl, n, rfl⟩)
  go_ret
  exact ⟨rfl, n, rfl⟩

set_option maxRecDepth 100000 in
set_option maxHeartbeats 1000000 in
theorem end_bad (r p : Nat) (s : ByteArray) (w : World) (hm : s.size ≤ maxLen) (hp : p < s.size) (h : w.heap[r]? = some (rdr s p)) :
    Calls Try.prog 111 #[.pointer (some ⟨r, 0, none⟩)] w fun e w' => e = .panicked (badAt p) ∧ ∃ n, w' = w.drewN n := by
  obtain ⟨c0, c1, f0, f1⟩ := rdr_cells h
  unfold maxLen at hm
  have HR : Hid (w.heap[r]? = some (rdr s p)) := h
  clear h
  have hd : decide ((p : Int) < (s.size : Int)) = true := by simp; omega
  go_enter Try.func111, Try.ntmps111
  go_wp2_with fail
  go_quiet (fail)
  go_wp2_with (go_at_call 84; refine (giveUp_any r p s _ (by exact HR.out)).mono ?_; rintro e w' ⟨rfl, rfl⟩)
  exact ⟨rfl, rfl, nq, rfl⟩

set_option maxRecDepth 100000 in
set_option maxHeartbeats 1000000 in
theorem end_ok (r p : Nat) (s : ByteArray) (w : World) (hm : s.size ≤ maxLen) (hp : ¬ p < s.size) (h : w.heap[r]? = some (rdr s p)) :
    Calls Try.prog 111 #[.pointer (some ⟨r, 0, none⟩)] w fun e w' => e = .returned (.tuple #[]) ∧ ∃ n, w' = w.drewN n := by
  obtain ⟨c0, c1, f0, f1⟩ := rdr_cells h
  unfold maxLen at hm
  clear h
  have hd : decide ((p : Int) < (s.size : Int)) = false := by simp; omega
  go_enter Try.func111, Try.ntmps111
  go_wp2_with fail
  go_quiet (fail)
  go_wp2
  go_end0
  exact ⟨rfl, nq, rfl⟩

set_option maxRecDepth 100000 in
set_option maxHeartbeats 1000000 in
theorem newReader_any (s : ByteArray) (w : World) :
    Calls Try.prog 100 #[.string s] w fun e w' => e = .returned (.pointer (some ⟨w.heap.size, 0, none⟩)) ∧ w' = w.alloc (rdr s 0) := by
  go_enter Try.func100, Try.ntmps100
  go_wp2
  go_ret
  exact ⟨rfl, rfl⟩

theorem rdr_set {w : World} {r p q : Nat} {s : ByteArray} (h : w.heap[r]? = some (rdr s p)) (n : Nat) : ((w.setCell ⟨r, 1, none⟩ (.int .i64 (q : Int))).drewN n).heap[r]? = some (rdr s q) := by
  show (w.setCell ⟨r, 1, none⟩ (.int .i64 (q : Int))).heap[r]? = _
  unfold rdr at *
  rw [heap_setCell_same w r 1 _ _ _ h]
  rfl

/-- But for the Reader's block all that was there has stayed. -/
def Kp (r : Nat) (w w' : World) : Prop := w.grownBy w' (some r)
theorem Kp.refl (r : Nat) (w : World) : Kp r w w := World.grownBy.refl w _
theorem Kp.size {r : Nat} {w w' : World} (h : Kp r w w') : w.heap.size ≤ w'.heap.size := World.grownBy.size h
theorem Kp.trans {r : Nat} {w w1 w2 : World} (h : Kp r w w1) (k : Kp r w1 w2) : Kp r w w2 :=
  ⟨k.os.trans h.os, k.tape.trans h.tape, k.output.trans h.output, Nat.le_trans (World.grownBy.size h) (World.grownBy.size k), fun i hi hne => (World.grownBy.block k i (Nat.lt_of_lt_of_le hi (World.grownBy.size h)) hne).trans (World.grownBy.block h i hi hne)⟩
theorem Kp.drewN {r : Nat} {w w1 : World} (h : Kp r w w1) (n : Nat) : Kp r w (w1.drewN n) := Kp.trans h ⟨rfl, rfl, rfl, Nat.le_refl _, fun _ _ _ => rfl⟩
theorem Kp.alloc {r : Nat} {w w1 : World} (h : Kp r w w1) (o : Obj) : Kp r w (w1.alloc o) := Kp.trans h (World.grownBy_alloc w1 o _)
theorem Kp.grown {r : Nat} {w w1 w2 : World} {row : Option Nat} (h : Kp r w w1) (k : w1.grownBy w2 row) (hr : ∀ g, row = some g → w.heap.size ≤ g) : Kp r w w2 :=
  ⟨k.os.trans h.os, k.tape.trans h.tape, k.output.trans h.output, Nat.le_trans (World.grownBy.size h) k.size, fun i hi hne => (k.block i (Nat.lt_of_lt_of_le hi (World.grownBy.size h)) (fun e => by have := hr i e.symm; omega)).trans (World.grownBy.block h i hi hne)⟩
theorem Kp.set {r : Nat} {w w1 : World} (h : Kp r w w1) (o : Nat) (v : Value) (n : Nat) : Kp r w ((w1.setCell ⟨r, o, none⟩ v).drewN n) :=
  Kp.trans h ⟨rfl, rfl, rfl, by simp, fun i hi hne => by
    show (w1.setCell ⟨r, o, none⟩ v).heap[i]? = _
    exact heap_setCell_other _ _ _ _ (fun e => hne (by cases e; rfl))⟩
theorem Kp.below {r : Nat} {w w1 : World} (h : Kp r w w1) (hr : r ≤ w.heap.size) : Below r w w1 := ⟨h.os, h.tape, h.output, World.grownBy.size h, fun i hi => World.grownBy.block h i (by omega) (fun e => by cases e; omega)⟩
theorem Kp.of_below {r : Nat} {w w1 : World} (h : Below w.heap.size w w1) : Kp r w w1 := ⟨h.os, h.tape, h.output, h.size, fun i hi _ => h.block i hi⟩
theorem Kp.own {r : Nat} {w w1 : World} {base e size n : Nat} {v : Value} {xs : List Value} (k : Kp r w w1) (h : w.ownsRow base e size v n xs) (hr : r < base) : w1.ownsRow base e size v n xs :=
  h.kept k (by
    cases hv : v.ownBlock with
    | none => exact .inl rfl
    | some g => exact .inr (fun e => by cases e; have := (h.lt r hv).1; omega))
theorem Kp.block {r : Nat} {w w1 : World} (k : Kp r w w1) {i : Nat} {o : Obj} (h : w.heap[i]? = some o) (hne : i ≠ r) : w1.heap[i]? = some o := by
  rw [World.grownBy.block k i (lt_of_block h) (fun e => hne (by cases e; rfl))]; exact h
end Go.Proofs.Ytjidbonhhpkljaa.Pk
