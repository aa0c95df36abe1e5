/- The contract of the code's Unpack: the document's answer, in new memory. -/
import Derived.Test.YtpalaloknoiddaaPkRead
set_option linter.unusedVariables false
namespace Go.Proofs.Ytpalaloknoiddaa.Pk
open Go.RowKit Go.Proofs.Ytpalaloknoiddaa.Pm

theorem heldOf_ok (s : ByteArray) (wd cn : Nat) : (readOk s 0 wd cn ∧ 0 + (cn * wd + 7) / 8 = s.size) ↔ unpackOk s wd cn = true := by
  have hv : restV s 0 = V (bytesOf s) := by simp [restV]
  rw [unpackOk_iff, readOk, hv]
  have hl := V_lt (bytesOf s) (bytesOf_lt s)
  rw [bytesOf_length, pow256] at hl
  constructor
  · rintro ⟨⟨h1, h2⟩, h3⟩
    rw [Nat.zero_add] at h3
    refine ⟨h3.symm, ?_⟩
    unfold heldOf at h2
    rw [h3, Nat.mod_eq_of_lt hl] at h2
    rcases Nat.div_eq_zero_iff.1 h2 with h4 | h4
    · have := Nat.pow_pos (n := wd * cn) (show 0 < 2 by omega); omega
    · exact h4
  · rintro ⟨h1, h2⟩
    refine ⟨⟨by omega, ?_⟩, by omega⟩
    unfold heldOf
    rw [← h1, Nat.mod_eq_of_lt hl]
    exact Nat.div_eq_of_lt h2

/-- The deferred function of readWhole: where the frame panics. -/
theorem catch_panicking (pl pe : Addr) (vl ve : Value) (u : TypeId) (pv : Value) (older : List PanicEntry) (w : World) (hl : w.cell? pl = some vl) (hlf : w.frozen? pl = false)
    (he : (w.setCell pl (.slice none 0 0)).cell? pe = some ve) (hef : (w.setCell pl (.slice none 0 0)).frozen? pe = false) :
    CallsD Try.prog 62 #[.pointer (some pl), .pointer (some pe)] (.panicking ({ v := .iface u pv, recovered := false } :: older)) w fun e u' w' =>
      e = .returned (.tuple #[]) ∧ u' = .panicking ({ v := .iface u pv, recovered := true } :: older) ∧ w' = (w.setCell pl (.slice none 0 0)).setCell pe (.int .i64 3) := by
  refine callsD_of_wpS Try.func62 rfl fun c₀ cs hu => ?_
  apply wpS_seq
  apply wpS_region
  simp [wpOpsS, go_sem, recoverD, hu, Try.ntmps62, Exit.thenS]
  refine wpS_cond (t := true) (by simp [Act.eval, Array.replicate]) ?_
  simp only [if_true]
  apply wpS_region
  simp [wpOpsS, go_sem, hl, hlf, he, hef, bodyPostS, results, Try.results62]

theorem catch_idle (pl pe : Addr) (w : World) :
    CallsD Try.prog 62 #[.pointer (some pl), .pointer (some pe)] .returning w fun e u' w' => e = .returned (.tuple #[]) ∧ u' = .returning ∧ w' = w := by
  refine callsD_of_wpS Try.func62 rfl fun c₀ cs hu => ?_
  apply wpS_seq
  apply wpS_region
  simp [wpOpsS, go_sem, recoverD, hu, Try.ntmps62, Exit.thenS]
  refine wpS_cond (t := false) (by simp [Act.eval, Array.replicate]) ?_
  simp only [Bool.false_eq_true, if_false]
  refine wpS_of_wp (wp_skip ?_)
  cases c₀
  simp_all [bodyPostS, results, Try.results62]
end Go.Proofs.Ytpalaloknoiddaa.Pk
