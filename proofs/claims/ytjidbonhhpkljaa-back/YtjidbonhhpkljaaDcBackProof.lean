/- Proved: at every list of values and kind the statement Back answers true and leaves its arguments as they were; no condition beside the form's own reach. -/
import Derived.Test.YtjidbonhhpkljaaRows
import Derived.WalkKit
import Derived.ProofKit
import Derived.OpenShut
import Derived.ShutString
import Derived.ChangeOld
import Derived.Below
import Derived.SizedLaws
import Derived.Test.YtjidbonhhpkljaaEcOpen
import Derived.Test.YtjidbonhhpkljaaDcBackW
namespace Go.Proofs.Ytjidbonhhpkljaa.back
open Go.ChangeShapes Go.WideShapes Go.ChangeAt Go.RowKit
open Go.ChangeMaps (open_string shut_string)
set_option linter.unusedVariables false

theorem own : ownKnob Try.prog.godebug = none := by kernel_rfl
theorem bytesV : Try.prog.bytesOf 39 = 32 := by kernel_rfl
theorem laidOut : laidOutB Try.prog = true := by kernel_rfl

/-- What the walk is told of the slice that came in. -/
def IsVals (w : World) (a : Option Addr) (len cap : Nat) : Prop :=
  (a = none ∧ len = 0 ∧ cap = 0) ∨ ∃ (x : Addr) (l : List Ec.Val), a = some x ∧ l.length = len ∧ (∀ v ∈ l, Ec.VIn v ∧ v.s.size ≤ maxLen) ∧ Ec.VSl w (.slice (some x) l.length cap) l ∧ len * 32 ≤ 140737488351232

theorem nil_vsl (w : World) : Ec.VSl w (.slice none 0 0) [] :=
  ⟨none, 0, 0, 0, rfl, fun h => by simp at h, fun h => by simp at h, fun j h => by simp at h, fun j h => by simp at h, fun j h => by simp at h⟩

theorem walk (a0 : Option Addr) (len0 cap0 : Nat) (a1 : Int) (w : World) (w0 : IsVals w a0 len0 cap0) (h0 : -9223372036854775808 ≤ a1) (h1 : a1 ≤ 9223372036854775807) :
    Calls Try.prog 6 #[.slice a0 len0 cap0, .int .i64 a1] w fun e w' => e = .returned (.bool true) ∧ Below w.heap.size w w' := by
  rcases w0 with ⟨rfl, rfl, rfl⟩ | ⟨x, l, rfl, rfl, hin, hvs, hr⟩
  · exact Ec.back_any [] _ a1 w (by unfold maxLen; decide) (fun x hx => by simp at hx) h0 h1 (nil_vsl w)
  · exact Ec.back_any l _ a1 w (by unfold maxLen; omega) hin h0 h1 hvs

set_option maxRecDepth 100000 in
theorem lifted (os : Os) (started : os.Started) (H : Type) (enc : TypeId × Value → H) :
    ReturnsInHanded {} Try.checked os 6 .any (Rows.backSpec.pre6 enc Try.prog Try.f6 Rows.backRow.domain false) (Rows.backSpec.post enc Try.prog Try.f6 false true false false) := by
  refine returnsInHanded_of_change_sized (C := Try.checked) own started (by kernel_rfl) Try.func6
    (ChangeSpec.witness6 (enc := enc) (C := Try.checked) false ⟨#[], #[.slice none 0 0, .int .i64 0], []⟩ 8 (by kernel_rfl) (by kernel_rfl) (by kernel_rfl) (by kernel_rfl)) ?_
  intro W base args ds gs before hval0 hW hcnd hsz0 _
  have hsz : (DataW.weightsEach Try.prog (Try.f6.params.toList ++ Rows.backSpec.plain.varTypes Try.prog) (ds ++ gs)).all (· ≤ reachBytes) = true := hsz0
  have hval : ∀ (j : Nat) t v, Try.f6.params[j]? = some t → args[j]? = some v → Value.okWide Try.prog W .any base t v := hval0
  have hW' := hW
  obtain ⟨p, q, hA0, hV, rfl, hfz, hnd⟩ := hW
  have hA : DataW.TrodAll enc Try.prog W 0 (fun _ => true) true Try.f6.params.toList args.toList ds p := hA0
  rw [Try.params6] at hA hval hsz
  obtain ⟨v0, vs0, d0, ds0, p0, q0, hargs, rfl, rfl, h0, r0⟩ := trodAll_cons hA
  obtain ⟨v1, vs1, d1, ds1, p1, q1, rfl, rfl, rfl, h1, r1⟩ := trodAll_cons r0
  obtain ⟨rfl, rfl, rfl⟩ := trodAll_nil r1
  obtain rfl : args = #[v0, v1] := by cases args; simp_all
  obtain ⟨rfl, rfl⟩ := trodVars_none hV
  obtain ⟨a0, len0, cap0, rfl⟩ := okWide_slice Try.underlying30 (hval 0 30 v0 rfl rfl)
  have k0 := h0
  have lt0 : ∀ x ∈ p0, x.block < W.heap.size := by obtain ⟨m, hm⟩ := k0; exact DataW.trod_lt m _ _ _ hm
  have w0 : IsVals W a0 len0 cap0 := by
    obtain ⟨fuel, hf⟩ := h0
    rcases Ec.open_valsS hf with h | ⟨ad, l, es, sp, rfl, hl, hes, hd, hin, hvs⟩
    · exact .inl h
    · simp only at hd
      subst hd
      have hs := sized_slice hsz (j := 0) (t := 30) (e := 39) rfl rfl Try.underlying30
      rw [bytesV] at hs
      simp only [reachBytes] at hs
      exact .inr ⟨ad, l, rfl, hl, hin, hvs, by omega⟩
  obtain ⟨a1, rfl, rfl, rfl, w1⟩ := open_int Try.underlying3 (hval 1 3 v1 rfl rfl) h1
  clear hA0 hval0
  refine (walk a0 len0 cap0 a1 W w0 (Ec.vin_of_wf w1).1 (Ec.vin_of_wf w1).2).mono fun e W' ⟨he, bel⟩ => ?_
  subst he
  exact ⟨_, rfl, _, _, _, [], _, [], hW', trodAll_mk1 (shut_bool Try.underlying4 _), (trodAll_cons_mk (Below.trod laidOut (by kernel_rfl) (of_decide_eq_true (by kernel_rfl)) k0 bel lt0) (trodAll_cons_mk (shut_int Try.underlying3 w1) trodAll_mk0)), rfl, bel.frame _, fun h => by cases h⟩

theorem over : Rows.backRow.holds Try.pinned (OpenSpec.ofChange Rows.backSpec) :=
  OpenClaim.holds_of_wide 6 Try.f6 rfl rfl rfl rfl rfl rfl rfl ⟨rfl, rfl, rfl, rfl, rfl⟩ rfl rfl rfl rfl rfl (by kernel_rfl) Try.func6 (by kernel_rfl)
    (of_decide_eq_true (by kernel_rfl)) (by unfold Func.isWrapper; first | (rw [if_pos (by decide +kernel)]; kernel_rfl) | (rw [if_neg (by decide +kernel)]; exact ⟨rfl, rfl⟩))
    (fun os started H enc _ => lifted os started H enc)

end Go.Proofs.Ytjidbonhhpkljaa.back

namespace Go.Proofs.Ytjidbonhhpkljaa
theorem back_holds : Rows.BackSaid := back.over
end Go.Proofs.Ytjidbonhhpkljaa
