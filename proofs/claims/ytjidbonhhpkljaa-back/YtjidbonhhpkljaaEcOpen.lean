/- A slice of values that came in, opened. -/
import Derived.Test.YtjidbonhhpkljaaEcEncodes
import Derived.OpenShut
import Derived.Deep.Slices
import Derived.Deep.Strs
set_option linter.unusedVariables false
namespace Go.Proofs.Ytjidbonhhpkljaa.Ec
open Go.RowKit Go.Proofs.Ytjidbonhhpkljaa.Pk Go.Proofs.Ytjidbonhhpkljaa.Pm

theorem vin_of_wf {n : Int} (h : (Lit.int .i64 n).wf = true) : -9223372036854775808 ≤ n ∧ n ≤ 9223372036854775807 := by
  simp [Lit.wf, IntKind.min, IntKind.max, IntKind.signed, IntKind.bits] at h
  omega

theorem list3 {α : Type} {l : List α} (h : l.length = 3) : ∃ a b c, l = [a, b, c] := by
  match l, h with
  | [a, b, c], _ => exact ⟨a, b, c, rfl⟩

set_option maxRecDepth 100000 in
theorem open_valsS {H : Type} {enc : TypeId × Value → H} {w : World} {spare : Nat → Bool} {held : Bool} {fuel : Nat} {a : Option Addr} {len cap : Nat} {x : DataW H × List MemPlace}
    (h : DataW.trod enc Try.prog w 0 spare held fuel 30 [.slice a len cap] = some x) :
    (a = none ∧ len = 0 ∧ cap = 0) ∨ ∃ (ad : Addr) (l : List Val) (es sp : List (DataW H)), a = some ad ∧ l.length = len ∧ es.length = len ∧ x.1 = .slice es sp ∧ (∀ v ∈ l, VIn v ∧ v.s.size ≤ maxLen) ∧ VSl w (.slice (some ad) l.length cap) l := by
  rcases Deep.open_slice Try.underlying30 h with ⟨hcs, _⟩ | ⟨ad, ln, cp, m, n, D, Pl, hcs, _, hl, hm, hmm, rfl, hx⟩
  · simp at hcs
    exact .inl hcs
  · simp at hcs
    obtain ⟨rfl, rfl, rfl⟩ := hcs
    right
    have hlm : len ≤ m := by rw [hmm]; split <;> omega
    rw [cellsV] at hx
    have each : ∀ i, i < len → ∃ v : Val, w.cell? (ad.add (i * 3)) = some (.bool v.null) ∧ w.cell? (ad.add (i * 3 + 1)) = some (.int .i64 v.n) ∧ w.cell? (ad.add (i * 3 + 2)) = some (.string v.s) ∧ (VIn v ∧ v.s.size ≤ maxLen) := by
      intro i hi
      obtain ⟨cs', h1, h2⟩ := hx i (by omega)
      obtain ⟨_, hlen, hcell⟩ := World.cells?_some h1
      obtain ⟨y0, y1, y2, k, _, _, g0, g1, g2⟩ := Deep.trod_struct3 Try.underlying39 h2
      obtain ⟨v0, v1, v2, rfl⟩ := list3 hlen
      simp [cellsB1, cellsI1, cellsS1] at g0 g1 g2
      obtain ⟨b, hb, _⟩ := DataW.trod_bool Try.underlying4 g0
      obtain ⟨n1, hn, _, hwf⟩ := DataW.trod_int Try.underlying3 g1
      obtain ⟨s, hs, _, hsz⟩ := DataW.trod_string Try.underlying9 g2
      simp at hb hn hs
      subst hb hn hs
      have e0 := hcell 0 (by omega)
      have e1 := hcell 1 (by omega)
      have e2 := hcell 2 (by omega)
      rw [Deep.add_add] at e0 e1 e2
      exact ⟨⟨b, n1, s⟩, by simpa using e0, by simpa using e1, by simpa using e2, ⟨(vin_of_wf hwf).1, (vin_of_wf hwf).2⟩, hsz⟩
    obtain ⟨f, hf⟩ := @Deep.choose_lt Val ⟨zeroV⟩ _ _ each
    have hlen : ((List.range len).map f).length = len := by simp
    have hget : ∀ j, (hj : j < ((List.range len).map f).length) → ((List.range len).map f)[j] = f j := fun j hj => by simp
    refine ⟨ad, (List.range len).map f, _, _, rfl, hlen, by simp, rfl, ?_, ?_⟩
    · intro v hv
      obtain ⟨i, hi, rfl⟩ := List.mem_map.1 hv
      exact (hf i (List.mem_range.1 hi)).2.2.2
    · by_cases h0 : 0 < len
      · obtain ⟨b, off, spot⟩ := ad
        have hspot : spot = none := by simpa [Addr.add] using World.cell?_spot (hf 0 h0).1
        subst hspot
        have c0 : ∀ j, j < len → w.cell? ⟨b, off + j * 3, none⟩ = some (.bool (f j).null) := fun j hj => by have := (hf j hj).1; rwa [Addr.add_lit] at this
        refine ⟨some ⟨b, off, none⟩, b, off, cap, by rw [hlen], ⟨fun _ => rfl, fun _ => World.block_lt_of_cell? w ⟨b, off + 0 * 3, none⟩ (c0 0 h0), ?_, ?_, ?_⟩⟩
        · intro j hj
          rw [hget j hj]
          exact c0 j (by simpa using hj)
        · intro j hj
          rw [hget j hj]
          have := (hf j (by simpa using hj)).2.1
          rwa [Addr.add_lit, ← Nat.add_assoc] at this
        · intro j hj
          rw [hget j hj]
          have := (hf j (by simpa using hj)).2.2.1
          rwa [Addr.add_lit, ← Nat.add_assoc] at this
      · refine ⟨some ad, 0, 0, cap, by rw [hlen], ⟨fun h => ?_, fun h => ?_, fun j h => ?_, fun j h => ?_, fun j h => ?_⟩⟩
        all_goals (rw [hlen] at h; omega)
theorem open_vals {H : Type} {enc : TypeId × Value → H} {w : World} {spare : Nat → Bool} {held : Bool} {fuel : Nat} {a : Option Addr} {len cap : Nat} {x : DataW H × List MemPlace}
    (h : DataW.trod enc Try.prog w 0 spare held fuel 30 [.slice a len cap] = some x) :
    (a = none ∧ len = 0 ∧ cap = 0) ∨ ∃ (ad : Addr) (l : List Val) (es sp : List (DataW H)), a = some ad ∧ l.length = len ∧ es.length = len ∧ x.1 = .slice es sp ∧ (∀ v ∈ l, VIn v) ∧ VSl w (.slice (some ad) l.length cap) l := by
  rcases open_valsS h with h | ⟨ad, l, es, sp, h1, h2, h3, h4, h5, h6⟩
  · exact .inl h
  · exact .inr ⟨ad, l, es, sp, h1, h2, h3, h4, fun v hv => (h5 v hv).1, h6⟩
end Go.Proofs.Ytjidbonhhpkljaa.Ec
