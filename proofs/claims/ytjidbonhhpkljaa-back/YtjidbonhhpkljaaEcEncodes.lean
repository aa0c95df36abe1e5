/- The walk of the statement Encodes: it answers true at every list, kind and encoding. -/
import Derived.Test.YtjidbonhhpkljaaEcLent
import Derived.WalkSpells
set_option linter.unusedVariables false
namespace Go.Proofs.Ytjidbonhhpkljaa.Ec
open Go.RowKit Go.Proofs.Ytjidbonhhpkljaa.Pk Go.Proofs.Ytjidbonhhpkljaa.Pm

theorem lentV_same (l : List Val) {w : World} {base base2 g g2 : Nat} (hreach : l.length * 32 ≤ 140737488351232)
    (h1 : w.ownsRow base 39 3 (.slice (some ⟨g, 0, none⟩) (l.length + 8) (l.length + 8)) (l.length + 8) (vcells (lentV l 8)))
    (h2 : w.ownsRow base2 39 3 (.slice (some ⟨g2, 0, none⟩) (l.length + 8) (l.length + 8)) (l.length + 8) (vcells (lentV l 8))) :
    Calls Try.prog 18 #[.slice (some ⟨g, 0, none⟩) (l.length + 8) (l.length + 8), .slice (some ⟨g2, 0, none⟩) (l.length + 8) (l.length + 8)] w fun e w' => e = .returned (.bool true) ∧ ∃ n, w' = w.drewN n := by
  have hl : (lentV l 8).length = l.length + 8 := lentV_length l 8 (by omega)
  have key : ∀ b g, w.ownsRow b 39 3 (.slice (some ⟨g, 0, none⟩) (l.length + 8) (l.length + 8)) (l.length + 8) (vcells (lentV l 8)) → VRow w (some ⟨g, 0, none⟩) g 0 (lentV l 8) := by
    intro b g h
    obtain ⟨ao, b2, off2, cap2, he, hr⟩ := VSl.of_owns (l := lentV l 8) (by rw [hl]; exact h)
    simp only [Value.slice.injEq] at he
    obtain ⟨rfl, -, -⟩ := he
    have ha := hr.addr (by omega)
    simp only [Option.some.injEq, Addr.mk.injEq, and_true] at ha
    obtain ⟨rfl, rfl⟩ := ha
    exact hr
  have H := sameValues_any (lentV l 8) (lentV l 8) (some ⟨g, 0, none⟩) (some ⟨g2, 0, none⟩) g 0 (l.length + 8) g2 0 (l.length + 8) w (by rw [hl]; unfold maxLen; omega) (by rw [hl]; unfold maxLen; omega) (key base g h1) (key base2 g2 h2)
  rw [hl] at H
  refine H.mono ?_
  rintro e w' ⟨b, rfl, hb, hn⟩
  rw [hb.2 rfl]
  exact ⟨rfl, hn⟩

/-- The first of a lent list are the list. -/
theorem lentV_front {w : World} {base g : Nat} (l : List Val) (h : w.ownsRow base 39 3 (.slice (some ⟨g, 0, none⟩) (l.length + 8) (l.length + 8)) (l.length + 8) (vcells (lentV l 8))) (cap : Nat) : VSl w (.slice (some ⟨g, 0, none⟩) l.length cap) l := by
  have hl : (lentV l 8).length = l.length + 8 := lentV_length l 8 (by omega)
  have hc := h.cells (g := g) rfl
  have hget : ∀ j, (hj : j < l.length) → (lentV l 8)[j]'(by omega) = l[j] := fun j hj => by unfold lentV; exact List.getElem_append_left hj
  refine ⟨some ⟨g, 0, none⟩, g, 0, cap, rfl, ⟨fun _ => rfl, fun _ => (h.lt g rfl).2, ?_, ?_, ?_⟩⟩
  · intro j hj
    have := hc _ _ (vcells_at (lentV l 8) j (by omega)).1
    rw [hget j hj] at this
    simpa [Addr.add_lit] using this
  · intro j hj
    have := hc _ _ (vcells_at (lentV l 8) j (by omega)).2.1
    rw [hget j hj] at this
    simpa [Addr.add_lit] using this
  · intro j hj
    have := hc _ _ (vcells_at (lentV l 8) j (by omega)).2.2
    rw [hget j hj] at this
    simpa [Addr.add_lit] using this

set_option maxRecDepth 100000 in
set_option maxHeartbeats 4000000 in
theorem encodes_some (l : List Val) (k e : Int) (x : Addr) (cap : Nat) (w : World) (hreach : l.length * 32 ≤ 140737488351232) (hin : ∀ x ∈ l, VIn x) (hvs : VSl w (.slice (some x) l.length cap) l) :
    Calls Try.prog 4 #[.slice (some x) l.length cap, .int .i64 k, .int .i64 e] w fun r w' => r = .returned (.bool true) ∧ Below w.heap.size w w' := by
  have hml : l.length ≤ maxLen := by unfold maxLen; omega
  have heq : ∀ w, (binOp .eql 30 (.slice (some x) l.length cap) (.slice none 0 0)).run Try.prog w = .ok (.bool false) w := fun w => by
    rw [Lib.run_eql_slice_nil w 30 39 _ _ _ _ _ Try.underlying30]; rfl
  have HVS : Hid (VSl w (.slice (some x) l.length cap) l) := hvs
  have HIN : Hid (∀ x ∈ l, VIn x) := hin
  clear hvs hin
  go_enter Try.func4, Try.ntmps4
  go_wp2_with fail
  refine (rEncode_any _ l k e w hml HIN.out HVS.out).mono ?_
  rintro r w1 ⟨rfl, b1⟩
  go_wp2_with fail
  refine (lentValues_any _ l _ hreach (HVS.out.below b1)).mono ?_
  rintro r w2 ⟨g, rfl, o2, b2⟩
  go_wp2_with fail
  have bb2 : Below w.heap.size w w2 := b1.trans (b2.mono b1.size)
  refine (cEncode_any _ l k e w2 hml HIN.out (lentV_front l o2 _)).mono ?_
  rintro r w3 ⟨rfl, b3⟩
  have bb3 : Below w.heap.size w w3 := bb2.trans (b3.mono bb2.size)
  go_wp2_with fail
  refine (lentValues_any _ l _ hreach (HVS.out.below bb3)).mono ?_
  rintro r w4 ⟨g4, rfl, o4, b4⟩
  have bb4 : Below w.heap.size w w4 := bb3.trans (b4.mono bb3.size)
  go_wp2_with fail
  have o2' := ownsRow_below (ownsRow_below o2 b3) b4
  have HSM : Hid (Calls Try.prog 18 #[.slice (some ⟨g, 0, none⟩) (l.length + 8) (l.length + 8), .slice (some ⟨g4, 0, none⟩) (l.length + 8) (l.length + 8)] w4 fun e w' => e = .returned (.bool true) ∧ ∃ n, w' = w4.drewN n) := lentV_same l hreach o2' o4
  refine HSM.out.mono ?_
  rintro r w5 ⟨rfl, n5, rfl⟩
  have bb5 := below_drewN bb4 n5
  clear HSM o2' o2 o4 bb2 bb3 bb4 b1 b2 b3 b4 heq HVS HIN
  generalize w4.drewN n5 = w6 at *
  generalize (encOf l k e).1 = t at *
  generalize (encOf l k e).2 = f at *
  have hts : (t.toList == t.toList) = true := by simp
  go_wp2
  go_ret
  exact ⟨rfl, bb5⟩

set_option maxRecDepth 100000 in
set_option maxHeartbeats 4000000 in
theorem encodes_none (k e : Int) (w : World) :
    Calls Try.prog 4 #[.slice none 0 0, .int .i64 k, .int .i64 e] w fun r w' => r = .returned (.bool true) ∧ Below w.heap.size w w' := by
  have heq : ∀ w, (binOp .eql 30 (.slice none 0 0) (.slice none 0 0)).run Try.prog w = .ok (.bool true) w := fun w => by
    rw [Lib.run_eql_slice_nil w 30 39 _ _ _ _ _ Try.underlying30]; rfl
  have hv : ∀ W, VSl W (.slice none 0 0) [] := fun W => VSl.of_owns (base := 0) (World.ownsRow_nil _ _ _ _)
  have HP : Hid (∀ w, Calls Try.prog 15 #[.slice none 0 0, .int .i64 k, .int .i64 e] w fun r w' => r = .returned (.tuple #[.string (encOf [] k e).1, .int .i64 (encOf [] k e).2]) ∧ Below w.heap.size w w') := fun w =>
    rEncode_any _ [] k e w (by simp) (by simp) (hv w)
  have HC : Hid (∀ w, Calls Try.prog 17 #[.slice none 0 0, .int .i64 k, .int .i64 e] w fun r w' => r = .returned (.tuple #[.string (encOf [] k e).1, .int .i64 (encOf [] k e).2]) ∧ Below w.heap.size w w') := fun w =>
    cEncode_any _ [] k e w (by simp) (by simp) (hv w)
  have HL : Hid (∀ w, Calls Try.prog 16 #[.slice none 0 0] w fun e w' => ∃ g, e = .returned (.slice (some ⟨g, 0, none⟩) 8 8) ∧ w'.ownsRow w.heap.size 39 3 (.slice (some ⟨g, 0, none⟩) 8 8) 8 (vcells (lentV [] 8)) ∧ Below w.heap.size w w') := fun w =>
    lentValues_any _ [] w (by simp) (hv w)
  clear hv
  go_enter Try.func4, Try.ntmps4
  go_wp2_with fail
  refine (HP.out _).mono ?_
  rintro r w1 ⟨rfl, b1⟩
  go_wp2_with fail
  refine (HL.out _).mono ?_
  rintro r w2 ⟨g, rfl, o2, b2⟩
  go_wp2_with fail
  have bb2 : Below w.heap.size w w2 := b1.trans (b2.mono b1.size)
  refine (HC.out _).mono ?_
  rintro r w3 ⟨rfl, b3⟩
  have bb3 : Below w.heap.size w w3 := bb2.trans (b3.mono bb2.size)
  go_wp2_with fail
  refine (HL.out _).mono ?_
  rintro r w4 ⟨g4, rfl, o4, b4⟩
  have bb4 : Below w.heap.size w w4 := bb3.trans (b4.mono bb3.size)
  go_wp2_with fail
  have o2' := ownsRow_below (ownsRow_below o2 b3) b4
  have HSM : Hid (Calls Try.prog 18 #[.slice (some ⟨g, 0, none⟩) 8 8, .slice (some ⟨g4, 0, none⟩) 8 8] w4 fun e w' => e = .returned (.bool true) ∧ ∃ n, w' = w4.drewN n) := lentV_same [] (by simp) o2' o4
  refine HSM.out.mono ?_
  rintro r w5 ⟨rfl, n5, rfl⟩
  have bb5 := below_drewN bb4 n5
  clear HSM o2' o2 o4 bb2 bb3 bb4 b1 b2 b3 b4 heq HP HC HL
  generalize w4.drewN n5 = w6 at *
  generalize (encOf [] k e).1 = t at *
  generalize (encOf [] k e).2 = f at *
  have hts : (t.toList == t.toList) = true := by simp
  go_wp2
  go_ret
  exact ⟨rfl, bb5⟩
end Go.Proofs.Ytjidbonhhpkljaa.Ec
