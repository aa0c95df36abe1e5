/- The contract of the statement's own unpacks: Unpack on both sides, and what came out is the caller's: true. -/
import Derived.Test.YtjidbonhhpkljaaPkLooks
set_option linter.unusedVariables false
namespace Go.Proofs.Ytjidbonhhpkljaa.Pk
open Go.RowKit Go.Proofs.Ytjidbonhhpkljaa.Pm

theorem owns_keep {v u : Value} {w w' : World} {base n : Nat} {xs : List Value} (h : w.ownsRow base 3 1 u n xs) (hk : KeepInts v w w') (hne : ∀ g, u.ownBlock = some g → v.ownBlock ≠ some g) : w'.ownsRow base 3 1 u n xs := by
  refine ⟨h.1, ?_⟩
  rcases h.2 with h1 | ⟨g, cap, cur, h1, h2, h3, h4⟩
  · exact .inl h1
  · exact .inr ⟨g, cap, cur, h1, h2, hk g cur h3 (hne g (by rw [h1]; rfl)), h4⟩

set_option maxRecDepth 100000 in
set_option maxHeartbeats 4000000 in
theorem unpacks_any (s : ByteArray) (wd cn : Int) (w : World) (hm : s.size ≤ maxLen) :
    Calls Try.prog 14 #[.string s, .int .i64 wd, .int .i64 cn] w fun e w' => e = .returned (.bool true) ∧ Below w.heap.size w w' := by
  have H1 := rUnpack_any s wd cn w hm
  have H2 : ∀ w, _ := fun w => cUnpack_any s wd cn w hm
  have hlen := unpackOf_length s wd cn
  generalize (unpackOf s wd cn).1 = l at *
  generalize (unpackOf s wd cn).2 = f at *
  have HH1 : Hid (Calls Try.prog 38 #[.string s, .int .i64 wd, .int .i64 cn] w fun e w' => ∃ v, e = .returned (.tuple #[v, .int .i64 f]) ∧ w'.ownsRow w.heap.size 3 1 v l.length (icells l) ∧ Below w.heap.size w w') := H1
  have HH2 : Hid (∀ w, Calls Try.prog 24 #[.string s, .int .i64 wd, .int .i64 cn] w fun e w' => ∃ v, e = .returned (.tuple #[v, .int .i64 f]) ∧ w'.ownsRow w.heap.size 3 1 v l.length (icells l) ∧ (f ≠ 0 → v = .slice none 0 0) ∧ Below w.heap.size w w') := H2
  clear H1 H2
  go_enter Try.func14, Try.ntmps14
  go_wp2_with fail
  refine HH1.out.mono ?_
  rintro e w1 ⟨v0, rfl, o0, b1⟩
  go_wp2_with fail
  refine (HH2.out _).mono ?_
  rintro e w2 ⟨v1, rfl, o1, n1, b2⟩
  have N1 : Hid (f ≠ 0 → v1 = .slice none 0 0) := n1
  clear n1
  go_wp2_with fail
  refine (HH2.out _).mono ?_
  rintro e w3 ⟨v2, rfl, o2, n2, b3⟩
  clear n2 HH1 HH2
  have p0 := ownsRow_below (ownsRow_below o0 b2) b3
  have p1 := ownsRow_below o1 b3
  have s1 := b1.size
  have s2 := b2.size
  have s3 := b3.size
  have bb : Below w.heap.size w w3 := (b1.trans (b2.mono s1)).trans (b3.mono (by omega))
  obtain ⟨a0, g0, k0, rfl, hs0, _, hc0⟩ := owned_ints p0
  obtain ⟨a1, g1, k1, rfl, hs1, _, hc1⟩ := owned_ints p1
  obtain ⟨a2, g2, k2, rfl, hs2, _, hc2⟩ := owned_ints o2
  have ml : l.length ≤ maxLen := by unfold maxLen; omega
  have HS1 : Hid (∀ w, (∃ n, w = w3.drewN n) → Calls Try.prog 13 #[.slice a1 l.length k1, .slice a0 l.length k0] w fun e w' => e = .returned (.bool true) ∧ ∃ n, w' = w.drewN n) := by
    rintro w ⟨n, rfl⟩
    have := sameInts_any l l a1 a0 g1 0 k1 g0 0 k0 (w3.drewN n) ml ml hs1 hc1 hs0 hc0
    simpa using this
  have HS2 : Hid (∀ w, (∃ n, w = w3.drewN n) → Calls Try.prog 13 #[.slice a2 l.length k2, .slice a0 l.length k0] w fun e w' => e = .returned (.bool true) ∧ ∃ n, w' = w.drewN n) := by
    rintro w ⟨n, rfl⟩
    have := sameInts_any l l a2 a0 g2 0 k2 g0 0 k0 (w3.drewN n) ml ml hs2 hc2 hs0 hc0
    simpa using this
  clear hs0 hc0 hs1 hc1 hs2 hc2 o0
  go_wp2_with fail
  refine (HS1.out _ ⟨0, rfl⟩).mono ?_
  rintro e w4 ⟨rfl, n4, rfl⟩
  go_wp2_with fail
  refine (HS2.out _ ⟨n4, rfl⟩).mono ?_
  rintro e w5 ⟨rfl, n5, rfl⟩
  clear HS1 HS2
  have q1 := ownsRow_drewN (ownsRow_drewN (ownsRow_base (B := w.heap.size) p1 s1) n4) n5
  have q2 := ownsRow_drewN (ownsRow_drewN (ownsRow_base (B := w.heap.size) o2 (by omega)) n4) n5
  have q3 := below_drewN (below_drewN bb n4) n5
  have L1 : Hid (∀ g, (Value.slice a1 l.length k1).ownBlock = some g → g < w2.heap.size) := fun g hg => (o1.lt g hg).2
  have L2 : Hid (∀ g, (Value.slice a2 l.length k2).ownBlock = some g → w2.heap.size ≤ g ∧ g < w3.heap.size) := fun g hg => o2.lt g hg
  have L3 : Hid (((w3.drewN n4).drewN n5).heap.size = w3.heap.size) := rfl
  generalize (w3.drewN n4).drewN n5 = W at *
  have hA : Hid (BkInv (W.alloc (.cells #[.slice none 0 0, .slice none 0 0, .slice none 0 0, .slice none 0 0] 70)) w.heap.size W.heap.size (.slice none 0 0) []) :=
    ⟨heap_alloc_new W _, World.ownsRow_nil _ _ _ _, by simp⟩
  have r1 := q1.alloc (.cells #[.slice none 0 0, .slice none 0 0, .slice none 0 0, .slice none 0 0] 70)
  have r2 := q2.alloc (.cells #[.slice none 0 0, .slice none 0 0, .slice none 0 0, .slice none 0 0] 70)
  have r3 : Below w.heap.size w (W.alloc (.cells #[.slice none 0 0, .slice none 0 0, .slice none 0 0, .slice none 0 0] 70)) := q3.alloc q3.size _
  have r4 : Hid ((W.alloc (.cells #[.slice none 0 0, .slice none 0 0, .slice none 0 0, .slice none 0 0] 70)).heap.size = w3.heap.size + 1) := by show _ = _; rw [← L3.out]; simp
  have hWB : w.heap.size ≤ W.heap.size := q3.size
  clear q1 q2 q3 p0 p1 o1 o2 bb b1 b2 b3
  by_cases hf : f = 0
  · subst hf
    clear N1
    go_wp2_with fail
    generalize W.alloc (.cells #[.slice none 0 0, .slice none 0 0, .slice none 0 0, .slice none 0 0] 70) = WA at *
    refine (ownInts_any _ w.heap.size _ _ l [] _ hlen (by simp) hA.out r1 hWB (by simp)).mono ?_
    rintro e w6 ⟨rfl, iv6, es6, hl6, hI6, hm6, hblk6, hk6, hb6⟩
    have o6 := owns_keep r2 hk6 (fun g h2 h1 => by have := L1.out g h1; have := L2.out g h2; omega)
    have hs6 : Hid (∀ e ∈ es6, ∀ g' n' cap', e.1 = .slice (some ⟨g', 0, none⟩) n' cap' → 0 < n' → (Value.slice a2 l.length k2).ownBlock ≠ some g') := by
      intro e he g' n' cap' h1 h0 h2
      have h3 := L2.out g' h2
      have h5 := r4.out
      rcases hblk6 e he g' (by rw [h1]; rfl) with h4 | h4
      · have := L1.out g' h4
        omega
      · omega
    have HL6 : Hid (es6.length = 4) := hl6
    have HI6 : Hid (BkInv w6 w.heap.size W.heap.size iv6 es6) := show BkInv _ _ _ _ _ from hI6
    have HM6 : Hid (∀ e ∈ es6, 0 ≤ e.2 ∧ e.2 ≤ 100) := fun e he => by have := hm6 e he; simp at this; omega
    clear hA r1 r2 hI6 hm6 hblk6 hk6 L1 L2 L3 r4 hl6
    go_wp2_with fail
    refine (ownInts_any _ w.heap.size _ _ l es6 _ hlen (by have := HL6.out; omega) HI6.out o6 hWB hs6.out).mono ?_
    rintro e w7 ⟨rfl, iv7, es7, hl7, hI7, hm7, hblk7, hk7, hb7⟩
    have HL7 : Hid ((es6 ++ es7).length = 8) := by show _ = _; rw [List.length_append, HL6.out, hl7]
    have HI7 : Hid (BkInv w7 w.heap.size W.heap.size iv7 (es6 ++ es7)) := hI7
    have HM7 : Hid (∀ e ∈ es6 ++ es7, 0 ≤ e.2 ∧ e.2 ≤ 100) := by
      intro e he
      rcases List.mem_append.1 he with h1 | h1
      · exact HM6.out e h1
      · have := hm7 e h1
        have := HL6.out
        omega
    clear hI7 hm7 hblk7 hk7 hl7 o6 HI6
    go_wp2_with fail
    refine (looks_any _ w.heap.size _ (es6 ++ es7) _ (by rw [HL7.out]; omega) HI7.out HM7.out).mono ?_
    rintro e w8 ⟨rfl, n8, rfl⟩
    clear HI7 HM7 HL7
    go_wp2
    go_ret
    exact ⟨rfl, below_drewN ((r3.trans hb6).trans hb7) n8⟩
  · have hf1 : (f != 0) = true := by simpa using hf
    have hnil := N1.out hf
    simp only [Value.slice.injEq] at hnil
    obtain ⟨rfl, hl0, rfl⟩ := hnil
    have HL0 : Hid (l.length = 0) := hl0
    clear hl0 N1
    go_wp2_with fail
    generalize W.alloc (.cells #[.slice none 0 0, .slice none 0 0, .slice none 0 0, .slice none 0 0] 70) = WA at *
    refine (ownInts_any _ w.heap.size _ _ l [] _ hlen (by simp) hA.out r1 hWB (by simp)).mono ?_
    rintro e w6 ⟨rfl, iv6, es6, hl6, hI6, hm6, hblk6, hk6, hb6⟩
    have o6 := owns_keep r2 hk6 (fun g h2 h1 => by have := L1.out g h1; have := L2.out g h2; omega)
    have hs6 : Hid (∀ e ∈ es6, ∀ g' n' cap', e.1 = .slice (some ⟨g', 0, none⟩) n' cap' → 0 < n' → (Value.slice a2 l.length k2).ownBlock ≠ some g') := by
      intro e he g' n' cap' h1 h0 h2
      have h3 := L2.out g' h2
      have h5 := r4.out
      rcases hblk6 e he g' (by rw [h1]; rfl) with h4 | h4
      · have := L1.out g' h4
        omega
      · omega
    have HL6 : Hid (es6.length = 4) := hl6
    have HI6 : Hid (BkInv w6 w.heap.size W.heap.size iv6 es6) := show BkInv _ _ _ _ _ from hI6
    have HM6 : Hid (∀ e ∈ es6, 0 ≤ e.2 ∧ e.2 ≤ 100) := fun e he => by have := hm6 e he; simp at this; omega
    clear hA r1 r2 hI6 hm6 hblk6 hk6 L1 L2 L3 r4 hl6
    go_wp2_with fail
    refine (ownInts_any _ w.heap.size _ _ l es6 _ hlen (by have := HL6.out; omega) HI6.out o6 hWB hs6.out).mono ?_
    rintro e w7 ⟨rfl, iv7, es7, hl7, hI7, hm7, hblk7, hk7, hb7⟩
    have HL7 : Hid ((es6 ++ es7).length = 8) := by show _ = _; rw [List.length_append, HL6.out, hl7]
    have HI7 : Hid (BkInv w7 w.heap.size W.heap.size iv7 (es6 ++ es7)) := hI7
    have HM7 : Hid (∀ e ∈ es6 ++ es7, 0 ≤ e.2 ∧ e.2 ≤ 100) := by
      intro e he
      rcases List.mem_append.1 he with h1 | h1
      · exact HM6.out e h1
      · have := hm7 e h1
        have := HL6.out
        omega
    clear hI7 hm7 hblk7 hk7 hl7 o6 HI6
    go_wp2_with fail
    refine (looks_any _ w.heap.size _ (es6 ++ es7) _ (by rw [HL7.out]; omega) HI7.out HM7.out).mono ?_
    rintro e w8 ⟨rfl, n8, rfl⟩
    clear HI7 HM7 HL7
    go_wp2
    go_ret
    exact ⟨rfl, below_drewN ((r3.trans hb6).trans hb7) n8⟩
end Go.Proofs.Ytjidbonhhpkljaa.Pk
