/- The contract of ReadWhole at values: what is read of all bytes, or nothing, by the recover at the call. -/
import Derived.Test.YtjidbonhhpkljaaDcColumnD
import Derived.Test.YtjidbonhhpkljaaPkThree
set_option linter.unusedVariables false
namespace Go.Proofs.Ytjidbonhhpkljaa.Ec
open Go.RowKit Go.Proofs.Ytjidbonhhpkljaa.Pk Go.Proofs.Ytjidbonhhpkljaa.Pm

theorem one_frozen {w : World} {g : Nat} {v : Value} {t : TypeId} (h : w.heap[g]? = some (.cells #[v] t (0, 0))) : w.cell? ⟨g, 0, none⟩ = some v ∧ w.frozen? ⟨g, 0, none⟩ = false := by
  constructor
  · simp [World.cell?, h]
  · simp [World.frozen?, h]
theorem one_set {w : World} {g : Nat} {v : Value} (u : Value) {t : TypeId} (h : w.heap[g]? = some (.cells #[v] t (0, 0))) : (w.setCell ⟨g, 0, none⟩ u).heap[g]? = some (.cells #[u] t (0, 0)) := by
  rw [heap_setCell_same w g 0 _ _ _ h]; rfl

/-- The deferred function, where the frame panics. -/
theorem catchV_panicking (pl pe : Addr) (vl ve : Value) (u : TypeId) (pv : Value) (older : List PanicEntry) (w : World) (hl : w.cell? pl = some vl) (hlf : w.frozen? pl = false)
    (he : (w.setCell pl (.slice none 0 0)).cell? pe = some ve) (hef : (w.setCell pl (.slice none 0 0)).frozen? pe = false) :
    CallsD Try.prog 110 #[.pointer (some pl), .pointer (some pe)] (.panicking ({ v := .iface u pv, recovered := false } :: older)) w fun e u' w' =>
      e = .returned (.tuple #[]) ∧ u' = .panicking ({ v := .iface u pv, recovered := true } :: older) ∧ w' = (w.setCell pl (.slice none 0 0)).setCell pe (.bool false) := by
  refine callsD_of_wpS Try.func110 rfl fun c₀ cs hu => ?_
  apply wpS_seq
  apply wpS_region
  simp [wpOpsS, go_sem, recoverD, hu, Try.ntmps110, Exit.thenS]
  refine wpS_cond (t := true) (by simp [Act.eval, Array.replicate]) ?_
  simp only [if_true]
  apply wpS_seq
  apply wpS_region
  simp [wpOpsS, go_sem, Exit.thenS]
  apply wpS_region
  simp [wpOpsS, go_sem, hl, hlf, he, hef, bodyPostS, results, Try.results110]

theorem catchV_idle (pl pe : Addr) (w : World) :
    CallsD Try.prog 110 #[.pointer (some pl), .pointer (some pe)] .returning w fun e u' w' => e = .returned (.tuple #[]) ∧ u' = .returning ∧ w' = w := by
  refine callsD_of_wpS Try.func110 rfl fun c₀ cs hu => ?_
  apply wpS_seq
  apply wpS_region
  simp [wpOpsS, go_sem, recoverD, hu, Try.ntmps110, Exit.thenS]
  refine wpS_cond (t := false) (by simp [Act.eval, Array.replicate]) ?_
  simp only [Bool.false_eq_true, if_false]
  refine wpS_of_wp (wp_skip ?_)
  cases c₀
  simp_all [bodyPostS, results, Try.results110]

theorem catchV_at {w w4 : World} {v : Value} {t1 t2 : TypeId} {v2 : Value} (q : Nat) (hL : w4.heap[w.heap.size]? = some (.cells #[v] t1 (0, 0))) (hE : w4.heap[w.heap.size + 1]? = some (.cells #[v2] t2 (0, 0))) :
    CallsD Try.prog 110 #[.pointer (some ⟨w.heap.size, 0, none⟩), .pointer (some ⟨w.heap.size + 1, 0, none⟩)] (.panicking (badAt q)) w4 fun e u' w' =>
      e = .returned (.tuple #[]) ∧ u' = .panicking [{ v := .iface 183 (.agg #[.int .i64 (q : Int)]), recovered := true }] ∧ w' = (w4.setCell ⟨w.heap.size, 0, none⟩ (.slice none 0 0)).setCell ⟨w.heap.size + 1, 0, none⟩ (.bool false) := by
  have a3 : (w4.setCell ⟨w.heap.size, 0, none⟩ (.slice none 0 0)).heap[w.heap.size + 1]? = some (.cells #[v2] t2 (0, 0)) := by
    rw [heap_setCell_other _ _ _ _ (by simp)]; exact hE
  exact catchV_panicking _ _ _ _ _ _ [] w4 (one_frozen hL).1 (one_frozen hL).2 (one_frozen a3).1 (one_frozen a3).2

theorem whole_bad {w w4 : World} {v v2 : Value} {t1 t2 : TypeId} (u1 u2 : Value) (hL : w4.heap[w.heap.size]? = some (.cells #[v] t1 (0, 0))) (hE : w4.heap[w.heap.size + 1]? = some (.cells #[v2] t2 (0, 0))) (hB : Below w.heap.size w w4) :
    let W := (w4.setCell ⟨w.heap.size, 0, none⟩ u1).setCell ⟨w.heap.size + 1, 0, none⟩ u2
    W.cell? ⟨w.heap.size, 0, none⟩ = some u1 ∧ W.cell? ⟨w.heap.size + 1, 0, none⟩ = some u2 ∧ Below w.heap.size w W := by
  have a1 := one_set u1 hL
  have a3 : (w4.setCell ⟨w.heap.size, 0, none⟩ u1).heap[w.heap.size + 1]? = some (.cells #[v2] t2 (0, 0)) := by
    rw [heap_setCell_other _ _ _ _ (by simp)]; exact hE
  refine ⟨?_, (one_frozen (one_set u2 a3)).1, ?_⟩
  · refine (one_frozen (t := t1) ?_).1
    rw [heap_setCell_other _ _ _ _ (by simp)]
    exact a1
  · exact (hB.setCell (Nat.le_refl _) _).setCell (Nat.le_succ _) _

set_option maxRecDepth 100000 in
set_option maxHeartbeats 2000000 in
theorem wholeV_any (c1 c2 c3 : Value) (s : ByteArray) (w : World) (hm : s.size ≤ maxLen) (el size : Nat) (Q : Nat → List Value → Nat → Prop) (N : Prop)
    (hcl : ∀ (W : World) (r : Nat), Below w.heap.size w W → r = w.heap.size + 1 + 1 → W.heap[r]? = some (rdr s 0) → Calls Try.prog 49 #[.pointer (some ⟨r, 0, none⟩), c1, c2, c3] W fun e w' => Kp r W w' ∧
      ((∃ v n xs q, e = .returned v ∧ w'.heap[r]? = some (rdr s q) ∧ q ≤ s.size ∧ w'.ownsRow W.heap.size el size v n xs ∧ Q n xs q) ∨ (∃ q, e = .panicked (badAt q) ∧ N))) :
    Calls Try.prog 78 #[.string s, .func (.func 49) #[] #[c1, c2, c3]] w fun e w' => Below w.heap.size w w' ∧
      ((∃ v n xs, e = .returned (.tuple #[v, .bool true]) ∧ w'.ownsRow w.heap.size el size v n xs ∧ Q n xs s.size) ∨ (e = .returned (.tuple #[.slice none 0 0, .bool false]) ∧ (N ∨ ∃ n xs q, Q n xs q ∧ q < s.size))) := by
  have HCL : Hid _ := hcl
  clear hcl
  have hmf : ∀ (fn : Fn) (first cap : Array Value) (w : World), (Instr.makeFunc fn first cap).run Try.prog w = .ok (.func fn first cap) w := fun _ _ _ _ => rfl
  go_enter_defers Try.func78, Try.ntmps78
  go_wp2_with (go_at_call 100; refine (newReader_any s _).mono ?_; rintro e w' ⟨rfl, rfl⟩)
  have hL : (((w.alloc (.cells #[.slice none 0 0] 30)).alloc (.cells #[.bool false] 4)).alloc (rdr s 0)).heap[w.heap.size]? = some (.cells #[.slice none 0 0] 30 (0, 0)) := three_0 _ _ _ _
  have hE : (((w.alloc (.cells #[.slice none 0 0] 30)).alloc (.cells #[.bool false] 4)).alloc (rdr s 0)).heap[w.heap.size + 1]? = some (.cells #[.bool false] 4 (0, 0)) := three_1 _ _ _ _
  have hR : (((w.alloc (.cells #[.slice none 0 0] 30)).alloc (.cells #[.bool false] 4)).alloc (rdr s 0)).heap[w.heap.size + 1 + 1]? = some (rdr s 0) := three_2 _ _ _ _
  have hS : (((w.alloc (.cells #[.slice none 0 0] 30)).alloc (.cells #[.bool false] 4)).alloc (rdr s 0)).heap.size = w.heap.size + 3 := by simp
  have hB : Below w.heap.size w (((w.alloc (.cells #[.slice none 0 0] 30)).alloc (.cells #[.bool false] 4)).alloc (rdr s 0)) := (((Below.refl _ _).alloc (Nat.le_refl _) _).alloc (by simp) _).alloc (by simp; omega) _
  generalize (((w.alloc (.cells #[.slice none 0 0] 30)).alloc (.cells #[.bool false] 4)).alloc (rdr s 0)) = W3 at *
  refine (HCL.out W3 (w.heap.size + 1 + 1) hB rfl hR).mono ?_
  rintro e w4 ⟨hK4, ⟨v, n, xs, q, rfl, hR4, hq, hown, hQ⟩ | ⟨q, rfl, hN⟩⟩
  · have hL4 : w4.heap[w.heap.size]? = some (.cells #[.slice none 0 0] 30 (0, 0)) := Kp.block hK4 hL (by omega)
    have hE4 : w4.heap[w.heap.size + 1]? = some (.cells #[.bool false] 4 (0, 0)) := Kp.block hK4 hE (by omega)
    have hB4 : Below w.heap.size w w4 := hB.trans ((hK4.below (by omega)).mono (by omega))
    have hne : v.ownBlock ≠ some w.heap.size ∧ v.ownBlock ≠ some (w.heap.size + 1) := ⟨fun e => by have := (hown.lt _ e).1; omega, fun e => by have := (hown.lt _ e).1; omega⟩
    obtain ⟨ao, cap, hv⟩ := own_shape hown
    subst hv
    have HO4 : Hid (w4.ownsRow w.heap.size el size (.slice ao n cap) n xs) := ownsRow_base hown (by omega)
    have HNE : Hid _ := hne
    have HQ : Hid (Q n xs q) := hQ
    obtain ⟨cl, fl⟩ := one_frozen hL4
    obtain ⟨ce, fe⟩ := one_frozen hE4
    have HL4 : Hid _ := hL4
    have HE4 : Hid _ := hE4
    have HB4 : Hid _ := hB4
    have HR4 : Hid (w4.heap[w.heap.size + 1 + 1]? = some (rdr s q)) := hR4
    clear hL hE hR hS hB hL4 hE4 hK4 hR4 hown hQ hB4 hne
    clear W3
    by_cases hend : q < s.size
    · go_wp2_with (go_at_call 111; refine (end_bad (w.heap.size + 1 + 1) q s _ hm hend (by rw [heap_setCell_other _ _ _ _ (by simp; omega)]; exact HR4.out)).mono ?_; rintro e w' ⟨rfl, m, rfl⟩)
      have hL5 : ((w4.setCell ⟨w.heap.size, 0, none⟩ (.slice ao n cap)).drewN m).heap[w.heap.size]? = some (.cells #[.slice ao n cap] 30 (0, 0)) := one_set _ HL4.out
      have hE5 : ((w4.setCell ⟨w.heap.size, 0, none⟩ (.slice ao n cap)).drewN m).heap[w.heap.size + 1]? = some (.cells #[.bool false] 4 (0, 0)) := by
        show (w4.setCell ⟨w.heap.size, 0, none⟩ (.slice ao n cap)).heap[w.heap.size + 1]? = _
        rw [heap_setCell_other _ _ _ _ (by simp)]; exact HE4.out
      have hB5 := below_drewN (HB4.out.setCell (p := ⟨w.heap.size, 0, none⟩) (Nat.le_refl _) (.slice ao n cap)) m
      generalize (w4.setCell ⟨w.heap.size, 0, none⟩ (.slice ao n cap)).drewN m = w5 at *
      obtain ⟨f1, f2, f3⟩ := whole_bad (.slice none 0 0) (.bool false) hL5 hE5 hB5
      refine leaves_cons (f := 110) (args := #[.pointer (some ⟨w.heap.size, 0, none⟩), .pointer (some ⟨w.heap.size + 1, 0, none⟩)]) (by simp) (by simp [go_sem]) ?_
      refine (catchV_at _ hL5 hE5).mono ?_
      rintro e u' w'' ⟨rfl, rfl, rfl⟩
      simp [Leaves, settle, results, Try.results78, go_sem, f1, f2]
      exact ⟨f3, .inr ⟨n, xs, q, HQ.out, hend⟩⟩
    · obtain rfl : q = s.size := by omega
      go_wp2_with (go_at_call 111; refine (end_ok (w.heap.size + 1 + 1) s.size s _ hm (by omega) (by rw [heap_setCell_other _ _ _ _ (by simp; omega)]; exact HR4.out)).mono ?_; rintro e w' ⟨rfl, m, rfl⟩)
      have hL5 : ((w4.setCell ⟨w.heap.size, 0, none⟩ (.slice ao n cap)).drewN m).heap[w.heap.size]? = some (.cells #[.slice ao n cap] 30 (0, 0)) := one_set _ HL4.out
      have hE5 : ((w4.setCell ⟨w.heap.size, 0, none⟩ (.slice ao n cap)).drewN m).heap[w.heap.size + 1]? = some (.cells #[.bool false] 4 (0, 0)) := by
        show (w4.setCell ⟨w.heap.size, 0, none⟩ (.slice ao n cap)).heap[w.heap.size + 1]? = _
        rw [heap_setCell_other _ _ _ _ (by simp)]; exact HE4.out
      have hB5 := below_drewN (HB4.out.setCell (p := ⟨w.heap.size, 0, none⟩) (Nat.le_refl _) (.slice ao n cap)) m
      have hO5 : ((w4.setCell ⟨w.heap.size, 0, none⟩ (.slice ao n cap)).drewN m).ownsRow w.heap.size el size (.slice ao n cap) n xs := ownsRow_drewN (ownsRow_setCell_other HO4.out HNE.out.1 _) m
      have hO6 : (((w4.setCell ⟨w.heap.size, 0, none⟩ (.slice ao n cap)).drewN m).setCell ⟨w.heap.size, 0, none⟩ (.slice ao n cap)).ownsRow w.heap.size el size (.slice ao n cap) n xs := ownsRow_setCell_other hO5 HNE.out.1 _
      have hO7 : ((((w4.setCell ⟨w.heap.size, 0, none⟩ (.slice ao n cap)).drewN m).setCell ⟨w.heap.size, 0, none⟩ (.slice ao n cap)).setCell ⟨w.heap.size + 1, 0, none⟩ (.bool true)).ownsRow w.heap.size el size (.slice ao n cap) n xs := ownsRow_setCell_other hO6 HNE.out.2 _
      obtain ⟨f1, f2, f3⟩ := whole_bad (.slice ao n cap) (.bool true) hL5 hE5 hB5
      generalize (((w4.setCell ⟨w.heap.size, 0, none⟩ (.slice ao n cap)).drewN m).setCell ⟨w.heap.size, 0, none⟩ (.slice ao n cap)).setCell ⟨w.heap.size + 1, 0, none⟩ (.bool true) = Wf at *
      refine leaves_cons (f := 110) (args := #[.pointer (some ⟨w.heap.size, 0, none⟩), .pointer (some ⟨w.heap.size + 1, 0, none⟩)]) (by simp) (by simp [go_sem]) ?_
      refine (catchV_idle ⟨w.heap.size, 0, none⟩ ⟨w.heap.size + 1, 0, none⟩ _).mono ?_
      rintro e u' w'' ⟨rfl, rfl, rfl⟩
      simp [Leaves, settle, results, Try.results78, go_sem, f1, f2]
      exact ⟨f3, n, xs, hO7, HQ.out⟩
  · have hL4 : w4.heap[w.heap.size]? = some (.cells #[.slice none 0 0] 30 (0, 0)) := Kp.block hK4 hL (by omega)
    have hE4 : w4.heap[w.heap.size + 1]? = some (.cells #[.bool false] 4 (0, 0)) := Kp.block hK4 hE (by omega)
    have hB4 : Below w.heap.size w w4 := hB.trans ((hK4.below (by omega)).mono (by omega))
    clear hL hE hR hS hB hK4
    clear W3
    obtain ⟨f1, f2, f3⟩ := whole_bad (.slice none 0 0) (.bool false) hL4 hE4 hB4
    refine leaves_cons (f := 110) (args := #[.pointer (some ⟨w.heap.size, 0, none⟩), .pointer (some ⟨w.heap.size + 1, 0, none⟩)]) (by simp) (by simp [go_sem]) ?_
    refine (catchV_at _ hL4 hE4).mono ?_
    rintro e u' w'' ⟨rfl, rfl, rfl⟩
    simp [Leaves, settle, results, Try.results78, go_sem, f1, f2]
    exact ⟨f3, .inl hN⟩
end Go.Proofs.Ytjidbonhhpkljaa.Ec
