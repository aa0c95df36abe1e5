/- What the proof stands on: PkWhole, PkUnpackC, PkBook, PkOwn, PkLooks, DcRunsP, DcSeq, DcDictP, DrRead, DcTake. -/
import Derived.Test.YtjidbonhhpkljaaMc
import Derived.ArgAppend

/- The contract of ReadWhole at numbers: what is read of all bytes, or nothing, by the recover at the call. -/
set_option linter.unusedVariables false
namespace Go.Proofs.Ytjidbonhhpkljaa.Pk
open Go.RowKit Go.Proofs.Ytjidbonhhpkljaa.Pm

theorem pk_shape {w : World} {base e size n : Nat} {v : Value} {xs : List Value} (h : w.ownsRow base e size v n xs) : ∃ ao cap, v = .slice ao n cap := by
  rcases h.2 with ⟨rfl, rfl⟩ | ⟨g, cap, cur, rfl, _⟩
  · exact ⟨none, 0, rfl⟩
  · exact ⟨_, _, rfl⟩
theorem one_frozenI {w : World} {g : Nat} {v : Value} {t : TypeId} (h : w.heap[g]? = some (.cells #[v] t (0, 0))) : w.cell? ⟨g, 0, none⟩ = some v ∧ w.frozen? ⟨g, 0, none⟩ = false := by
  constructor
  · simp [World.cell?, h]
  · simp [World.frozen?, h]
theorem one_setI {w : World} {g : Nat} {v : Value} (u : Value) {t : TypeId} (h : w.heap[g]? = some (.cells #[v] t (0, 0))) : (w.setCell ⟨g, 0, none⟩ u).heap[g]? = some (.cells #[u] t (0, 0)) := by
  rw [heap_setCell_same w g 0 _ _ _ h]; rfl

/-- The deferred function, where the frame panics. -/
theorem catchI_panicking (pl pe : Addr) (vl ve : Value) (u : TypeId) (pv : Value) (older : List PanicEntry) (w : World) (hl : w.cell? pl = some vl) (hlf : w.frozen? pl = false)
    (he : (w.setCell pl (.slice none 0 0)).cell? pe = some ve) (hef : (w.setCell pl (.slice none 0 0)).frozen? pe = false) :
    CallsD Try.prog 118 #[.pointer (some pl), .pointer (some pe)] (.panicking ({ v := .iface u pv, recovered := false } :: older)) w fun e u' w' =>
      e = .returned (.tuple #[]) ∧ u' = .panicking ({ v := .iface u pv, recovered := true } :: older) ∧ w' = (w.setCell pl (.slice none 0 0)).setCell pe (.bool false) := by
  refine callsD_of_wpS Try.func118 rfl fun c₀ cs hu => ?_
  apply wpS_seq
  apply wpS_region
  simp [wpOpsS, go_sem, recoverD, hu, Try.ntmps118, Exit.thenS]
  refine wpS_cond (t := true) (by simp [Act.eval, Array.replicate]) ?_
  simp only [if_true]
  apply wpS_seq
  apply wpS_region
  simp [wpOpsS, go_sem, Exit.thenS]
  apply wpS_region
  simp [wpOpsS, go_sem, hl, hlf, he, hef, bodyPostS, results, Try.results118]

theorem catchI_idle (pl pe : Addr) (w : World) :
    CallsD Try.prog 118 #[.pointer (some pl), .pointer (some pe)] .returning w fun e u' w' => e = .returned (.tuple #[]) ∧ u' = .returning ∧ w' = w := by
  refine callsD_of_wpS Try.func118 rfl fun c₀ cs hu => ?_
  apply wpS_seq
  apply wpS_region
  simp [wpOpsS, go_sem, recoverD, hu, Try.ntmps118, Exit.thenS]
  refine wpS_cond (t := false) (by simp [Act.eval, Array.replicate]) ?_
  simp only [Bool.false_eq_true, if_false]
  refine wpS_of_wp (wp_skip ?_)
  cases c₀
  simp_all [bodyPostS, results, Try.results118]

theorem catchI_at {w w4 : World} {v : Value} {t1 t2 : TypeId} {v2 : Value} (q : Nat) (hL : w4.heap[w.heap.size]? = some (.cells #[v] t1 (0, 0))) (hE : w4.heap[w.heap.size + 1]? = some (.cells #[v2] t2 (0, 0))) :
    CallsD Try.prog 118 #[.pointer (some ⟨w.heap.size, 0, none⟩), .pointer (some ⟨w.heap.size + 1, 0, none⟩)] (.panicking (badAt q)) w4 fun e u' w' =>
      e = .returned (.tuple #[]) ∧ u' = .panicking [{ v := .iface 183 (.agg #[.int .i64 (q : Int)]), recovered := true }] ∧ w' = (w4.setCell ⟨w.heap.size, 0, none⟩ (.slice none 0 0)).setCell ⟨w.heap.size + 1, 0, none⟩ (.bool false) := by
  have a3 : (w4.setCell ⟨w.heap.size, 0, none⟩ (.slice none 0 0)).heap[w.heap.size + 1]? = some (.cells #[v2] t2 (0, 0)) := by
    rw [heap_setCell_other _ _ _ _ (by simp)]; exact hE
  exact catchI_panicking _ _ _ _ _ _ [] w4 (one_frozenI hL).1 (one_frozenI hL).2 (one_frozenI a3).1 (one_frozenI a3).2

theorem wholeI_bad {w w4 : World} {v v2 : Value} {t1 t2 : TypeId} (u1 u2 : Value) (hL : w4.heap[w.heap.size]? = some (.cells #[v] t1 (0, 0))) (hE : w4.heap[w.heap.size + 1]? = some (.cells #[v2] t2 (0, 0))) (hB : Below w.heap.size w w4) :
    let W := (w4.setCell ⟨w.heap.size, 0, none⟩ u1).setCell ⟨w.heap.size + 1, 0, none⟩ u2
    W.cell? ⟨w.heap.size, 0, none⟩ = some u1 ∧ W.cell? ⟨w.heap.size + 1, 0, none⟩ = some u2 ∧ Below w.heap.size w W := by
  have a1 := one_setI u1 hL
  have a3 : (w4.setCell ⟨w.heap.size, 0, none⟩ u1).heap[w.heap.size + 1]? = some (.cells #[v2] t2 (0, 0)) := by
    rw [heap_setCell_other _ _ _ _ (by simp)]; exact hE
  refine ⟨?_, (one_frozenI (one_setI u2 a3)).1, ?_⟩
  · refine (one_frozenI (t := t1) ?_).1
    rw [heap_setCell_other _ _ _ _ (by simp)]
    exact a1
  · exact (hB.setCell (Nat.le_refl _) _).setCell (Nat.le_succ _) _

set_option maxRecDepth 100000 in
set_option maxHeartbeats 2000000 in
theorem wholeI_any (c1 c2 : Value) (s : ByteArray) (w : World) (hm : s.size ≤ maxLen) (el size : Nat) (Q : Nat → List Value → Nat → Prop) (N : Prop)
    (hcl : ∀ (W : World) (r : Nat), Below w.heap.size w W → r = w.heap.size + 1 + 1 → W.heap[r]? = some (rdr s 0) → Calls Try.prog 52 #[.pointer (some ⟨r, 0, none⟩), c1, c2] W fun e w' => Kp r W w' ∧
      ((∃ v n xs q, e = .returned v ∧ w'.heap[r]? = some (rdr s q) ∧ q ≤ s.size ∧ w'.ownsRow W.heap.size el size v n xs ∧ Q n xs q) ∨ (∃ q, e = .panicked (badAt q) ∧ N))) :
    Calls Try.prog 82 #[.string s, .func (.func 52) #[] #[c1, c2]] w fun e w' => Below w.heap.size w w' ∧
      ((∃ v n xs, e = .returned (.tuple #[v, .bool true]) ∧ w'.ownsRow w.heap.size el size v n xs ∧ Q n xs s.size) ∨ (e = .returned (.tuple #[.slice none 0 0, .bool false]) ∧ (N ∨ ∃ n xs q, Q n xs q ∧ q < s.size))) := by
  have HCL : Hid _ := hcl
  clear hcl
  have hmf : ∀ (fn : Fn) (first cap : Array Value) (w : World), (Instr.makeFunc fn first cap).run Try.prog w = .ok (.func fn first cap) w := fun _ _ _ _ => rfl
  go_enter_defers Try.func82, Try.ntmps82
  go_wp2_with (go_at_call 100; refine (newReader_any s _).mono ?_; rintro e w' ⟨rfl, rfl⟩)
  have hL : (((w.alloc (.cells #[.slice none 0 0] 22)).alloc (.cells #[.bool false] 4)).alloc (rdr s 0)).heap[w.heap.size]? = some (.cells #[.slice none 0 0] 22 (0, 0)) := three_0 _ _ _ _
  have hE : (((w.alloc (.cells #[.slice none 0 0] 22)).alloc (.cells #[.bool false] 4)).alloc (rdr s 0)).heap[w.heap.size + 1]? = some (.cells #[.bool false] 4 (0, 0)) := three_1 _ _ _ _
  have hR : (((w.alloc (.cells #[.slice none 0 0] 22)).alloc (.cells #[.bool false] 4)).alloc (rdr s 0)).heap[w.heap.size + 1 + 1]? = some (rdr s 0) := three_2 _ _ _ _
  have hS : (((w.alloc (.cells #[.slice none 0 0] 22)).alloc (.cells #[.bool false] 4)).alloc (rdr s 0)).heap.size = w.heap.size + 3 := by simp
  have hB : Below w.heap.size w (((w.alloc (.cells #[.slice none 0 0] 22)).alloc (.cells #[.bool false] 4)).alloc (rdr s 0)) := (((Below.refl _ _).alloc (Nat.le_refl _) _).alloc (by simp) _).alloc (by simp; omega) _
  generalize (((w.alloc (.cells #[.slice none 0 0] 22)).alloc (.cells #[.bool false] 4)).alloc (rdr s 0)) = W3 at *
  refine (HCL.out W3 (w.heap.size + 1 + 1) hB rfl hR).mono ?_
  rintro e w4 ⟨hK4, ⟨v, n, xs, q, rfl, hR4, hq, hown, hQ⟩ | ⟨q, rfl, hN⟩⟩
  · have hL4 : w4.heap[w.heap.size]? = some (.cells #[.slice none 0 0] 22 (0, 0)) := Kp.block hK4 hL (by omega)
    have hE4 : w4.heap[w.heap.size + 1]? = some (.cells #[.bool false] 4 (0, 0)) := Kp.block hK4 hE (by omega)
    have hB4 : Below w.heap.size w w4 := hB.trans ((hK4.below (by omega)).mono (by omega))
    have hne : v.ownBlock ≠ some w.heap.size ∧ v.ownBlock ≠ some (w.heap.size + 1) := ⟨fun e => by have := (hown.lt _ e).1; omega, fun e => by have := (hown.lt _ e).1; omega⟩
    obtain ⟨ao, cap, hv⟩ := pk_shape hown
    subst hv
    have HO4 : Hid (w4.ownsRow w.heap.size el size (.slice ao n cap) n xs) := ownsRow_base hown (by omega)
    have HNE : Hid _ := hne
    have HQ : Hid (Q n xs q) := hQ
    obtain ⟨cl, fl⟩ := one_frozenI hL4
    obtain ⟨ce, fe⟩ := one_frozenI hE4
    have HL4 : Hid _ := hL4
    have HE4 : Hid _ := hE4
    have HB4 : Hid _ := hB4
    have HR4 : Hid (w4.heap[w.heap.size + 1 + 1]? = some (rdr s q)) := hR4
    clear hL hE hR hS hB hL4 hE4 hK4 hR4 hown hQ hB4 hne
    clear W3
    by_cases hend : q < s.size
    · go_wp2_with (go_at_call 111; refine (end_bad (w.heap.size + 1 + 1) q s _ hm hend (by rw [heap_setCell_other _ _ _ _ (by simp; omega)]; exact HR4.out)).mono ?_; rintro e w' ⟨rfl, m, rfl⟩)
      have hL5 : ((w4.setCell ⟨w.heap.size, 0, none⟩ (.slice ao n cap)).drewN m).heap[w.heap.size]? = some (.cells #[.slice ao n cap] 22 (0, 0)) := one_setI _ HL4.out
      have hE5 : ((w4.setCell ⟨w.heap.size, 0, none⟩ (.slice ao n cap)).drewN m).heap[w.heap.size + 1]? = some (.cells #[.bool false] 4 (0, 0)) := by
        show (w4.setCell ⟨w.heap.size, 0, none⟩ (.slice ao n cap)).heap[w.heap.size + 1]? = _
        rw [heap_setCell_other _ _ _ _ (by simp)]; exact HE4.out
      have hB5 := below_drewN (HB4.out.setCell (p := ⟨w.heap.size, 0, none⟩) (Nat.le_refl _) (.slice ao n cap)) m
      generalize (w4.setCell ⟨w.heap.size, 0, none⟩ (.slice ao n cap)).drewN m = w5 at *
      obtain ⟨f1, f2, f3⟩ := wholeI_bad (.slice none 0 0) (.bool false) hL5 hE5 hB5
      refine leaves_cons (f := 118) (args := #[.pointer (some ⟨w.heap.size, 0, none⟩), .pointer (some ⟨w.heap.size + 1, 0, none⟩)]) (by simp) (by simp [go_sem]) ?_
      refine (catchI_at _ hL5 hE5).mono ?_
      rintro e u' w'' ⟨rfl, rfl, rfl⟩
      simp [Leaves, settle, results, Try.results82, go_sem, f1, f2]
      exact ⟨f3, .inr ⟨n, xs, q, HQ.out, hend⟩⟩
    · obtain rfl : q = s.size := by omega
      go_wp2_with (go_at_call 111; refine (end_ok (w.heap.size + 1 + 1) s.size s _ hm (by omega) (by rw [heap_setCell_other _ _ _ _ (by simp; omega)]; exact HR4.out)).mono ?_; rintro e w' ⟨rfl, m, rfl⟩)
      have hL5 : ((w4.setCell ⟨w.heap.size, 0, none⟩ (.slice ao n cap)).drewN m).heap[w.heap.size]? = some (.cells #[.slice ao n cap] 22 (0, 0)) := one_setI _ HL4.out
      have hE5 : ((w4.setCell ⟨w.heap.size, 0, none⟩ (.slice ao n cap)).drewN m).heap[w.heap.size + 1]? = some (.cells #[.bool false] 4 (0, 0)) := by
        show (w4.setCell ⟨w.heap.size, 0, none⟩ (.slice ao n cap)).heap[w.heap.size + 1]? = _
        rw [heap_setCell_other _ _ _ _ (by simp)]; exact HE4.out
      have hB5 := below_drewN (HB4.out.setCell (p := ⟨w.heap.size, 0, none⟩) (Nat.le_refl _) (.slice ao n cap)) m
      have hO5 : ((w4.setCell ⟨w.heap.size, 0, none⟩ (.slice ao n cap)).drewN m).ownsRow w.heap.size el size (.slice ao n cap) n xs := ownsRow_drewN (ownsRow_setCell_other HO4.out HNE.out.1 _) m
      have hO6 : (((w4.setCell ⟨w.heap.size, 0, none⟩ (.slice ao n cap)).drewN m).setCell ⟨w.heap.size, 0, none⟩ (.slice ao n cap)).ownsRow w.heap.size el size (.slice ao n cap) n xs := ownsRow_setCell_other hO5 HNE.out.1 _
      have hO7 : ((((w4.setCell ⟨w.heap.size, 0, none⟩ (.slice ao n cap)).drewN m).setCell ⟨w.heap.size, 0, none⟩ (.slice ao n cap)).setCell ⟨w.heap.size + 1, 0, none⟩ (.bool true)).ownsRow w.heap.size el size (.slice ao n cap) n xs := ownsRow_setCell_other hO6 HNE.out.2 _
      obtain ⟨f1, f2, f3⟩ := wholeI_bad (.slice ao n cap) (.bool true) hL5 hE5 hB5
      generalize (((w4.setCell ⟨w.heap.size, 0, none⟩ (.slice ao n cap)).drewN m).setCell ⟨w.heap.size, 0, none⟩ (.slice ao n cap)).setCell ⟨w.heap.size + 1, 0, none⟩ (.bool true) = Wf at *
      refine leaves_cons (f := 118) (args := #[.pointer (some ⟨w.heap.size, 0, none⟩), .pointer (some ⟨w.heap.size + 1, 0, none⟩)]) (by simp) (by simp [go_sem]) ?_
      refine (catchI_idle ⟨w.heap.size, 0, none⟩ ⟨w.heap.size + 1, 0, none⟩ _).mono ?_
      rintro e u' w'' ⟨rfl, rfl, rfl⟩
      simp [Leaves, settle, results, Try.results82, go_sem, f1, f2]
      exact ⟨f3, n, xs, hO7, HQ.out⟩
  · have hL4 : w4.heap[w.heap.size]? = some (.cells #[.slice none 0 0] 22 (0, 0)) := Kp.block hK4 hL (by omega)
    have hE4 : w4.heap[w.heap.size + 1]? = some (.cells #[.bool false] 4 (0, 0)) := Kp.block hK4 hE (by omega)
    have hB4 : Below w.heap.size w w4 := hB.trans ((hK4.below (by omega)).mono (by omega))
    clear hL hE hR hS hB hK4
    clear W3
    obtain ⟨f1, f2, f3⟩ := wholeI_bad (.slice none 0 0) (.bool false) hL4 hE4 hB4
    refine leaves_cons (f := 118) (args := #[.pointer (some ⟨w.heap.size, 0, none⟩), .pointer (some ⟨w.heap.size + 1, 0, none⟩)]) (by simp) (by simp [go_sem]) ?_
    refine (catchI_at _ hL4 hE4).mono ?_
    rintro e u' w'' ⟨rfl, rfl, rfl⟩
    simp [Leaves, settle, results, Try.results82, go_sem, f1, f2]
    exact ⟨f3, .inl hN⟩
end Go.Proofs.Ytjidbonhhpkljaa.Pk

/- The contract of the code's Unpack: the document's answer, in new memory. -/
set_option linter.unusedVariables false
namespace Go.Proofs.Ytjidbonhhpkljaa.Pk
open Go.RowKit Go.Proofs.Ytjidbonhhpkljaa.Pm

theorem heldOf_ok (s : ByteArray) (wd cn : Nat) : (readOk s 0 wd cn ∧ 0 + (cn * wd + 7) / 8 = s.size) ↔ unpackOk s wd cn = true := by
  have hv : restV s 0 = V (bytesOf s) := by simp [restV]
  rw [unpackOk_iff, readOk, hv]
  have hl := V_lt (bytesOf s) (bytesOf_lt s)
  rw [bytesOf_length, pow256] at hl
  constructor
  · rintro ⟨⟨h1, h2⟩, h3⟩
    rw [Nat.zero_add] at h3
    refine ⟨h3.symm, ?_⟩
    unfold heldOf at h2
    rw [h3, Nat.mod_eq_of_lt hl] at h2
    rcases Nat.div_eq_zero_iff.1 h2 with h4 | h4
    · have := Nat.pow_pos (n := wd * cn) (show 0 < 2 by omega); omega
    · exact h4
  · rintro ⟨h1, h2⟩
    refine ⟨⟨by omega, ?_⟩, by omega⟩
    unfold heldOf
    rw [← h1, Nat.mod_eq_of_lt hl]
    exact Nat.div_eq_of_lt h2


set_option maxRecDepth 100000 in
set_option maxHeartbeats 1000000 in
theorem unpackC_any (s : ByteArray) (r wd cn x y : Nat) (w : World) (hm : s.size ≤ maxLen) (hw : wd ≤ 16) (hcn : cn ≤ 100) (h : w.heap[r]? = some (rdr s 0))
    (hx : w.cell? ⟨x, 0, none⟩ = some (.int .i64 wd)) (hy : w.cell? ⟨y, 0, none⟩ = some (.int .i64 cn)) :
    Calls Try.prog 52 #[.pointer (some ⟨r, 0, none⟩), .pointer (some ⟨x, 0, none⟩), .pointer (some ⟨y, 0, none⟩)] w fun e w' => Kp r w w' ∧
      ((∃ v n xs q, e = .returned v ∧ w'.heap[r]? = some (rdr s q) ∧ q ≤ s.size ∧ w'.ownsRow w.heap.size 3 1 v n xs ∧ (n = cn ∧ xs = icells (intsOf (D wd (V (bytesOf s)) cn)) ∧ q = (cn * wd + 7) / 8 ∧ readOk s 0 wd cn)) ∨
       (∃ q, e = .panicked (badAt q) ∧ ¬ readOk s 0 wd cn)) := by
  have HR : Hid (w.heap[r]? = some (rdr s 0)) := h
  clear h
  go_enter Try.func52, Try.ntmps52
  go_wp2_with fail
  refine (readPacked_any s r 0 wd cn _ hm hw hcn (Nat.zero_le _) HR.out).mono ?_
  rintro e w' ⟨hK, ⟨rfl, h1, h2, h3⟩ | ⟨q, rfl, h1⟩⟩
  · have H2 : Hid (w'.heap[r]? = some (rdr s (0 + (cn * wd + 7) / 8))) := h2
    have HK : Hid (Kp r w w') := hK
    have HO : Hid (readOk s 0 wd cn) := h1
    have H3 : Hid _ := h3
    clear h2 hx hy hK h1 h3
    go_wp2
    go_ret
    exact ⟨HK.out, .inl ⟨_, cn, _, (cn * wd + 7) / 8, rfl, by simpa using H2.out, by have := HO.out.1; omega, H3.out, rfl, by simp [restV], rfl, HO.out⟩⟩
  · have HK : Hid (Kp r w w') := hK
    have HO : Hid (¬ readOk s 0 wd cn) := h1
    clear hx hy hK h1
    go_wp2
    exact ⟨rfl, HK.out, .inr ⟨q, rfl, HO.out⟩⟩

set_option maxRecDepth 100000 in
set_option maxHeartbeats 1000000 in
theorem readWholeI_any (s : ByteArray) (wd cn x y : Nat) (w : World) (hm : s.size ≤ maxLen) (hw : wd ≤ 16) (hcn : cn ≤ 100)
    (hx : w.cell? ⟨x, 0, none⟩ = some (.int .i64 wd)) (hy : w.cell? ⟨y, 0, none⟩ = some (.int .i64 cn)) (hxl : x < w.heap.size) (hyl : y < w.heap.size) :
    Calls Try.prog 51 #[.string s, .func (.func 52) #[] #[.pointer (some ⟨x, 0, none⟩), .pointer (some ⟨y, 0, none⟩)]] w fun e w' => Below w.heap.size w w' ∧
      ((∃ v, e = .returned (.tuple #[v, .int .i64 0]) ∧ w'.ownsRow w.heap.size 3 1 v cn (icells (intsOf (D wd (V (bytesOf s)) cn))) ∧ unpackOk s wd cn = true) ∨ (e = .returned (.tuple #[.slice none 0 0, .int .i64 3]) ∧ unpackOk s wd cn = false)) := by
  have HX : Hid _ := hx
  have HY : Hid _ := hy
  clear hx hy
  go_enter Try.func51, Try.ntmps51
  go_wp2_with fail
  refine (wholeI_any (.pointer (some ⟨x, 0, none⟩)) (.pointer (some ⟨y, 0, none⟩)) s w hm 3 1 (fun n xs q => n = cn ∧ xs = icells (intsOf (D wd (V (bytesOf s)) cn)) ∧ q = (cn * wd + 7) / 8 ∧ readOk s 0 wd cn) (¬ readOk s 0 wd cn)
    (fun W r hb hr hR => unpackC_any s r wd cn x y W hm hw hcn hR ((hb.cell (p := ⟨x, 0, none⟩) hxl).trans HX.out) ((hb.cell (p := ⟨y, 0, none⟩) hyl).trans HY.out))).mono ?_
  rintro e w1 ⟨hB, ⟨v, n, xs, rfl, hown, rfl, rfl, hq, hro⟩ | ⟨rfl, hN⟩⟩
  · have HB : Hid _ := hB
    have HO : Hid (w1.ownsRow w.heap.size 3 1 v n (icells (intsOf (D wd (V (bytesOf s)) n)))) := hown
    have HU : Hid (unpackOk s wd n = true) := (heldOf_ok s wd n).1 ⟨hro, by omega⟩
    clear hB hown hq hro
    go_wp2
    go_ret2
    exact ⟨HB.out, .inl ⟨v, rfl, HO.out, HU.out⟩⟩
  · have HB : Hid _ := hB
    have HU : Hid (unpackOk s wd cn = false) := by
      show _ = _
      rw [Bool.eq_false_iff]
      intro hu
      obtain ⟨h1, h2⟩ := (heldOf_ok s wd cn).2 hu
      rcases hN with hN | ⟨n, xs, q, ⟨_, _, hq, _⟩, hlt⟩
      · exact hN h1
      · omega
    clear hB hN
    go_wp2
    go_ret2
    exact ⟨HB.out, .inr ⟨rfl, HU.out⟩⟩

theorem two_0 (w : World) (a b : Obj) : ((w.alloc a).alloc b).heap[w.heap.size]? = some a := by
  rw [Below.heap_alloc _ _ _ (by simp)]; exact heap_alloc_new w a
theorem two_1 (w : World) (a b : Obj) : ((w.alloc a).alloc b).heap[w.heap.size + 1]? = some b := by
  have := heap_alloc_new (w.alloc a) b
  rwa [show (w.alloc a).heap.size = w.heap.size + 1 from by simp] at this

set_option maxRecDepth 100000 in
set_option maxHeartbeats 1000000 in
theorem cUnpack_any (s : ByteArray) (wd cn : Int) (w : World) (hm : s.size ≤ maxLen) :
    Calls Try.prog 24 #[.string s, .int .i64 wd, .int .i64 cn] w fun e w' => ∃ v, e = .returned (.tuple #[v, .int .i64 (unpackOf s wd cn).2]) ∧
      w'.ownsRow w.heap.size 3 1 v (unpackOf s wd cn).1.length (icells (unpackOf s wd cn).1) ∧ ((unpackOf s wd cn).2 ≠ 0 → v = .slice none 0 0) ∧ Below w.heap.size w w' := by
  have hB : Below w.heap.size w ((w.alloc (.cells #[.int .i64 wd] 3)).alloc (.cells #[.int .i64 cn] 3)) := ((Below.refl _ _).alloc (Nat.le_refl _) _).alloc (by simp) _
  have H := checkPacking_any cn wd
  by_cases h1 : cn < 0 ∨ 100 < cn
  · rw [unpackOf_long h1]
    rw [show packE cn wd = 6 from by simp [packE, h1]] at H
    clear h1
    go_enter Try.func24, Try.ntmps24
    go_wp2_with (go_at_call 36; refine (H _).mono ?_; rintro e w' ⟨rfl, rfl⟩)
    go_ret2
    exact ⟨_, rfl, World.ownsRow_nil _ _ _ _, fun _ => rfl, hB⟩
  by_cases h2 : wd < 0 ∨ 16 < wd
  · rw [unpackOf_wide h1 h2]
    rw [show packE cn wd = 2 from by simp [packE, h1, h2]] at H
    clear h1 h2
    go_enter Try.func24, Try.ntmps24
    go_wp2_with (go_at_call 36; refine (H _).mono ?_; rintro e w' ⟨rfl, rfl⟩)
    go_ret2
    exact ⟨_, rfl, World.ownsRow_nil _ _ _ _, fun _ => rfl, hB⟩
  rw [show packE cn wd = 0 from by simp [packE, h1, h2]] at H
  obtain ⟨cm, rfl⟩ := Int.eq_ofNat_of_zero_le (show 0 ≤ cn by omega)
  obtain ⟨wm, rfl⟩ := Int.eq_ofNat_of_zero_le (show 0 ≤ wd by omega)
  have h3 : cm ≤ 100 := by omega
  have h4 : wm ≤ 16 := by omega
  clear h1 h2
  have c0 := cell_of_one (two_0 w (.cells #[.int .i64 (wm : Int)] 3 (0, 0)) (.cells #[.int .i64 (cm : Int)] 3 (0, 0)))
  have c1 := cell_of_one (two_1 w (.cells #[.int .i64 (wm : Int)] 3 (0, 0)) (.cells #[.int .i64 (cm : Int)] 3 (0, 0)))
  have hmf : ∀ (fn : Fn) (first cap : Array Value) (w : World), (Instr.makeFunc fn first cap).run Try.prog w = .ok (.func fn first cap) w := fun _ _ _ _ => rfl
  have hsz : ((w.alloc (.cells #[.int .i64 (wm : Int)] 3)).alloc (.cells #[.int .i64 (cm : Int)] 3)).heap.size = w.heap.size + 2 := by simp
  have C0 : Hid _ := c0
  have C1 : Hid _ := c1
  have HSZ : Hid _ := hsz
  clear c0 c1 hsz
  by_cases hok : unpackOk s wm cm = true
  · rw [unpackOf_ok h3 h4 hok]
    have HOK : Hid (unpackOk s wm cm = true) := hok
    clear hok
    go_enter Try.func24, Try.ntmps24
    go_wp2_with (go_at_call 36; refine (H _).mono ?_; rintro e w' ⟨rfl, rfl⟩)
    generalize ((w.alloc (.cells #[.int .i64 (wm : Int)] 3)).alloc (.cells #[.int .i64 (cm : Int)] 3)) = W2 at *
    refine (readWholeI_any s wm cm w.heap.size (w.heap.size + 1) W2 hm h4 h3 C0.out C1.out (by have := HSZ.out; omega) (by have := HSZ.out; omega)).mono ?_
    rintro e w' ⟨hbel, ⟨v, rfl, hown, _⟩ | ⟨_, hno⟩⟩
    rotate_left
    · rw [HOK.out] at hno; cases hno
    go_wp2
    go_ret2
    have hsz := HSZ.out
    refine ⟨_, rfl, ?_, fun h => absurd rfl h, hB.trans (hbel.mono (by omega))⟩
    have hl : (intsOf (D wm (V (bytesOf s)) cm)).length = cm := by simp [intsOf, D_length]
    show w'.ownsRow w.heap.size 3 1 _ (intsOf (D wm (V (bytesOf s)) cm)).length _
    rw [hl]
    exact ownsRow_base hown (by omega)
  · have hok2 : unpackOk s wm cm = false := by simpa using hok
    rw [unpackOf_bad h3 h4 hok2]
    have HOK : Hid (unpackOk s wm cm = false) := hok2
    clear hok hok2
    go_enter Try.func24, Try.ntmps24
    go_wp2_with (go_at_call 36; refine (H _).mono ?_; rintro e w' ⟨rfl, rfl⟩)
    generalize ((w.alloc (.cells #[.int .i64 (wm : Int)] 3)).alloc (.cells #[.int .i64 (cm : Int)] 3)) = W2 at *
    refine (readWholeI_any s wm cm w.heap.size (w.heap.size + 1) W2 hm h4 h3 C0.out C1.out (by have := HSZ.out; omega) (by have := HSZ.out; omega)).mono ?_
    rintro e w' ⟨hbel, ⟨v, rfl, hown, hno⟩ | ⟨rfl, _⟩⟩
    · rw [HOK.out] at hno; cases hno
    go_wp2
    go_ret2
    have hsz := HSZ.out
    exact ⟨_, rfl, World.ownsRow_nil _ _ _ _, fun _ => rfl, hB.trans (hbel.mono (by omega))⟩
end Go.Proofs.Ytjidbonhhpkljaa.Pk

/- The statement's book of lists of numbers that came out: what stays true of it while lists are written over and grow. -/
set_option linter.unusedVariables false
namespace Go.Proofs.Ytjidbonhhpkljaa.Pk
open Go.RowKit Go.Proofs.Ytjidbonhhpkljaa.Pm

theorem Try.infoOut : (Try.prog.info? 121).map (fun i => (i.zero, i.size, i.bytes)) = some (some (.agg #[.slice none 0 0, .int .i64 0]), 2, 32) := by kernel_rfl

/-- A list of numbers that reads as its mark says. -/
def Filled (w : World) (v : Value) (m : Int) : Prop :=
  ∃ ao n cap, v = .slice ao n cap ∧ n ≤ 1000 ∧ (0 < n → ∃ g cur, ao = some ⟨g, 0, none⟩ ∧ w.heap[g]? = some (.cells cur 3 (0, 0)) ∧ ∀ j, j < n → cur[j]? = some (.int .i64 (-1 - m)))

/-- The cells of the book's entries. -/
def ecells (es : List (Value × Int)) : List Value := es.flatMap fun e => [e.1, .int .i64 e.2]

theorem ecells_snoc (es : List (Value × Int)) (e : Value × Int) : ecells es ++ [e.1, .int .i64 e.2] = ecells (es ++ [e]) := by simp [ecells]
theorem ecells_length (es : List (Value × Int)) : (ecells es).length = es.length * 2 := by
  induction es with
  | nil => rfl
  | cons e r ih => simp only [ecells, List.flatMap_cons, List.length_append, List.length_cons, List.length_nil] at *; omega
theorem ecells_get (es : List (Value × Int)) (i : Nat) (h : i < es.length) : (ecells es)[2 * i]? = some es[i].1 ∧ (ecells es)[2 * i + 1]? = some (.int .i64 es[i].2) := by
  induction es generalizing i with
  | nil => simp at h
  | cons e r ih =>
    cases i with
    | zero => simp [ecells]
    | succ k =>
      have := ih k (by simpa using h)
      simp only [ecells, List.flatMap_cons, List.getElem_cons_succ] at *
      rw [List.getElem?_append_right (by simp; omega), List.getElem?_append_right (by simp; omega)]
      simp only [List.length_cons, List.length_nil]
      rw [show 2 * (k + 1) - (0 + 1 + 1) = 2 * k by omega, show 2 * (k + 1) + 1 - (0 + 1 + 1) = 2 * k + 1 by omega]
      exact this

/-- The book, with its entries. -/
structure BkInv (w : World) (base B : Nat) (iv : Value) (es : List (Value × Int)) : Prop where
  blk : w.heap[B]? = some (.cells #[iv, .slice none 0 0, .slice none 0 0, .slice none 0 0] 70 (0, 0))
  own : w.ownsRow base 121 2 iv es.length (ecells es)
  full : ∀ e ∈ es, Filled w e.1 e.2

theorem blk_ne {w : World} {a b : Nat} {c1 c2 : Array Value} {e1 e2 : TypeId} {f1 f2 : Nat × Nat} (h1 : w.heap[a]? = some (.cells c1 e1 f1)) (h2 : w.heap[b]? = some (.cells c2 e2 f2)) (hne : e1 ≠ e2) : a ≠ b := by
  intro h
  subst h
  rw [h1] at h2
  simp at h2
  exact hne h2.2.1

theorem Filled.other {w w' : World} {v : Value} {m : Int} {row : Option Nat} (h : Filled w v m) (hg : w.grownBy w' row)
    (hne : ∀ g cur, v.ownBlock = some g → w.heap[g]? = some (.cells cur 3 (0, 0)) → row ≠ some g) : Filled w' v m := by
  obtain ⟨ao, n, cap, rfl, hn, hf⟩ := h
  refine ⟨ao, n, cap, rfl, hn, fun h0 => ?_⟩
  obtain ⟨g, cur, rfl, hb, hc⟩ := hf h0
  exact ⟨g, cur, rfl, by rw [hg.block g (lt_of_block hb) (fun h => hne g cur rfl hb h.symm)]; exact hb, hc⟩

/-- The block of an owned row bears its elements' type. -/
theorem owns_blk {w : World} {base : Nat} {e : TypeId} {size : Nat} {v : Value} {n : Nat} {xs : List Value} (h : w.ownsRow base e size v n xs) {g : Nat} (hg : v.ownBlock = some g) :
    ∃ cur, w.heap[g]? = some (.cells cur e (0, 0)) := by
  rcases h.2 with ⟨rfl, _⟩ | ⟨g', cap, cur, rfl, _, h3, _⟩
  · simp [Value.ownBlock] at hg
  · simp [Value.ownBlock] at hg
    subst hg
    exact ⟨cur, h3⟩

theorem BkInv.other {w w' : World} {base B : Nat} {iv : Value} {es : List (Value × Int)} {row : Option Nat} (h : BkInv w base B iv es) (hg : w.grownBy w' row)
    (h3 : ∀ g, row = some g → (∃ cur, w.heap[g]? = some (.cells cur 3 (0, 0))) ∧ ∀ e ∈ es, ∀ ao n cap, e.1 = .slice ao n cap → 0 < n → e.1.ownBlock ≠ some g) : BkInv w' base B iv es := by
  refine ⟨?_, ?_, ?_⟩
  · rw [hg.block B (lt_of_block h.blk) (fun hr => ?_)]
    · exact h.blk
    · obtain ⟨⟨cur, hc⟩, _⟩ := h3 B hr.symm
      exact blk_ne hc h.blk (by decide) rfl
  · refine h.own.kept hg ?_
    by_cases hi : iv.ownBlock = none
    · exact .inl hi
    · refine .inr fun hr => ?_
      obtain ⟨g, hgi⟩ := Option.ne_none_iff_exists'.1 hi
      obtain ⟨cur, hc⟩ := owns_blk h.own hgi
      obtain ⟨⟨cur2, hc2⟩, _⟩ := h3 g (by rw [← hr, hgi])
      exact blk_ne hc hc2 (by decide) rfl
  · intro e he
    obtain ⟨ao, n, cap, h1, hn, hf⟩ := h.full e he
    rw [h1]
    refine ⟨ao, n, cap, rfl, hn, fun h0 => ?_⟩
    obtain ⟨g, cur, rfl, hb, hc⟩ := hf h0
    refine ⟨g, cur, rfl, ?_, hc⟩
    rw [hg.block g (lt_of_block hb) (fun hr => ?_)]
    · exact hb
    · exact (h3 g hr.symm).2 e he _ _ _ h1 h0 (by rw [h1]; rfl)

/-- An entry more: behind 'append' on the book's row and the store. -/
theorem BkInv.push {w w1 : World} {base B : Nat} {iv iv' v : Value} {k : Int} {es : List (Value × Int)} {n : Nat} {xs : List Value} (o : Obj) (h : BkInv w base B iv es) (hv : Filled w v k)
    (hl : w.ownsRow base 3 1 v n xs) (hB : base ≤ B) (hown : w1.ownsRow base 121 2 iv' (es.length + 1) (ecells es ++ [v, .int .i64 k])) (hg : (w.alloc o).grownBy w1 iv.ownBlock) :
    BkInv (w1.setCell ⟨B, 0, none⟩ iv') base B iv' (es ++ [(v, k)]) ∧ (w1.setCell ⟨B, 0, none⟩ iv').ownsRow base 3 1 v n xs := by
  have ha : w.grownBy (w.alloc o) none := World.grownBy_alloc w o none
  have hne : ∀ (b : Nat) (c : Array Value) (t : TypeId), w.heap[b]? = some (.cells c t (0, 0)) → t ≠ 121 → w1.heap[b]? = w.heap[b]? := by
    intro b c t hb ht
    rw [hg.block b (by have := lt_of_block hb; simp; omega) (fun hr => ?_), ha.block b (lt_of_block hb) (by simp)]
    obtain ⟨cur, hc⟩ := owns_blk h.own hr.symm
    exact blk_ne hb hc ht rfl
  have hB1 := hne B _ _ h.blk (by decide)
  rw [h.blk] at hB1
  have hB2 := heap_setCell_same w1 B 0 _ _ iv' hB1
  have hne2 : ∀ (b : Nat) (c : Array Value) (t : TypeId), w.heap[b]? = some (.cells c t (0, 0)) → t ≠ 121 → t ≠ 70 → (w1.setCell ⟨B, 0, none⟩ iv').heap[b]? = w.heap[b]? := by
    intro b c t hb ht ht2
    rw [heap_setCell_other w1 ⟨B, 0, none⟩ b iv' (fun hr => ?_), hne b c t hb ht]
    exact blk_ne hb h.blk ht2 hr
  have hfil : ∀ u m, Filled w u m → Filled (w1.setCell ⟨B, 0, none⟩ iv') u m := by
    rintro u m ⟨ao, n', cap, rfl, hn, hf⟩
    refine ⟨ao, n', cap, rfl, hn, fun h0 => ?_⟩
    obtain ⟨g, cur, rfl, hb, hc⟩ := hf h0
    exact ⟨g, cur, rfl, by rw [hne2 g _ _ hb (by decide) (by decide)]; exact hb, hc⟩
  refine ⟨⟨?_, ?_, ?_⟩, ?_⟩
  · rw [hB2]; rfl
  · rw [List.length_append, List.length_singleton, ← ecells_snoc]
    refine ownsRow_setCell_other hown (fun hr => ?_) _
    obtain ⟨cur, hc⟩ := owns_blk hown hr
    exact blk_ne hc hB1 (by decide) rfl
  · intro e he
    rcases List.mem_append.1 he with h1 | h1
    · exact hfil _ _ (h.full e h1)
    · simp at h1
      subst h1
      exact hfil _ _ hv
  · refine ⟨hl.1, ?_⟩
    rcases hl.2 with h1 | ⟨g, cap, cur, h1, h2, h3, h4⟩
    · exact .inl h1
    · exact .inr ⟨g, cap, cur, h1, h2, by rw [hne2 g _ _ h3 (by decide) (by decide)]; exact h3, h4⟩

theorem Filled.mk {w : World} {base : Nat} {v : Value} {n : Nat} {x : Int} (h : w.ownsRow base 3 1 v n (icells (List.replicate n (-1 - x)))) (hn : n ≤ 1000) : Filled w v x := by
  rcases h.2 with ⟨rfl, rfl⟩ | ⟨g, cap, cur, rfl, _, h3, _, _, _, h7⟩
  · exact ⟨none, 0, 0, rfl, by omega, by omega⟩
  · refine ⟨_, n, cap, rfl, hn, fun h0 => ⟨g, cur, rfl, h3, fun j hj => ?_⟩⟩
    have := congrArg (fun l => l[j]?) h7
    simp only [Nat.mul_one] at this
    rw [List.getElem?_take, if_pos hj, icells_get _ _ (by simpa using hj)] at this
    simpa using this

/-- Of the entries those that stand in the row of v are no longer than n, and bear the mark k. -/
def Shares (v : Value) (n : Nat) (k : Int) (es : List (Value × Int)) : Prop := ∀ e ∈ es, ∀ g n' cap', e.1 = .slice (some ⟨g, 0, none⟩) n' cap' → 0 < n' → v.ownBlock = some g → e.2 = k ∧ n' ≤ n

/-- The list grows by one more mark. -/
theorem BkInv.grow {w w1 : World} {base B : Nat} {iv v v' : Value} {k : Int} {es : List (Value × Int)} {n : Nat} (o : Obj) (h : BkInv w base B iv es) (hs : Shares v n k es)
    (hl : w.ownsRow base 3 1 v n (icells (List.replicate n (-1 - k)))) (hown : w1.ownsRow base 3 1 v' (n + 1) (icells (List.replicate (n + 1) (-1 - k))))
    (hg : ((w.alloc o).grownBy w1 none ∧ w1.ownsRow (w.alloc o).heap.size 3 1 v' (n + 1) (icells (List.replicate (n + 1) (-1 - k)))) ∨ (v'.ownBlock = v.ownBlock ∧ (w.alloc o).grownBy w1 v.ownBlock)) :
    BkInv w1 base B iv es ∧ Shares v' (n + 1) k es := by
  have ha := h.other (World.grownBy_alloc w o none) (fun g hg => by cases hg)
  rcases hg with ⟨hg, hnew⟩ | ⟨hv, hg⟩
  · refine ⟨ha.other hg (fun g hg => by cases hg), ?_⟩
    intro e he g n' cap' h1 h0 hvg
    exfalso
    obtain ⟨ao, n2, cap2, h2, _, hf⟩ := ha.full e he
    rw [h1] at h2
    simp only [Value.slice.injEq] at h2
    obtain ⟨rfl, rfl, rfl⟩ := h2
    obtain ⟨g2, cur, hg2, hb, _⟩ := hf h0
    simp only [Option.some.injEq, Addr.mk.injEq, and_true] at hg2
    subst hg2
    have := lt_of_block hb
    have := (hnew.lt g hvg).1
    omega
  · rcases hown.2 with ⟨_, h0⟩ | ⟨g0, cap0, cur0, rfl, _, hb0, _, _, _, ht0⟩
    · omega
    have hv0 : v.ownBlock = some g0 := by rw [← hv]; rfl
    rw [hv0] at hg
    obtain ⟨curA, hcA⟩ := owns_blk (hl.alloc o) hv0
    have hcell : ∀ j, j < n + 1 → cur0[j]? = some (.int .i64 (-1 - k)) := by
      intro j hj
      have := congrArg (fun l => l[j]?) ht0
      simp only [Nat.mul_one] at this
      rw [List.getElem?_take, if_pos hj, icells_get _ _ (by simpa using hj)] at this
      simpa using this
    refine ⟨⟨?_, ?_, ?_⟩, ?_⟩
    · rw [hg.block B (lt_of_block ha.blk) (fun hr => ?_)]
      · exact ha.blk
      · simp at hr
        subst hr
        exact blk_ne hcA ha.blk (by decide) rfl
    · refine ha.own.kept hg ?_
      by_cases hi : iv.ownBlock = none
      · exact .inl hi
      · refine .inr fun hr => ?_
        obtain ⟨cur, hc⟩ := owns_blk ha.own hr
        exact blk_ne hc hcA (by decide) rfl
    · intro e he
      obtain ⟨ao, n2, cap2, h2, hn2, hf⟩ := ha.full e he
      rw [h2]
      refine ⟨ao, n2, cap2, rfl, hn2, fun hp => ?_⟩
      obtain ⟨g, cur, rfl, hb, hc⟩ := hf hp
      by_cases hgg : g = g0
      · subst hgg
        obtain ⟨hm, hle⟩ := hs e he g n2 cap2 h2 hp hv0
        exact ⟨g, cur0, rfl, hb0, fun j hj => by rw [hm]; exact hcell j (by omega)⟩
      · exact ⟨g, cur, rfl, by rw [hg.block g (lt_of_block hb) (by simp; exact hgg)]; exact hb, hc⟩
    · intro e he g n' cap' h1 hp hvg
      obtain ⟨hm, hle⟩ := hs e he g n' cap' h1 hp (by rw [hv0]; exact hvg)
      exact ⟨hm, by omega⟩
end Go.Proofs.Ytjidbonhhpkljaa.Pk

/- The contract of the book's ownInts: a list is written full of its mark, three more are put behind it, and all four stand in the book. -/
set_option linter.unusedVariables false
namespace Go.Proofs.Ytjidbonhhpkljaa.Pk
open Go.RowKit Go.Proofs.Ytjidbonhhpkljaa.Pm

theorem owns_slice {w : World} {base : Nat} {e : TypeId} {size : Nat} {v : Value} {n : Nat} {xs : List Value} (h : w.ownsRow base e size v n xs) : ∃ ao cap, v = .slice ao n cap := by
  rcases h.2 with ⟨h1, h2⟩ | ⟨g, cap, cur, h1, _⟩
  · exact ⟨none, 0, by rw [h1, h2]⟩
  · exact ⟨_, cap, h1⟩

theorem BkInv.cells {w : World} {base B : Nat} {iv : Value} {es : List (Value × Int)} (h : BkInv w base B iv es) : w.cell? ⟨B, 0, none⟩ = some iv ∧ w.frozen? ⟨B, 0, none⟩ = false := by
  have := h.blk
  exact ⟨by simp [World.cell?, this], by simp [World.frozen?, this]⟩

theorem BkInv.cells1 {w w1 : World} {base B : Nat} {iv : Value} {es : List (Value × Int)} (o : Obj) (h : BkInv w base B iv es) (hg : (w.alloc o).grownBy w1 iv.ownBlock) : w1.cell? ⟨B, 0, none⟩ = some iv ∧ w1.frozen? ⟨B, 0, none⟩ = false := by
  have hb : w1.heap[B]? = some (.cells #[iv, .slice none 0 0, .slice none 0 0, .slice none 0 0] 70 (0, 0)) := by
    rw [hg.block B (by have := lt_of_block h.blk; simp; omega) (fun hr => ?_), (World.grownBy_alloc w o none).block B (lt_of_block h.blk) (by simp)]
    · exact h.blk
    · obtain ⟨cur, hc⟩ := owns_blk h.own hr.symm
      exact blk_ne h.blk hc (by decide) rfl
  exact ⟨by simp [World.cell?, hb], by simp [World.frozen?, hb]⟩

/-- A store into the list. -/
theorem BkInv.store {w : World} {base B : Nat} {iv : Value} {es : List (Value × Int)} {g n cap : Nat} {zs : List Int} (h : BkInv w base B iv es) (hown : w.ownsRow base 3 1 (.slice (some ⟨g, 0, none⟩) n cap) n (icells zs))
    (hsh : ∀ e ∈ es, ∀ g' n' cap', e.1 = .slice (some ⟨g', 0, none⟩) n' cap' → 0 < n' → g ≠ g') (j : Nat) (x : Int) :
    BkInv (w.setCell ⟨g, j, none⟩ (.int .i64 x)) base B iv es ∧ (w.setCell ⟨g, j, none⟩ (.int .i64 x)).ownsRow base 3 1 (.slice (some ⟨g, 0, none⟩) n cap) n (icells (zs.set j x)) := by
  obtain ⟨o1, o2⟩ := hown.stored j (.int .i64 x)
  refine ⟨h.other o2 ?_, ?_⟩
  · intro g' hg'
    simp at hg'
    subst hg'
    refine ⟨owns_blk hown rfl, ?_⟩
    intro e he ao n' cap' h1 h0 hob
    rw [h1] at hob
    cases ao with
    | none => simp [Value.ownBlock] at hob
    | some a =>
      obtain ⟨ao2, n2, cap2, h2, _, hf⟩ := h.full e he
      rw [h1] at h2
      simp only [Value.slice.injEq] at h2
      obtain ⟨rfl, rfl, rfl⟩ := h2
      obtain ⟨g2, cur, hg2, _⟩ := hf h0
      simp only [Option.some.injEq] at hg2
      subst hg2
      simp [Value.ownBlock] at hob
      exact hsh e he g2 n' cap' h1 h0 hob.symm
  · have : (icells zs).set j (.int .i64 x) = icells (zs.set j x) := by simp [icells, List.map_set]
    rw [← this]
    exact o1

theorem owns_addr {w : World} {base : Nat} {e : TypeId} {size : Nat} {ao : Option Addr} {n cap : Nat} {xs : List Value} (h : w.ownsRow base e size (.slice ao n cap) n xs) (hn : 0 < n) : ∃ g, ao = some ⟨g, 0, none⟩ := by
  rcases h.2 with ⟨h1, h2⟩ | ⟨g, cap, cur, h1, _⟩
  · omega
  · simp only [Value.slice.injEq] at h1
    exact ⟨g, h1.1⟩

theorem pair_at (w : World) (a b : Value) (t : TypeId) : ∀ (j : Nat) (u : Value), [a, b][j]? = some u → (w.alloc (.cells #[a, b] t)).cell? ((⟨w.heap.size, 0, none⟩ : Addr).add j) = some u := by
  intro j u hj
  match j, hj with
  | 0, hj => simp at hj; subst hj; simp [Addr.add]
  | 1, hj => simp at hj; subst hj; simp [Addr.add]
theorem pair_one (ao : Option Addr) (n cap : Nat) (k : Int) : ∀ u ∈ [Value.slice ao n cap, .int .i64 k], u.oneCell' = true := by
  intro u hu
  simp at hu
  rcases hu with rfl | rfl
  · rfl
  · rfl

theorem one_at (w : World) (a : Value) (t : TypeId) : ∀ (j : Nat) (u : Value), [a][j]? = some u → (w.alloc (.cells #[a] t)).cell? ((⟨w.heap.size, 0, none⟩ : Addr).add j) = some u := by
  intro j u hj
  match j, hj with
  | 0, hj => simp at hj; subst hj; simp [Addr.add]
theorem one_one (x : Int) : ∀ u ∈ [Value.int .i64 x], u.oneCell' = true := by
  intro u hu
  simp at hu
  subst hu
  rfl
theorem fill_snoc (n : Nat) (x : Int) : icells (List.replicate n x) ++ [.int .i64 x] = icells (List.replicate (n + 1) x) := by rw [icells_snoc, List.replicate_succ']

theorem marks_snoc {es : List (Value × Int)} {v : Value} {k : Int} (h : ∀ e ∈ es, e.2 = k) : ∀ e ∈ es ++ [(v, k)], e.2 = k := by
  intro e he
  rcases List.mem_append.1 he with h1 | h1
  · exact h e h1
  · simp at h1
    subst h1
    rfl

/-- Lists of numbers that lie in other rows stay. -/
def KeepInts (v : Value) (w w' : World) : Prop := ∀ (g : Nat) (cur : Array Value), w.heap[g]? = some (.cells cur 3 (0, 0)) → v.ownBlock ≠ some g → w'.heap[g]? = some (.cells cur 3 (0, 0))

theorem KeepInts.step {v : Value} {w wr w1 : World} {row : Option Nat} (h : KeepInts v w wr) (hg : wr.grownBy w1 row)
    (hne : ∀ (g : Nat) (cur : Array Value), row = some g → wr.heap[g]? = some (.cells cur 3 (0, 0)) → v.ownBlock = some g ∨ w.heap.size ≤ g) : KeepInts v w w1 := by
  intro g cur hb hv
  have h1 := h g cur hb hv
  rw [hg.block g (lt_of_block h1) (fun hr => ?_)]
  · exact h1
  · rcases hne g cur hr.symm h1 with h2 | h2
    · exact hv h2
    · have := lt_of_block hb
      omega

theorem KeepInts.push {v : Value} {w wr w1 : World} {base B : Nat} {iv : Value} {es : List (Value × Int)} {o : Obj} (h : KeepInts v w wr) (hI : BkInv wr base B iv es) (hg : (wr.alloc o).grownBy w1 iv.ownBlock) (u : Value) :
    KeepInts v w (w1.setCell ⟨B, 0, none⟩ u) := by
  have ha := h.step (World.grownBy_alloc wr o none) (fun g _ hg _ => by cases hg)
  have hIa := hI.other (World.grownBy_alloc wr o none) (fun g hg => by cases hg)
  intro g cur hb hv
  have h1 := ha g cur hb hv
  rw [heap_setCell_other w1 ⟨B, 0, none⟩ g u (fun hr => ?_), hg.block g (lt_of_block h1) (fun hr => ?_)]
  · exact h1
  · obtain ⟨c2, h2⟩ := owns_blk hIa.own hr.symm
    exact blk_ne h1 h2 (by decide) rfl
  · exact blk_ne h1 hIa.blk (by decide) hr

theorem fill_step (zs : List Int) (x : Int) (t : Nat) (h : t < zs.length) : (List.replicate t x ++ zs.drop t).set t x = List.replicate (t + 1) x ++ zs.drop (t + 1) := by
  rw [List.set_append_right _ _ (by simp), List.length_replicate, Nat.sub_self, List.drop_eq_getElem_cons h, List.set_cons_zero, List.replicate_succ' (n := t)]
  simp

set_option maxRecDepth 100000 in
set_option maxHeartbeats 2000000 in
theorem ownInts_any (B base : Nat) (v iv : Value) (zs : List Int) (es : List (Value × Int)) (w : World) (hl : zs.length ≤ 100) (hk : es.length ≤ 10) (h : BkInv w base B iv es)
    (hown : w.ownsRow base 3 1 v zs.length (icells zs)) (hB : base ≤ B) (hsh : ∀ e ∈ es, ∀ g' n' cap', e.1 = .slice (some ⟨g', 0, none⟩) n' cap' → 0 < n' → v.ownBlock ≠ some g') :
    Calls Try.prog 39 #[.pointer (some ⟨B, 0, none⟩), v] w fun e w' => e = .returned (.tuple #[]) ∧ ∃ iv' es', es'.length = 4 ∧ BkInv w' base B iv' (es ++ es') ∧ (∀ e ∈ es', e.2 = (es.length : Int)) ∧
      (∀ e ∈ es', ∀ g, e.1.ownBlock = some g → v.ownBlock = some g ∨ w.heap.size ≤ g) ∧ KeepInts v w w' ∧ Below base w w' := by
  obtain ⟨i0, hi, hz0, hz1, hz2⟩ := info_parts Try.info3
  obtain ⟨i1, hj, hy0, hy1, hy2⟩ := info_parts Try.infoOut
  have hbs : base ≤ w.heap.size := by have := lt_of_block h.blk; omega
  obtain ⟨ao, cap, rfl⟩ := owns_slice hown
  obtain ⟨io, icap, rfl⟩ := owns_slice h.own
  obtain ⟨cB, fB⟩ := h.cells
  have HI : Hid (BkInv w base B (.slice io es.length icap) es) := h
  clear h
  go_enter Try.func39, Try.ntmps39
  go_wp2_with fail
  clear cB fB
  go_loopw [5] (fun i wr => ∃ t : Nat, t ≤ zs.length ∧ i = .int .i64 t ∧ wr.ownsRow base 3 1 (.slice ao zs.length cap) zs.length (icells (List.replicate t (-1 - (es.length : Int)) ++ zs.drop t)) ∧ BkInv wr base B (.slice io es.length icap) es ∧ KeepInts (.slice ao zs.length cap) w wr ∧ Below base w wr ∧ w.heap.size ≤ wr.heap.size) (fun i _ => zs.length - (intOf i).toNat)
  case atStart => exact ⟨0, Nat.zero_le _, rfl, by simpa using hown, HI.out, fun g cur hg _ => hg, Below.refl _ _, Nat.le_refl _⟩
  case round =>
    clear HI hown
    obtain ⟨t, ht, rfl, hown, hI, hkp, hbel, hsz⟩ := hrel
    have HK : Hid (KeepInts (.slice ao zs.length cap) w wr) := hkp
    clear hkp
    have HI : Hid (BkInv wr base B (.slice io es.length icap) es) := hI
    clear hI
    by_cases hlt : t < zs.length
    · obtain ⟨g, rfl⟩ := owns_addr hown (by omega)
      have hce := hown.cellAt t (by omega)
      rw [icells_get _ _ (by simp; omega)] at hce
      obtain ⟨q, hce⟩ : ∃ q, wr.cell? ⟨g, t, none⟩ = some q := ⟨_, hce⟩
      have hfr := hown.frozenAt t
      obtain ⟨s1, s2⟩ := HI.out.store hown (fun e he g' n' cap' h1 h0 hg => hsh e he g' n' cap' h1 h0 (by rw [← hg]; rfl)) t (-1 - (es.length : Int))
      rw [fill_step zs _ t hlt] at s2
      have HK1 : Hid _ := HK.out.step ((hown.stored t (.int .i64 (-1 - (es.length : Int)))).2) (fun g' _ hg' _ => .inl (by simp at hg'; subst hg'; rfl))
      have HS1 : Hid _ := s1
      have HS2 : Hid _ := s2
      have hbg : base ≤ g := (hown.lt g rfl).1
      clear s1 s2 hown
      go_wp2
      go_roundw
      case rel => exact ⟨t + 1, by omega, by go_num, HS2.out, HS1.out, HK1.out, hbel.setCell hbg _, by simpa using hsz⟩
      case measure => simp [intOf]; omega
    · have htl : t = zs.length := by omega
      subst htl
      rw [List.drop_of_length_le (Nat.le_refl _), List.append_nil] at hown
      obtain ⟨cB, fB⟩ := HI.out.cells
      go_wp2_with (at_builtin; refine wpList_append_own _ rfl _ _ 65 rfl base 121 i1 (.agg #[.slice none 0 0, .int .i64 0]) 2 32 Try.underlying65 hj hy0 hy1 hy2 rfl (by decide) _ _ _ rfl (HI.out.own.alloc _) ⟨wr.heap.size, 0, none⟩ 1 1 [.slice ao zs.length cap, .int .i64 (es.length : Int)] rfl rfl (pair_at _ _ _ _) (pair_one _ _ _ _) (by unfold maxLen; omega) (by omega) (by simp; omega) ?_; intro iv1 w1 hown1 hgrow1 _; obtain ⟨cB1, fB1⟩ := HI.out.cells1 _ hgrow1; obtain ⟨io1, icap1, rfl⟩ := owns_slice hown1)
      obtain ⟨p1, p2⟩ := HI.out.push _ (Filled.mk hown (by omega)) hown hB hown1 hgrow1
      have hbel1 : Below base w (w1.setCell ⟨B, 0, none⟩ (.slice io1 (es.length + 1) icap1)) := ((hbel.alloc (by omega) _).grown hgrow1 (by simp; omega) (fun j hj => (HI.out.own.lt j hj).1)).setCell hB _
      have hsz1 : w.heap.size ≤ (w1.setCell ⟨B, 0, none⟩ (.slice io1 (es.length + 1) icap1)).heap.size := by have := hgrow1.size; simp at this ⊢; omega
      have HK1 : Hid _ := HK.out.push (o := .cells #[.slice ao zs.length cap, .int .i64 (es.length : Int)] 121) HI.out hgrow1 (.slice io1 (es.length + 1) icap1)
      have HP1 : Hid _ := p1
      have HP2 : Hid _ := p2
      clear p1 p2 hown1 hgrow1 hown HI HK hbel cB fB cB1 fB1 hsz
      go_loopw [1, 6] (fun lv i wr => ∃ (t n : Nat) (iv : Value) (es' : List (Value × Int)), t ≤ 3 ∧ i = .int .i64 t ∧ n ≤ 100 + t ∧ es'.length = t + 1 ∧ (∀ e ∈ es', e.2 = (es.length : Int)) ∧ BkInv wr base B iv (es ++ es') ∧ wr.ownsRow base 3 1 lv n (icells (List.replicate n (-1 - (es.length : Int)))) ∧
          Shares lv n (es.length : Int) (es ++ es') ∧ (∀ e ∈ es', ∀ g, e.1.ownBlock = some g → (Value.slice ao zs.length cap).ownBlock = some g ∨ w.heap.size ≤ g) ∧ (∀ g, lv.ownBlock = some g → (Value.slice ao zs.length cap).ownBlock = some g ∨ w.heap.size ≤ g) ∧ KeepInts (.slice ao zs.length cap) w wr ∧ Below base w wr ∧ w.heap.size ≤ wr.heap.size) (fun _ i _ => 3 - (intOf i).toNat)
      case atStart =>
        refine ⟨0, zs.length, _, [(.slice ao zs.length cap, (es.length : Int))], by omega, rfl, by omega, rfl, by simp, HP1.out, HP2.out, ?_, ?_, fun g hg => .inl hg, HK1.out, hbel1, hsz1⟩
        · intro e he g n' cap' h1 h0 hvg
          rcases List.mem_append.1 he with h2 | h2
          · exact absurd hvg (hsh e h2 g n' cap' h1 h0)
          · simp at h2
            subst h2
            simp only [Value.slice.injEq] at h1
            exact ⟨rfl, by omega⟩
        · intro e he g hg
          simp at he
          subst he
          exact .inl hg
      case round =>
        clear HP1 HP2 hbel1 hsz1 HK1
        clear w1
        obtain ⟨t, n, iv, es', ht, rfl, hn, hel, hmk, hI, hown, hshr, hblk, hlvb, hkp, hbel, hsz⟩ := hrel
        have HK : Hid (KeepInts (.slice ao zs.length cap) w wr) := hkp
        clear hkp
        have HI : Hid (BkInv wr base B iv (es ++ es')) := hI
        have HEL : Hid (es'.length = t + 1) := hel
        have HMK : Hid (∀ e ∈ es', e.2 = (es.length : Int)) := hmk
        clear hI hel hmk
        have hne : (es ++ es').length ≤ 14 := by rw [List.length_append, HEL.out]; omega
        generalize hfs : es ++ es' = fs at *
        have HFS : Hid (es ++ es' = fs) := hfs
        clear hfs
        obtain ⟨io, icap, rfl⟩ := owns_slice HI.out.own
        by_cases h3 : t < 3
        · obtain ⟨lo, lcap, rfl⟩ := owns_slice hown
          go_wp2_with (first
            | (at_builtin; refine wpList_append_keep _ rfl (.tmp 39) (.tmp 42) 22 rfl base 3 i0 (.int .i64 0) 1 8 Try.underlying22 hi hz0 hz1 hz2 rfl (by decide) _ n _ rfl (hown.alloc _) ⟨wr.heap.size, 0, none⟩ 1 1 [.int .i64 (-1 - (es.length : Int))] rfl (by decide) rfl (one_at _ _ _) (one_one _) (by unfold maxLen; omega) (by omega) (by simp; omega) ?_; intro lv1 w1 hown1 hgr1; rw [fill_snoc] at hown1 hgr1; obtain ⟨hI1, hshr1⟩ := HI.out.grow _ hshr hown hown1 hgr1; have HI1 : Hid _ := hI1; obtain ⟨cB, fB⟩ := hI1.cells; obtain ⟨lo1, lcap1, rfl⟩ := owns_slice hown1; clear hI1)
            | (at_builtin; refine wpList_append_own _ rfl (.tmp 48) (.tmp 52) 65 rfl base 121 i1 (.agg #[.slice none 0 0, .int .i64 0]) 2 32 Try.underlying65 hj hy0 hy1 hy2 rfl (by decide) _ _ _ rfl (HI1.out.own.alloc _) ⟨w1.heap.size, 0, none⟩ 1 1 [.slice lo1 (n + 1) lcap1, .int .i64 (es.length : Int)] rfl rfl (pair_at _ _ _ _) (pair_one _ _ _ _) (by unfold maxLen; omega) (by omega) (by have := lt_of_block HI1.out.blk; simp; omega) ?_; intro iv2 w2 hown2 hgrow2 _; obtain ⟨cB2, fB2⟩ := HI1.out.cells1 _ hgrow2; obtain ⟨io2, icap2, rfl⟩ := owns_slice hown2))
          obtain ⟨q1, q2⟩ := HI1.out.push _ (Filled.mk hown1 (by omega)) hown1 hB hown2 hgrow2
          have hw1 : Below base w w1 ∧ wr.heap.size ≤ w1.heap.size := by
            rcases hgr1 with ⟨g1, _⟩ | ⟨_, g1⟩
            · exact ⟨(hbel.alloc (by omega) _).grown g1 (by simp; omega) (by simp), by have := g1.size; simp at this; omega⟩
            · exact ⟨(hbel.alloc (by omega) _).grown g1 (by simp; omega) (fun j hj => (hown.lt j hj).1), by have := g1.size; simp at this; omega⟩
          have hw2 : Below base w w2 := (hw1.1.alloc (by omega) _).grown hgrow2 (by simp; omega) (fun j hj => (HI1.out.own.lt j hj).1)
          have hs2 : w1.heap.size ≤ w2.heap.size := by have := hgrow2.size; simp at this; omega
          have hlv1 : ∀ g, (Value.slice lo1 (n + 1) lcap1).ownBlock = some g → (Value.slice ao zs.length cap).ownBlock = some g ∨ w.heap.size ≤ g := by
            intro g hg
            rcases hgr1 with ⟨_, g2⟩ | ⟨g1, _⟩
            · have := (g2.lt g hg).1
              simp at this
              exact .inr (by omega)
            · exact hlvb g (Eq.trans (Eq.symm g1) hg)
          have hk1 : KeepInts (.slice ao zs.length cap) w w1 := by
            have hka := HK.out.step (World.grownBy_alloc wr (.cells #[.int .i64 (-1 - (es.length : Int))] 3) none) (fun g _ hg _ => by cases hg)
            rcases hgr1 with ⟨g1, _⟩ | ⟨_, g1⟩
            · exact hka.step g1 (fun g _ hg _ => by cases hg)
            · exact hka.step g1 (fun g _ hg _ => hlvb g hg)
          have hk2 := hk1.push (o := .cells #[.slice lo1 (n + 1) lcap1, .int .i64 (es.length : Int)] 121) HI1.out hgrow2 (.slice io2 (fs.length + 1) icap2)
          refine ⟨⟨t + 1, n + 1, _, es' ++ [(.slice lo1 (n + 1) lcap1, (es.length : Int))], by omega, by go_num, by omega, by rw [List.length_append, HEL.out]; rfl, marks_snoc HMK.out, by rw [← List.append_assoc, HFS.out]; exact q1, q2, ?_, ?_, hlv1, hk2, hw2.setCell hB _, by simp; omega⟩, by simp [intOf]; omega⟩
          · rw [← List.append_assoc, HFS.out]
            intro e he g n' cap' h1 h0 hvg
            rcases List.mem_append.1 he with h2 | h2
            · exact hshr1 e h2 g n' cap' h1 h0 hvg
            · simp at h2
              subst h2
              simp only [Value.slice.injEq] at h1
              exact ⟨rfl, by omega⟩
          · intro e he g hg
            rcases List.mem_append.1 he with h2 | h2
            · exact hblk e h2 g hg
            · simp at h2
              subst h2
              exact hlv1 g hg
        · go_wp2
          go_end0
          exact ⟨rfl, _, es', by rw [HEL.out]; omega, by rw [HFS.out]; exact HI.out, HMK.out, hblk, HK.out, hbel⟩
end Go.Proofs.Ytjidbonhhpkljaa.Pk

/- The contract of the book's looks: where only lists of numbers stand in it, and each reads as its mark says, it answers true. -/
set_option linter.unusedVariables false
namespace Go.Proofs.Ytjidbonhhpkljaa.Pk
open Go.RowKit Go.Proofs.Ytjidbonhhpkljaa.Pm

theorem book_cells {w : World} {base B : Nat} {iv : Value} {es : List (Value × Int)} (h : BkInv w base B iv es) :
    w.cell? ⟨B, 0, none⟩ = some iv ∧ w.cell? ⟨B, 1, none⟩ = some (.slice none 0 0) ∧ w.cell? ⟨B, 2, none⟩ = some (.slice none 0 0) ∧ w.cell? ⟨B, 3, none⟩ = some (.slice none 0 0) := by
  have := h.blk
  exact ⟨by simp [World.cell?, this], by simp [World.cell?, this], by simp [World.cell?, this], by simp [World.cell?, this]⟩

set_option maxRecDepth 100000 in
set_option maxHeartbeats 4000000 in
theorem looks_any (B base : Nat) (iv : Value) (es : List (Value × Int)) (w : World) (hk : es.length ≤ 100) (h : BkInv w base B iv es) (hmk : ∀ e ∈ es, 0 ≤ e.2 ∧ e.2 ≤ 100) :
    Calls Try.prog 33 #[.pointer (some ⟨B, 0, none⟩)] w fun e w' => e = .returned (.bool true) ∧ ∃ n, w' = w.drewN n := by
  obtain ⟨io, icap, rfl⟩ := owns_slice h.own
  obtain ⟨c0, c1, c2, c3⟩ := book_cells h
  have HI : Hid (BkInv w base B (.slice io es.length icap) es) := h
  have HMK : Hid (∀ e ∈ es, 0 ≤ e.2 ∧ e.2 ≤ 100) := hmk
  clear h hmk
  go_enter Try.func33, Try.ntmps33
  go_wp2_with fail
  go_loopw [3] (fun i wr => ∃ t : Nat, t ≤ es.length ∧ i = .int .i64 t ∧ ∃ n, wr = w.drewN n) (fun i _ => es.length - (intOf i).toNat)
  case atStart => exact ⟨0, Nat.zero_le _, rfl, 0, rfl⟩
  case round =>
    obtain ⟨t, ht, rfl, n, hwr⟩ := hrel
    have d0 : wr.cell? ⟨B, 0, none⟩ = some (.slice io es.length icap) := by rw [hwr]; exact c0
    have d1 : wr.cell? ⟨B, 1, none⟩ = some (.slice none 0 0) := by rw [hwr]; exact c1
    have d2 : wr.cell? ⟨B, 2, none⟩ = some (.slice none 0 0) := by rw [hwr]; exact c2
    have d3 : wr.cell? ⟨B, 3, none⟩ = some (.slice none 0 0) := by rw [hwr]; exact c3
    have HW : Hid (wr = w.drewN n) := hwr
    clear hwr
    by_cases hlt : t < es.length
    · obtain ⟨gi, rfl⟩ := owns_addr HI.out.own (by omega)
      have hx := ecells_get es t hlt
      have e0 := HI.out.own.cellAt (t * 2) (by omega)
      rw [show t * 2 = 2 * t by omega, hx.1] at e0
      have e1 := HI.out.own.cellAt (t * 2 + 1) (by omega)
      rw [show t * 2 + 1 = 2 * t + 1 by omega, hx.2] at e1
      obtain ⟨ao, n', cap', hv, hn', hf⟩ := HI.out.full es[t] (List.getElem_mem hlt)
      obtain ⟨m0, m1⟩ := HMK.out es[t] (List.getElem_mem hlt)
      rw [hv] at e0
      have HF : Hid (0 < n' → ∃ g cur, ao = some ⟨g, 0, none⟩ ∧ w.heap[g]? = some (.cells cur 3 (0, 0)) ∧ ∀ j, j < n' → cur[j]? = some (.int .i64 (-1 - es[t].2))) := hf
      clear hf hv hx
      generalize es[t].2 = m at *
      have E0 : wr.cell? ⟨gi, t * 2, none⟩ = some (.slice ao n' cap') := by rw [HW.out, show t * 2 = 2 * t by omega]; exact e0
      have E1 : wr.cell? ⟨gi, t * 2 + 1, none⟩ = some (.int .i64 m) := by rw [HW.out, show t * 2 + 1 = 2 * t + 1 by omega]; exact e1
      go_wp2_with fail
      clear E0 E1 d0 d1 d2 d3
      go_loopw [4] (fun i wr => ∃ u : Nat, u ≤ n' ∧ i = .int .i64 u ∧ ∃ n, wr = w.drewN n) (fun i _ => n' - (intOf i).toNat)
      case atStart => exact ⟨0, Nat.zero_le _, rfl, n, HW.out⟩
      case round =>
        clear HW
        obtain ⟨u, hu, rfl, n, hwr⟩ := hrel
        have d0 : wr.cell? ⟨B, 0, none⟩ = some (.slice (some ⟨gi, 0, none⟩) es.length icap) := by rw [hwr]; exact c0
        have E0 : wr.cell? ⟨gi, t * 2, none⟩ = some (.slice ao n' cap') := by rw [hwr, show t * 2 = 2 * t by omega]; exact e0
        have E1 : wr.cell? ⟨gi, t * 2 + 1, none⟩ = some (.int .i64 m) := by rw [hwr, show t * 2 + 1 = 2 * t + 1 by omega]; exact e1
        have HW : Hid (wr = w.drewN n) := hwr
        clear c0 c1 c2 c3 e0 e1
        by_cases hul : u < n'
        · obtain ⟨g, cur, rfl, hb, hc⟩ := HF.out (by omega)
          have E2 : wr.cell? ⟨g, u, none⟩ = some (.int .i64 (-1 - m)) := by
            rw [hwr, show (w.drewN n).cell? ⟨g, u, none⟩ = w.cell? ⟨g, u, none⟩ from rfl, cell_of_row w g u cur 3 (0, 0) hb]
            exact hc u hul
          have hbb : ((-1 - m) != (-1 - m)) = false := by simp
          clear hwr hb hc
          go_wp2_with fail
          go_quiet (fail)
          go_wp2
          go_roundw
          case rel => exact ⟨u + 1, by omega, by go_num, n + nq, by rw [HW.out]; exact World.drewN_drewN _ _ _⟩
          case measure => simp [intOf]; omega
        · clear hwr
          go_wp2
          go_roundw
          case rel => exact ⟨t + 1, by omega, by go_num, n, HW.out⟩
          case measure => simp [intOf]; omega
    · clear c0 c1 c2 c3
      go_wp2_with fail
      refine wp_loop_rounds 1 ?_
      rw [rounds_succ]
      go_wp2_with fail
      refine wp_loop_rounds 1 ?_
      rw [rounds_succ]
      go_wp2_with fail
      refine wp_loop_rounds 1 ?_
      rw [rounds_succ]
      go_wp2
      go_ret
      exact ⟨rfl, n, HW.out⟩
end Go.Proofs.Ytjidbonhhpkljaa.Pk

/- Reading, as plain mathematics: what comes next in bytes, varints, runs; and that nothing else can stand there. -/
set_option linter.unusedVariables false
namespace Go.Proofs.Ytjidbonhhpkljaa.Ec
open Go.RowKit Go.Proofs.Ytjidbonhhpkljaa.Pk Go.Proofs.Ytjidbonhhpkljaa.Pm

/-- At place p these bytes come next. -/
def Starts (B : List Nat) (p : Nat) (xs : List Nat) : Prop := xs <+: B.drop p

theorem starts_nil (B : List Nat) (p : Nat) : Starts B p [] := List.nil_prefix
theorem starts_append {B : List Nat} {p : Nat} {a b : List Nat} : Starts B p (a ++ b) ↔ Starts B p a ∧ Starts B (p + a.length) b := by
  unfold Starts
  constructor
  · rintro ⟨t, ht⟩
    refine ⟨⟨b ++ t, by rw [← ht]; simp⟩, ⟨t, ?_⟩⟩
    rw [← List.drop_drop, ← ht]; simp
  · rintro ⟨⟨t, ht⟩, ⟨t2, ht2⟩⟩
    refine ⟨t2, ?_⟩
    rw [← List.drop_drop, ← ht] at ht2
    simp at ht2
    rw [← ht, List.append_assoc, ht2]
theorem starts_cons {B : List Nat} {p x : Nat} {r : List Nat} : Starts B p (x :: r) ↔ B[p]? = some x ∧ Starts B (p + 1) r := by
  rw [show x :: r = [x] ++ r from rfl, starts_append]
  have : Starts B p [x] ↔ B[p]? = some x := by
    unfold Starts
    rw [← List.head?_drop]
    cases B.drop p with
    | nil => simp
    | cons y t => simp [List.cons_prefix_cons]; exact eq_comm
  rw [this]
  rfl
theorem starts_one {B : List Nat} {p x : Nat} : Starts B p [x] ↔ B[p]? = some x := by
  rw [starts_cons]; simp [starts_nil]
theorem starts_len {B : List Nat} {p : Nat} {xs : List Nat} (h : Starts B p xs) (hp : p ≤ B.length) : p + xs.length ≤ B.length := by
  have := h.length_le
  rw [List.length_drop] at this
  omega
theorem starts_whole {B xs : List Nat} (h : Starts B 0 xs) (hl : ¬ 0 + xs.length < B.length) : xs = B := by
  unfold Starts at h
  rw [List.drop_zero] at h
  exact h.eq_of_length_le (by omega)
theorem starts_of_eq {B xs : List Nat} (h : xs = B) : Starts B 0 xs := by
  subst h
  unfold Starts
  exact List.prefix_refl _
/-- Two pieces of the same length that come next are alike. -/
theorem starts_same {B : List Nat} {p : Nat} {a b : List Nat} (ha : Starts B p a) (hb : Starts B p b) (hl : a.length = b.length) : a = b :=
  (List.prefix_of_prefix_length_le ha hb (by omega)).eq_of_length hl

theorem starts_vint_hi {B : List Nat} {p f c x : Nat} (hc : B[p]? = some c) (h : 128 ≤ c) (hs : Starts B p (vintF (f + 1) x)) : 128 ≤ x ∧ x % 128 + 128 = c ∧ Starts B (p + 1) (vintF f (x / 128)) := by
  by_cases hx : x < 128
  · rw [vintF_small f x hx, starts_one, hc] at hs
    simp at hs; omega
  · rw [vintF_big f x hx, starts_cons, hc] at hs
    simp at hs
    exact ⟨by omega, hs.1.symm, hs.2⟩
theorem starts_vint_lo {B : List Nat} {p f c x : Nat} (hc : B[p]? = some c) (h : c < 128) : Starts B p (vintF (f + 1) x) ↔ x = c := by
  by_cases hx : x < 128
  · rw [vintF_small f x hx, starts_one, hc]
    simp; exact eq_comm
  · rw [vintF_big f x hx, starts_cons, hc]
    simp; omega

/-- A varint of which j bytes were read, all of them high. -/
structure VSt (B : List Nat) (p j acc : Nat) : Prop where
  lt : acc < 128 ^ j
  all : ∀ v, v < 18446744073709551616 → (Starts B p (vint v) ↔ ∃ x, v = acc + 128 ^ j * x ∧ (x ≠ 0 ∨ j = 0) ∧ Starts B (p + j) (vintF (10 - j) x))
  len : ∀ x, (x ≠ 0 ∨ j = 0) → (vint (acc + 128 ^ j * x)).length = j + (vintF (10 - j) x).length

theorem VSt.zero (B : List Nat) (p : Nat) : VSt B p 0 0 :=
  ⟨by simp, fun v _ => ⟨fun h => ⟨v, by simp, .inr rfl, h⟩, fun ⟨x, h1, _, h2⟩ => by simp at h1; subst h1; exact h2⟩, fun x _ => by simp [vint]⟩

theorem VSt.more {B : List Nat} {p j acc c : Nat} (h : VSt B p j acc) (hj : j < 10) (hc : B[p + j]? = some c) (h1 : 128 ≤ c) (h2 : c < 256) : VSt B p (j + 1) (acc + 128 ^ j * (c - 128)) := by
  have hlt := h.lt
  have hf : 10 - j = (10 - (j + 1)) + 1 := by omega
  have hkey : ∀ x, c - 128 + 128 * x = 128 * x + (c - 128) := fun x => by omega
  have hexp : ∀ x, acc + 128 ^ j * (c - 128) + 128 ^ (j + 1) * x = acc + 128 ^ j * (c - 128 + 128 * x) := fun x => by
    rw [Nat.pow_succ, Nat.mul_add, Nat.mul_assoc]; omega
  refine ⟨?_, ?_, ?_⟩
  · have h3 : 128 ^ j * (c - 128) ≤ 128 ^ j * 127 := Nat.mul_le_mul_left _ (by omega)
    rw [Nat.pow_succ]
    omega
  · intro v hv
    rw [h.all v hv]
    constructor
    · rintro ⟨x, h3, h4, h5⟩
      rw [hf] at h5
      obtain ⟨h6, h7, h8⟩ := starts_vint_hi hc h1 h5
      refine ⟨x / 128, ?_, .inl (by omega), by rw [← Nat.add_assoc]; exact h8⟩
      rw [hexp, h3]
      congr 2
      omega
    · rintro ⟨x, h3, h4, h5⟩
      have hx : x ≠ 0 := by rcases h4 with h | h; exact h; omega
      refine ⟨c - 128 + 128 * x, by rw [h3, hexp], .inl (by omega), ?_⟩
      rw [hf, vintF_big _ _ (by omega), starts_cons]
      refine ⟨by rw [hc]; congr 1; omega, ?_⟩
      rw [show (c - 128 + 128 * x) / 128 = x by omega, Nat.add_assoc]
      exact h5
  · intro x hx
    have hx : x ≠ 0 := by rcases hx with h | h; exact h; omega
    rw [hexp, h.len _ (.inl (by omega)), hf, vintF_big _ _ (by omega), show (c - 128 + 128 * x) / 128 = x by omega]
    simp; omega

theorem VSt.fin {B : List Nat} {p j acc c : Nat} (h : VSt B p j acc) (hj : j < 10) (hc : B[p + j]? = some c) (h1 : c < 128) (v : Nat) (hv : v < 18446744073709551616) :
    Starts B p (vint v) ↔ v = acc + 128 ^ j * c ∧ (c ≠ 0 ∨ j = 0) := by
  rw [h.all v hv]
  have hf : 10 - j = (10 - (j + 1)) + 1 := by omega
  constructor
  · rintro ⟨x, h3, h4, h5⟩
    rw [hf, starts_vint_lo hc h1] at h5
    subst h5
    exact ⟨h3, h4⟩
  · rintro ⟨h3, h4⟩
    exact ⟨c, h3, h4, by rw [hf, starts_vint_lo hc h1]⟩
theorem VSt.fin_len {B : List Nat} {p j acc c : Nat} (h : VSt B p j acc) (hj : j < 10) (h1 : c < 128) (hc : c ≠ 0 ∨ j = 0) : (vint (acc + 128 ^ j * c)).length = j + 1 := by
  rw [h.len c hc, show 10 - j = (10 - (j + 1)) + 1 by omega, vintF_small _ _ h1]
  rfl
theorem VSt.none {B : List Nat} {p j acc : Nat} (h : VSt B p j acc) (hj : j < 10) (hp : ¬ p + j < B.length) (v : Nat) (hv : v < 18446744073709551616) : ¬ Starts B p (vint v) := by
  rw [h.all v hv]
  rintro ⟨x, h3, h4, h5⟩
  rw [show 10 - j = (10 - (j + 1)) + 1 by omega] at h5
  have hn : B[p + j]? = Option.none := List.getElem?_eq_none (by omega)
  by_cases hx : x < 128
  · rw [vintF_small _ _ hx, starts_one, hn] at h5; simp at h5
  · rw [vintF_big _ _ hx, starts_cons, hn] at h5; simp at h5
theorem VSt.ten {B : List Nat} {p acc : Nat} (h : VSt B p 10 acc) (v : Nat) (hv : v < 18446744073709551616) : ¬ Starts B p (vint v) := by
  rw [h.all v hv]
  rintro ⟨x, h3, h4, h5⟩
  have : (128 : Nat) ^ 10 = 1180591620717411303424 := by decide
  rw [this] at h3
  omega
theorem VSt.top {B : List Nat} {p j acc c : Nat} (h : VSt B p j acc) (hj : j < 9 ∨ (j = 9 ∧ c ≤ 1)) (hc : c < 128) : acc + 128 ^ j * c < 18446744073709551616 := by
  have hlt := h.lt
  rcases hj with h1 | ⟨rfl, h1⟩
  · have h2 : 128 ^ (j + 1) ≤ 128 ^ 9 := Nat.pow_le_pow_right (by omega) (by omega)
    have h3 : (128 : Nat) ^ 9 = 9223372036854775808 := by decide
    rw [Nat.pow_succ] at h2
    have h4 : 128 ^ j * c ≤ 128 ^ j * 127 := Nat.mul_le_mul_left _ (by omega)
    omega
  · have h3 : (128 : Nat) ^ 9 = 9223372036854775808 := by decide
    rw [h3] at hlt ⊢
    omega
theorem VSt.over {B : List Nat} {p acc c : Nat} (h : 1 < c) : ¬ acc + 128 ^ 9 * c < 18446744073709551616 := by
  have h3 : (128 : Nat) ^ 9 = 9223372036854775808 := by decide
  rw [h3]
  omega

/-- Two numbers whose varints come next are alike. -/
theorem vint_one {B : List Nat} {p a b : Nat} (ha : a < 18446744073709551616) (hb : b < 18446744073709551616) (h1 : Starts B p (vint a)) (h2 : Starts B p (vint b)) : a = b := by
  have key : ∀ f a b p, a < 128 ^ f → b < 128 ^ f → Starts B p (vintF f a) → Starts B p (vintF f b) → a = b := by
    intro f
    induction f with
    | zero => intro a b p h1 h2; simp at h1 h2; omega
    | succ f ih =>
      intro a b p h1 h2 h3 h4
      by_cases ha : a < 128
      · rw [vintF_small f a ha, starts_one] at h3
        exact ((starts_vint_lo h3 ha).1 h4).symm
      · rw [vintF_big f a ha, starts_cons] at h3
        obtain ⟨h5, h6, h7⟩ := starts_vint_hi h3.1 (by omega) h4
        have h8 := ih (a / 128) (b / 128) (p + 1) (by rw [Nat.pow_succ] at h1; omega) (by rw [Nat.pow_succ] at h2; omega) h3.2 h7
        omega
  have h3 : (128 : Nat) ^ 10 = 1180591620717411303424 := by decide
  exact key 10 a b p (by omega) (by omega) h1 h2

def Bits (l : List Int) : Prop := ∀ z ∈ l, z = 0 ∨ z = 1

theorem runLen_self_pos (x : Int) (r : List Int) : 0 < runLen x (x :: r) := by simp [runLen]
theorem runsF_more : ∀ (f : Nat) (l : List Int), l.length ≤ f → runsF (f + 1) l = runsF f l := by
  intro f
  induction f with
  | zero => intro l h; cases l with
    | nil => rfl
    | cons x r => simp at h
  | succ f ih =>
    intro l h
    cases l with
    | nil => rfl
    | cons x r =>
      have h1 := runLen_self_pos x r
      have h2 := ih ((x :: r).drop (runLen x (x :: r))) (by rw [List.length_drop]; simp at h ⊢; omega)
      rw [runsF, runsF]
      simp only [h2]
theorem runsF_eq (f : Nat) (l : List Int) (h : l.length ≤ f) : runsF f l = runsB l := by
  induction f with
  | zero =>
    have : l = [] := List.length_eq_zero_iff.1 (by omega)
    subst this; rfl
  | succ f ih =>
    by_cases h2 : l.length ≤ f
    · rw [runsF_more f l h2, ih h2]
    · unfold runsB; rw [show l.length = f + 1 by omega]
theorem runsB_nil : runsB [] = [] := rfl
theorem runsB_cons (x : Int) (r : List Int) : runsB (x :: r) = vint (runLen x (x :: r)) ++ ([byteOf x] ++ runsB ((x :: r).drop (runLen x (x :: r)))) := by
  have h1 := runLen_self_pos x r
  rw [← runsF_eq r.length ((x :: r).drop (runLen x (x :: r))) (by rw [List.length_drop]; simp; omega)]
  rfl
theorem runLen_rep (b : Int) (n : Nat) (m : List Int) (h : m.head? ≠ some b) : runLen b (List.replicate n b ++ m) = n := by
  induction n with
  | zero =>
    cases m with
    | nil => rfl
    | cons y r => simp [runLen]; intro hy; subst hy; simp at h
  | succ n ih => rw [List.replicate_succ, List.cons_append, runLen, if_pos rfl, ih]
theorem runsB_rep (b : Int) (n : Nat) (m : List Int) (hn : n ≠ 0) (h : m.head? ≠ some b) : runsB (List.replicate n b ++ m) = vint n ++ ([byteOf b] ++ runsB m) := by
  obtain ⟨k, rfl⟩ : ∃ k, n = k + 1 := ⟨n - 1, by omega⟩
  have h1 : List.replicate (k + 1) b ++ m = b :: (List.replicate k b ++ m) := by rw [List.replicate_succ]; rfl
  have h2 := runLen_rep b (k + 1) m h
  rw [h1] at h2 ⊢
  rw [runsB_cons, h2, ← h1]
  simp
theorem runLen_split (x : Int) (l : List Int) : l = List.replicate (runLen x l) x ++ l.drop (runLen x l) := by
  induction l with
  | nil => rfl
  | cons y r ih =>
    simp only [runLen]
    split
    · rename_i h
      subst h
      rw [List.replicate_succ, List.cons_append, List.drop_succ_cons, ← ih]
    · simp
theorem runLen_after (x : Int) (l : List Int) : (l.drop (runLen x l)).head? ≠ some x := by
  intro h
  rw [List.head?_drop] at h
  obtain ⟨h1, h2⟩ := List.getElem?_eq_some_iff.1 h
  exact runLen_out x l h1 h2

/-- Runs of which some were read. -/
structure RSt (B : List Nat) (p cn : Nat) (l : List Int) (R : List Nat) : Prop where
  le : l.length ≤ cn
  bits : Bits l
  st : Starts B p R
  ext : ∀ m : List Int, (m = [] ∨ l = [] ∨ m.head? ≠ l.getLast?) → runsB (l ++ m) = R ++ runsB m
  uni : ∀ L : List Int, L.length = cn → Bits L → Starts B p (runsB L) → ∃ m, L = l ++ m ∧ (m = [] ∨ l = [] ∨ m.head? ≠ l.getLast?)

theorem RSt.zero (B : List Nat) (p cn : Nat) : RSt B p cn [] [] :=
  ⟨Nat.zero_le _, fun z hz => by simp at hz, starts_nil _ _, fun m _ => rfl, fun L _ _ _ => ⟨L, rfl, .inr (.inl rfl)⟩⟩

theorem byteOf_bit {b : Int} (h : b = 0 ∨ b = 1) : byteOf b = b.toNat := by rcases h with rfl | rfl <;> rfl

/-- What a list that is written there has behind what was read. -/
theorem RSt.next {B : List Nat} {p cn : Nat} {l : List Int} {R : List Nat} (h : RSt B p cn l R) (hlt : l.length < cn) (L : List Int) (hL : L.length = cn) (hb : Bits L) (hs : Starts B p (runsB L)) :
    ∃ (n : Nat) (b : Int) (m : List Int), 1 ≤ n ∧ n ≤ cn - l.length ∧ (b = 0 ∨ b = 1) ∧ (l = [] ∨ l.getLast? ≠ some b) ∧ Starts B (p + R.length) (vint n) ∧ Starts B (p + R.length + (vint n).length) [b.toNat] ∧
      L = (l ++ List.replicate n b) ++ m ∧ m.head? ≠ some b := by
  obtain ⟨m, rfl, hm⟩ := h.uni L hL hb hs
  rw [List.length_append] at hL
  cases m with
  | nil => simp at hL; omega
  | cons x r =>
    rw [h.ext _ hm, starts_append] at hs
    have hs2 := hs.2
    rw [runsB_cons, starts_append, starts_append] at hs2
    have hx : x = 0 ∨ x = 1 := hb x (by simp)
    refine ⟨runLen x (x :: r), x, (x :: r).drop (runLen x (x :: r)), runLen_self_pos x r, ?_, hx, ?_, hs2.1, ?_, ?_, runLen_after x (x :: r)⟩
    · have := runLen_le x (x :: r); omega
    · rcases hm with h1 | h1 | h1
      · simp at h1
      · exact .inl h1
      · right; simpa [eq_comm] using h1
    · rw [← byteOf_bit hx]; exact hs2.2.1
    · rw [List.append_assoc, ← runLen_split]

theorem RSt.more {B : List Nat} {p cn : Nat} {l : List Int} {R : List Nat} (h : RSt B p cn l R) {n : Nat} {b : Int} (hn : n ≠ 0) (hle : n ≤ cn - l.length) (hn2 : n < 18446744073709551616) (hb : b = 0 ∨ b = 1) (hlast : l = [] ∨ l.getLast? ≠ some b)
    (s1 : Starts B (p + R.length) (vint n)) (s2 : Starts B (p + R.length + (vint n).length) [b.toNat]) (hcn : cn ≤ 100) (hlt : l.length < cn) : RSt B p cn (l ++ List.replicate n b) (R ++ (vint n ++ [b.toNat])) := by
  have hne : List.replicate n b ≠ [] := by simp; exact hn
  have hgl : (l ++ List.replicate n b).getLast? = some b := by
    rw [List.getLast?_append, List.getLast?_replicate, if_neg hn]; rfl
  have hhd : ∀ m, (List.replicate n b ++ m).head? = some b := by
    intro m
    obtain ⟨k, rfl⟩ : ∃ k, n = k + 1 := ⟨n - 1, by omega⟩
    rw [List.replicate_succ]; rfl
  refine ⟨by simp; omega, ?_, ?_, ?_, ?_⟩
  · intro z hz
    rcases List.mem_append.1 hz with h1 | h1
    · exact h.bits z h1
    · rw [(List.mem_replicate.1 h1).2]; exact hb
  · rw [starts_append, starts_append]; exact ⟨h.st, s1, s2⟩
  · intro m hm
    rw [hgl] at hm
    have hm2 : m.head? ≠ some b := by
      rcases hm with h1 | h1 | h1
      · subst h1; simp
      · simp at h1; omega
      · exact h1
    rw [List.append_assoc, h.ext _ (by rw [hhd]; rcases hlast with h1 | h1; exact .inr (.inl h1); exact .inr (.inr (fun e => h1 e.symm))), runsB_rep b n m hn hm2, byteOf_bit hb]
    simp
  · intro L hL hbL hs
    obtain ⟨n', b', m, h1, h2, h3, h4, h5, h6, h7, h8⟩ := h.next hlt L hL hbL hs
    have e1 : n' = n := vint_one (by omega) hn2 h5 s1
    subst e1
    have e2 : b' = b := by
      rw [starts_one] at h6 s2
      rw [h6] at s2
      simp at s2
      omega
    subst e2
    exact ⟨m, h7, .inr (.inr (by rw [hgl]; exact h8))⟩

theorem RSt.done {B : List Nat} {p cn : Nat} {l : List Int} {R : List Nat} (h : RSt B p cn l R) (hl : ¬ l.length < cn) :
    l.length = cn ∧ runsB l = R ∧ (∀ L : List Int, L.length = cn → Bits L → Starts B p (runsB L) → L = l) := by
  have hlen : l.length = cn := by have := h.le; omega
  refine ⟨hlen, ?_, ?_⟩
  · have := h.ext [] (.inl rfl)
    simpa [runsB_nil] using this
  · intro L hL hb hs
    obtain ⟨m, rfl, _⟩ := h.uni L hL hb hs
    rw [List.length_append] at hL
    have : m = [] := List.length_eq_zero_iff.1 (by omega)
    rw [this]; simp
end Go.Proofs.Ytjidbonhhpkljaa.Ec

/- Lists that are read one element behind the other: what was read, and that nothing else can stand there; plain values. -/
set_option linter.unusedVariables false
namespace Go.Proofs.Ytjidbonhhpkljaa.Ec
open Go.RowKit Go.Proofs.Ytjidbonhhpkljaa.Pk Go.Proofs.Ytjidbonhhpkljaa.Pm

/-- Of count elements some were read: E what a list is written as, e what an element is behind those ahead of it. -/
structure QSt {α : Type} (E : List α → List Nat) (ok : α → Prop) (B : List Nat) (p cn : Nat) (l : List α) : Prop where
  le : l.length ≤ cn
  oks : ∀ x ∈ l, ok x
  st : Starts B p (E l)
  uni : ∀ L : List α, L.length = cn → (∀ x ∈ L, ok x) → Starts B p (E L) → ∃ m, L = l ++ m

theorem snoc_pre {α : Type} {E : List α → List Nat} {e : List α → α → List Nat} (hE : ∀ l x, E (l ++ [x]) = E l ++ e l x) (l m : List α) : ∃ t, E (l ++ m) = E l ++ t := by
  induction m generalizing l with
  | nil => exact ⟨[], by simp⟩
  | cons x r ih =>
    obtain ⟨t, ht⟩ := ih (l ++ [x])
    refine ⟨e l x ++ t, ?_⟩
    rw [show l ++ x :: r = l ++ [x] ++ r by simp, ht, hE, List.append_assoc]

theorem QSt.zero {α : Type} {E : List α → List Nat} {ok : α → Prop} {B : List Nat} {p cn : Nat} (h0 : E [] = []) : QSt E ok B p cn [] :=
  ⟨Nat.zero_le _, fun x hx => by simp at hx, by rw [h0]; exact starts_nil _ _, fun L _ _ _ => ⟨L, rfl⟩⟩
theorem QSt.next {α : Type} {E : List α → List Nat} {ok : α → Prop} {e : List α → α → List Nat} {B : List Nat} {p cn : Nat} {l : List α} (h : QSt E ok B p cn l) (hE : ∀ l x, E (l ++ [x]) = E l ++ e l x) (hlt : l.length < cn)
    (L : List α) (hL : L.length = cn) (hok : ∀ x ∈ L, ok x) (hs : Starts B p (E L)) : ∃ x m, L = (l ++ [x]) ++ m ∧ ok x ∧ Starts B (p + (E l).length) (e l x) := by
  obtain ⟨m, rfl⟩ := h.uni L hL hok hs
  cases m with
  | nil => simp at hL; omega
  | cons x r =>
    obtain ⟨t, ht⟩ := snoc_pre hE (l ++ [x]) r
    refine ⟨x, r, by simp, hok x (by simp), ?_⟩
    rw [show l ++ x :: r = l ++ [x] ++ r by simp, ht, hE, List.append_assoc, starts_append, starts_append] at hs
    exact hs.2.1
theorem QSt.more {α : Type} {E : List α → List Nat} {ok : α → Prop} {e : List α → α → List Nat} {B : List Nat} {p cn : Nat} {l : List α} (h : QSt E ok B p cn l) (hE : ∀ l x, E (l ++ [x]) = E l ++ e l x) (hlt : l.length < cn)
    {x : α} (hx : ok x) (hs : Starts B (p + (E l).length) (e l x)) (hu : ∀ y, ok y → Starts B (p + (E l).length) (e l y) → y = x) : QSt E ok B p cn (l ++ [x]) := by
  refine ⟨by simp; omega, ?_, by rw [hE, starts_append]; exact ⟨h.st, hs⟩, ?_⟩
  · intro y hy
    rcases List.mem_append.1 hy with h1 | h1
    · exact h.oks y h1
    · simp at h1; rw [h1]; exact hx
  · intro L hL hok hsL
    obtain ⟨y, m, h1, h2, h3⟩ := h.next hE hlt L hL hok hsL
    rw [hu y h2 h3] at h1
    exact ⟨m, h1⟩
theorem QSt.fail {α : Type} {E : List α → List Nat} {ok : α → Prop} {e : List α → α → List Nat} {B : List Nat} {p cn : Nat} {l : List α} (h : QSt E ok B p cn l) (hE : ∀ l x, E (l ++ [x]) = E l ++ e l x) (hlt : l.length < cn)
    (hu : ∀ y, ok y → ¬ Starts B (p + (E l).length) (e l y)) (L : List α) (hL : L.length = cn) (hok : ∀ x ∈ L, ok x) : ¬ Starts B p (E L) := by
  intro hs
  obtain ⟨y, m, h1, h2, h3⟩ := h.next hE hlt L hL hok hs
  exact hu y h2 h3
theorem QSt.done {α : Type} {E : List α → List Nat} {ok : α → Prop} {B : List Nat} {p cn : Nat} {l : List α} (h : QSt E ok B p cn l) (hl : ¬ l.length < cn) :
    l.length = cn ∧ (∀ L : List α, L.length = cn → (∀ x ∈ L, ok x) → Starts B p (E L) → L = l) := by
  have hlen : l.length = cn := by have := h.le; omega
  refine ⟨hlen, ?_⟩
  intro L hL hb hs
  obtain ⟨m, rfl⟩ := h.uni L hL hb hs
  rw [List.length_append] at hL
  have : m = [] := List.length_eq_zero_iff.1 (by omega)
  rw [this]; simp

/-- The number that was folded. -/
def uz (m : Nat) : Int := if m % 2 = 1 then -((m / 2 : Nat) : Int) - 1 else ((m / 2 : Nat) : Int)
theorem zz_uz (m : Nat) : zz (uz m) = m := by
  unfold zz uz
  split <;> split <;> omega
theorem uz_zz (n : Int) : uz (zz n) = n := by
  unfold zz uz
  split <;> split <;> omega
theorem uz_range (m : Nat) (h : m < 18446744073709551616) : -9223372036854775808 ≤ uz m ∧ uz m ≤ 9223372036854775807 := by
  unfold uz
  split <;> omega

/-- A value that is there, of a kind. -/
structure VK (k : Int) (v : Val) : Prop where
  there : v.null = false
  lo : -9223372036854775808 ≤ v.n
  hi : v.n ≤ 9223372036854775807
  s1 : k = 1 → v.s = ⟨#[]⟩
  s2 : k = 2 → (v.n = 0 ∨ v.n = 1) ∧ v.s = ⟨#[]⟩
  s3 : k = 3 → v.n = 0 ∧ v.s.size ≤ 32

theorem nil_of_toList {s : ByteArray} (h : s.toList = []) : s = ⟨#[]⟩ := by
  rw [ByteArray.toList_eq s] at h
  apply ByteArray.ext
  apply Array.ext'
  simpa using h
theorem may_of_vk {k : Int} {v : Val} (hk : k = 1 ∨ k = 2 ∨ k = 3) (h : VK k v) : mayB v k = true := by
  unfold mayB
  rw [h.there]
  rcases hk with rfl | rfl | rfl
  · simp [h.s1 rfl, ByteArray.toList_eq]
  · have := h.s2 rfl
    simp [this.2, this.1, ByteArray.toList_eq]
  · have := h.s3 rfl
    simp [this.1]; omega
theorem vk_of_may {k : Int} {v : Val} (hk : k = 1 ∨ k = 2 ∨ k = 3) (hn : v.null = false) (h : VIn v) (hm : mayB v k = true) : VK k v := by
  unfold mayB at hm
  rw [hn] at hm
  refine ⟨hn, h.lo, h.hi, ?_, ?_, ?_⟩
  · rintro rfl
    simp at hm
    exact nil_of_toList hm
  · rintro rfl
    simp at hm
    exact ⟨hm.1, nil_of_toList hm.2⟩
  · rintro rfl
    simp at hm
    exact ⟨hm.1, by omega⟩
theorem VK.ok {k : Int} {v : Val} (hk : k = 1 ∨ k = 2 ∨ k = 3) (h : VK k v) : VOk v := by
  refine ⟨h.lo, h.hi, ?_⟩
  rcases hk with rfl | rfl | rfl
  · rw [h.s1 rfl]; decide
  · rw [(h.s2 rfl).2]; decide
  · exact (h.s3 rfl).2

/-- Two values that stand at one place are alike. -/
theorem plain_one {k : Int} (hk : k = 1 ∨ k = 2 ∨ k = 3) {B : List Nat} {p : Nat} {x y : Val} (hx : VK k x) (hy : VK k y) (h1 : Starts B p (plainB k x)) (h2 : Starts B p (plainB k y)) : x = y := by
  have key : x.n = y.n → x.s = y.s → x = y := by
    intro a b
    have c := hx.there.trans hy.there.symm
    cases x; cases y
    simp at a b c
    simp [a, b, c]
  rcases hk with rfl | rfl | rfl
  · have e1 : ∀ v, plainB 1 v = vint (zz v.n) := fun v => rfl
    rw [e1] at h1 h2
    have := vint_one (zz_lt _ hx.lo hx.hi) (zz_lt _ hy.lo hy.hi) h1 h2
    refine key ?_ (by rw [hx.s1 rfl, hy.s1 rfl])
    rw [← uz_zz x.n, this, uz_zz]
  · have e1 : ∀ v, plainB 2 v = [byteOf v.n] := fun v => rfl
    rw [e1, starts_one] at h1 h2
    rw [h1] at h2
    simp at h2
    refine key ?_ (by rw [(hx.s2 rfl).2, (hy.s2 rfl).2])
    rw [byteOf_bit (hx.s2 rfl).1, byteOf_bit (hy.s2 rfl).1] at h2
    have := (hx.s2 rfl).1
    have := (hy.s2 rfl).1
    omega
  · have e1 : ∀ v, plainB 3 v = vint v.s.size ++ bytesOf v.s := fun v => rfl
    rw [e1, starts_append] at h1 h2
    have a1 := (hx.s3 rfl).2
    have a2 := (hy.s3 rfl).2
    have := vint_one (by omega) (by omega) h1.1 h2.1
    rw [this] at h1
    refine key (by rw [(hx.s3 rfl).1, (hy.s3 rfl).1]) ?_
    exact bytesOf_inj (starts_same h1.2 h2.2 (by rw [bytesOf_length, bytesOf_length, this]))

theorem plainsB_snoc (k : Int) (l : List Val) (x : Val) : plainsB k (l ++ [x]) = plainsB k l ++ plainB k x := by
  unfold plainsB
  rw [List.flatMap_append, List.flatMap_singleton]

/-- The value that stands behind a difference. -/
theorem wrap64_back (a n d : Int) (hn0 : -9223372036854775808 ≤ n) (hn1 : n ≤ 9223372036854775807) (h : wrap64 (n - a) = d) : wrap64 (a + d) = n := by
  unfold wrap64 at *
  omega
theorem wrap64_forth (a d : Int) (hd0 : -9223372036854775808 ≤ d) (hd1 : d ≤ 9223372036854775807) : wrap64 (wrap64 (a + d) - a) = d := by
  unfold wrap64
  omega
theorem delta_one {a : Int} {B : List Nat} {p : Nat} {x y : Val} (hx : VK 1 x) (hy : VK 1 y) (h1 : Starts B p (vint (zz (wrap64 (x.n - a))))) (h2 : Starts B p (vint (zz (wrap64 (y.n - a))))) : x = y := by
  have r1 := wrap64_range (x.n - a)
  have r2 := wrap64_range (y.n - a)
  have e := vint_one (zz_lt _ r1.1 r1.2) (zz_lt _ r2.1 r2.2) h1 h2
  have e2 : wrap64 (x.n - a) = wrap64 (y.n - a) := by rw [← uz_zz (wrap64 (x.n - a)), e, uz_zz]
  have b1 := wrap64_back a x.n _ hx.lo hx.hi rfl
  have b2 := wrap64_back a y.n _ hy.lo hy.hi rfl
  rw [e2, b2] at b1
  have c := hx.there.trans hy.there.symm
  have d := (hx.s1 rfl).trans (hy.s1 rfl).symm
  cases x; cases y
  simp at b1 c d
  simp [b1, c, d]
end Go.Proofs.Ytjidbonhhpkljaa.Ec

/- Dictionaries and whole columns, read: as plain mathematics. -/
set_option linter.unusedVariables false
namespace Go.Proofs.Ytjidbonhhpkljaa.Ec
open Go.RowKit Go.Proofs.Ytjidbonhhpkljaa.Pk Go.Proofs.Ytjidbonhhpkljaa.Pm

theorem N_inj (w : Nat) : ∀ (a b : List Nat), (∀ x ∈ a, x < 2 ^ w) → (∀ x ∈ b, x < 2 ^ w) → a.length = b.length → N w a = N w b → a = b := by
  intro a
  induction a with
  | nil => intro b _ _ hl _; exact (List.length_eq_zero_iff.1 (by simpa using hl.symm)).symm
  | cons x r ih =>
    intro b ha hb hl h
    cases b with
    | nil => simp at hl
    | cons y t =>
      simp only [N] at h
      have hx := ha x (by simp)
      have hy := hb y (by simp)
      have h1 : x = y := by
        have := congrArg (· % 2 ^ w) h
        simpa [Nat.add_mul_mod_self_left, Nat.mod_eq_of_lt hx, Nat.mod_eq_of_lt hy] using this
      subst h1
      have h2 : N w r = N w t := Nat.eq_of_mul_eq_mul_left (Nat.pow_pos (n := w) (show 0 < 2 by omega)) (by omega)
      rw [ih t (fun z hz => ha z (by simp [hz])) (fun z hz => hb z (by simp [hz])) (by simpa using hl) h2]

theorem rest_take (s : ByteArray) (p nb : Nat) : V (((bytesOf s).drop p).take nb) = restV s p % 2 ^ (8 * nb) := by
  rw [V_take _ _ (fun x hx => bytesOf_lt s x (List.mem_of_mem_drop hx)), pow256]
  rfl
theorem held_zero (v wd nb cn : Nat) : heldOf v wd nb cn = 0 ↔ v % 2 ^ (8 * nb) < 2 ^ (wd * cn) := by
  unfold heldOf
  rw [Nat.div_eq_zero_iff]
  have := Nat.pow_pos (n := wd * cn) (show 0 < 2 by omega)
  omega
theorem fill_le (wd cn : Nat) : wd * cn ≤ 8 * ((cn * wd + 7) / 8) := by rw [Nat.mul_comm wd cn]; omega

theorem packed_starts (s : ByteArray) (p wd cn : Nat) (hp : p ≤ s.size) (h : readOk s p wd cn) : Starts (bytesOf s) p (packBytes wd (D wd (restV s p) cn)) := by
  obtain ⟨h1, h2⟩ := h
  rw [held_zero] at h2
  have hl : (((bytesOf s).drop p).take ((cn * wd + 7) / 8)).length = (cn * wd + 7) / 8 := by
    rw [List.length_take, List.length_drop, bytesOf_length]; omega
  have := packBytes_of wd (D wd (restV s p) cn) (((bytesOf s).drop p).take ((cn * wd + 7) / 8)) (by rw [hl, D_length]) (fun x hx => bytesOf_lt s x (List.mem_of_mem_drop (List.mem_of_mem_take hx))) (by
    rw [rest_take, N_D, ← Nat.mod_mod_of_dvd (restV s p) (Nat.pow_dvd_pow 2 (fill_le wd cn)), Nat.mod_eq_of_lt h2])
  rw [← this]
  exact List.take_prefix _ _
theorem packed_reads (s : ByteArray) (p wd : Nat) (ps : List Nat) (hp : p ≤ s.size) (hlt : ∀ x ∈ ps, x < 2 ^ wd) (h : Starts (bytesOf s) p (packBytes wd ps)) : readOk s p wd ps.length ∧ D wd (restV s p) ps.length = ps := by
  have hlen := starts_len h (by rw [bytesOf_length]; exact hp)
  rw [packBytes_length, bytesOf_length] at hlen
  have ht : ((bytesOf s).drop p).take ((ps.length * wd + 7) / 8) = packBytes wd ps := by
    obtain ⟨t, ht⟩ := h
    rw [← ht, ← packBytes_length wd ps]
    simp
  have hv := rest_take s p ((ps.length * wd + 7) / 8)
  rw [ht] at hv
  have hN := N_lt wd ps hlt
  have hV : V (packBytes wd ps) = N wd ps := by
    rw [V_eq_N, packBytes, N_D, Nat.mod_eq_of_lt]
    exact Nat.lt_of_lt_of_le hN (Nat.pow_le_pow_right (by omega) (fill_le wd ps.length))
  rw [hV] at hv
  refine ⟨⟨hlen, ?_⟩, ?_⟩
  · rw [held_zero, ← hv]; exact hN
  · refine N_inj wd _ _ (D_lt _ _ _) hlt (D_length _ _ _) ?_
    rw [N_D, ← Nat.mod_mod_of_dvd (restV s p) (Nat.pow_dvd_pow 2 (fill_le wd ps.length)), ← hv, Nat.mod_eq_of_lt hN]

/-- How many places are known behind these, if each new one is the next. -/
def chk : Nat → List Nat → Option Nat
  | s, [] => some s
  | s, q :: r => if q < s then chk s r else if q = s then chk (s + 1) r else none
theorem chk_append (s : Nat) (a b : List Nat) : chk s (a ++ b) = (chk s a).bind (fun t => chk t b) := by
  induction a generalizing s with
  | nil => rfl
  | cons q r ih =>
    simp only [List.cons_append, chk]
    split
    · exact ih s
    · split
      · exact ih _
      · rfl
theorem chk_mono {s t : Nat} {l : List Nat} (h : chk s l = some t) : s ≤ t := by
  induction l generalizing s with
  | nil => simp [chk] at h; omega
  | cons q r ih =>
    simp only [chk] at h
    split at h
    · exact ih h
    · split at h
      · have := ih h; omega
      · cases h
theorem chk_lt {s t : Nat} {l : List Nat} (h : chk s l = some t) : ∀ q ∈ l, q < t := by
  induction l generalizing s with
  | nil => simp
  | cons q r ih =>
    intro x hx
    simp only [chk] at h
    split at h
    · rename_i hq
      have := chk_mono h
      rcases List.mem_cons.1 hx with rfl | hx
      · omega
      · exact ih h x hx
    · split at h
      · have := chk_mono h
        rcases List.mem_cons.1 hx with rfl | hx
        · omega
        · exact ih h x hx
      · cases h
theorem chk_take_succ (l : List Nat) (k : Nat) (hk : k < l.length) {t : Nat} (h : chk 0 (l.take k) = some t) : chk 0 (l.take (k + 1)) = if l[k] < t then some t else if l[k] = t then some (t + 1) else none := by
  rw [List.take_succ_eq_append_getElem hk, chk_append, h]
  rfl
theorem chk_split (l : List Nat) (k : Nat) : chk 0 l = (chk 0 (l.take k)).bind (fun t => chk t (l.drop k)) := by
  rw [← chk_append, List.take_append_drop]

theorem idx_mem (d : List Val) (v : Val) : idx d v < d.length ↔ v ∈ d := by
  constructor
  · intro h
    rw [← idx_at d v h]
    exact List.getElem_mem h
  · intro h
    obtain ⟨j, hj, rfl⟩ := List.getElem_of_mem h
    have := idx_before d d[j] j hj
    have hv : veq d[j] d[j] = true := veq_iff.2 rfl
    by_cases h2 : j < idx d d[j]
    · rw [this h2] at hv; cases hv
    · omega
theorem nodup_inj {d : List Val} (hd : d.Nodup) {i j : Nat} (hi : i < d.length) (hj : j < d.length) (h : d[i] = d[j]) : i = j := by
  have hp := List.pairwise_iff_getElem.1 hd
  rcases Nat.lt_trichotomy i j with h1 | h1 | h1
  · exact absurd h (hp i j hi hj h1)
  · exact h1
  · exact absurd h.symm (hp j i hj hi h1)
theorem idx_nodup (d : List Val) (hd : d.Nodup) (j : Nat) (hj : j < d.length) : idx d d[j] = j := by
  have h1 : idx d d[j] < d.length := (idx_mem d _).2 (List.getElem_mem hj)
  have h2 := idx_at d d[j] h1
  exact nodup_inj hd _ _ h2

theorem dfold_snoc (l : List Val) (v : Val) : dfold (l ++ [v]) = dstep (dfold l) v := by
  unfold dfold
  rw [List.foldl_append]
  rfl

/-- What a dictionary's entries and places speak of is written just so. -/
theorem dfold_of (d : List Val) (hd : d.Nodup) (z : Val) (ps : List Nat) : ∀ k t, k ≤ ps.length → chk 0 (ps.take k) = some t → t ≤ d.length → dfold ((ps.take k).map (fun q => d.getD q z)) = (d.take t, ps.take k) := by
  intro k
  induction k with
  | zero => intro t _ h _; simp [chk] at h; subst h; simp [dfold]
  | succ k ih =>
    intro t hk h ht
    have hk2 : k < ps.length := by omega
    rw [chk_split (ps.take (k + 1)) k, List.take_take, Nat.min_eq_left (by omega)] at h
    cases hc : chk 0 (ps.take k) with
    | none => rw [hc] at h; cases h
    | some t0 =>
      rw [hc] at h
      have hd1 : (ps.take (k + 1)).drop k = [ps[k]] := by
        rw [List.take_succ_eq_append_getElem hk2, List.drop_append_of_le_length (by rw [List.length_take]; omega)]
        simp
      simp only [Option.bind_some, hd1, chk] at h
      rw [List.take_succ_eq_append_getElem hk2, List.map_append, List.map_singleton, dfold_snoc]
      by_cases h1 : ps[k] < t0
      · rw [if_pos h1] at h
        cases h
        rw [ih t (by omega) hc ht]
        have hq : ps[k] < d.length := by omega
        have hg : d.getD ps[k] z = d[ps[k]] := by simp [List.getD, hq]
        have hm : idx (d.take t) d[ps[k]] = ps[k] := by
          have hl : ps[k] < (d.take t).length := by rw [List.length_take]; omega
          have := idx_nodup (d.take t) (hd.sublist (List.take_sublist _ _)) ps[k] hl
          rwa [List.getElem_take] at this
        unfold dstep ins
        rw [hg, hm, if_pos (by rw [List.length_take]; omega), hm]
      · rw [if_neg h1] at h
        by_cases h2 : ps[k] = t0
        · rw [if_pos h2] at h
          cases h
          rw [ih t0 (by omega) hc (by omega)]
          have hq : t0 < d.length := by omega
          have hg : d.getD ps[k] z = d[t0] := by simp [List.getD, h2, hq]
          have hl : (d.take t0).length = t0 := by rw [List.length_take]; omega
          have hn : ¬ idx (d.take t0) d[t0] < (d.take t0).length := by
            rw [idx_mem]
            intro hm
            obtain ⟨j, hj, e⟩ := List.getElem_of_mem hm
            rw [List.getElem_take] at e
            have := nodup_inj hd _ _ e
            omega
          have hi : ins (d.take t0) d[t0] = d.take (t0 + 1) := by
            unfold ins
            rw [if_neg hn, List.take_succ_eq_append_getElem hq]
          have h3 := idx_ins (d.take t0) d[t0]
          unfold dstep
          simp only
          rw [hg, hi]
          rw [hi] at h3
          rw [h3.1, h3.2.2 hn, hl, h2]
        · rw [if_neg h2] at h; cases h

theorem dfold_facts (l : List Val) (z : Val) : (dfold l).1.Nodup ∧ chk 0 (dfold l).2 = some (dfold l).1.length ∧ (dfold l).2.map (fun q => (dfold l).1.getD q z) = l := by
  have key : ∀ k, k ≤ l.length → (dfold (l.take k)).1.Nodup ∧ chk 0 (dfold (l.take k)).2 = some (dfold (l.take k)).1.length ∧ (dfold (l.take k)).2.map (fun q => (dfold (l.take k)).1.getD q z) = l.take k := by
    intro k
    induction k with
    | zero => intro _; simp [dfold, chk]
    | succ k ih =>
      intro hk
      obtain ⟨h1, h2, h3⟩ := ih (by omega)
      have hk2 : k < l.length := by omega
      have hlt := chk_lt h2
      rw [dfold_succ l k hk2]
      generalize dfold (l.take k) = S at *
      have h4 := idx_ins S.1 l[k]
      unfold dstep
      by_cases hin : idx S.1 l[k] < S.1.length
      · have hi : ins S.1 l[k] = S.1 := by unfold ins; rw [if_pos hin]
        rw [hi]
        refine ⟨h1, ?_, ?_⟩
        · rw [chk_append, h2]; simp [chk, hin]
        · rw [List.map_append, h3, List.take_succ_eq_append_getElem hk2]
          congr 1
          simp [List.getD, hin, idx_at S.1 l[k] hin]
      · have hi : ins S.1 l[k] = S.1 ++ [l[k]] := by unfold ins; rw [if_neg hin]
        rw [hi] at h4 ⊢
        rw [h4.1, h4.2.2 hin]
        refine ⟨?_, ?_, ?_⟩
        · rw [List.nodup_append]
          refine ⟨h1, by simp, ?_⟩
          intro a ha b hb e
          simp at hb
          subst hb
          subst e
          exact hin ((idx_mem _ _).2 ha)
        · rw [chk_append, h2]; simp [chk]
        · rw [List.map_append, List.take_succ_eq_append_getElem hk2]
          congr 1
          · rw [← h3]
            apply List.map_congr_left
            intro q hq
            have := hlt q hq
            simp [List.getD, List.getElem?_append_left this]
          · simp
  have := key l.length (Nat.le_refl _)
  rwa [List.take_length] at this

/-- A dictionary that was read, piece by piece. -/
theorem dict_good {k : Int} (hk : k = 1 ∨ k = 2 ∨ k = 3) {s : ByteArray} {p cn n : Nat} {d : List Val} {ps : List Nat} (z : Val) (hcn : cn ≤ 100) (hn : n ≤ cn) (hdl : d.length = n) (hdk : ∀ x ∈ d, VK k x) (hd : d.Nodup) (hpl : ps.length = cn)
    (hc : chk 0 ps = some n) (s1 : Starts (bytesOf s) p (vint n)) (s2 : Starts (bytesOf s) (p + (vint n).length) (plainsB k d)) (s3 : Starts (bytesOf s) (p + (vint n).length + (plainsB k d).length) (packBytes (wid n) ps))
    (u2 : ∀ D : List Val, D.length = n → (∀ x ∈ D, VK k x) → Starts (bytesOf s) (p + (vint n).length) (plainsB k D) → D = d) (hp3 : p + (vint n).length + (plainsB k d).length ≤ s.size) :
    (ps.map fun q => d.getD q z).length = cn ∧ (∀ x ∈ ps.map fun q => d.getD q z, VK k x) ∧ dictB k (ps.map fun q => d.getD q z) = vint n ++ (plainsB k d ++ packBytes (wid n) ps) ∧ Starts (bytesOf s) p (dictB k (ps.map fun q => d.getD q z)) ∧
      ∀ L : List Val, L.length = cn → (∀ x ∈ L, VK k x) → Starts (bytesOf s) p (dictB k L) → L = ps.map fun q => d.getD q z := by
  have hf : dfold (ps.map fun q => d.getD q z) = (d, ps) := by
    have := dfold_of d hd z ps ps.length n (Nat.le_refl _) (by rw [List.take_length]; exact hc) (by omega)
    rw [List.take_length, List.take_of_length_le (by omega : d.length ≤ n)] at this
    exact this
  have hB : dictB k (ps.map fun q => d.getD q z) = vint n ++ (plainsB k d ++ packBytes (wid n) ps) := by
    unfold dictB
    rw [hf, hdl]
  refine ⟨by simp [hpl], ?_, hB, ?_, ?_⟩
  · intro x hx
    obtain ⟨q, hq, rfl⟩ := List.mem_map.1 hx
    have hq2 := chk_lt hc q hq
    have hq3 : q < d.length := by omega
    simp only [List.getD, hq3, List.getElem?_eq_getElem, Option.getD_some]
    exact hdk _ (List.getElem_mem hq3)
  · rw [hB, starts_append, starts_append]; exact ⟨s1, s2, s3⟩
  · intro L hL hok hs
    obtain ⟨f1, f2, f3⟩ := dfold_facts L z
    obtain ⟨g1, g2, g3, g4⟩ := dfold_ok L L.length (Nat.le_refl _)
    rw [List.take_length] at g1 g2 g3 g4
    unfold dictB at hs
    rw [starts_append, starts_append] at hs
    obtain ⟨t1, t2, t3⟩ := hs
    have e1 : (dfold L).1.length = n := vint_one (by omega) (by omega) t1 s1
    rw [e1] at t2 t3
    have e2 : (dfold L).1 = d := u2 _ e1 (fun x hx => hok x (g4 x hx)) t2
    rw [e2] at t3
    have hfit : ∀ (l : List Nat), (∀ x ∈ l, x < n) → ∀ x ∈ l, x < 2 ^ wid n := fun l h x hx => wid_fits n (by omega) x (h x hx)
    have r1 := (packed_reads s _ (wid n) (dfold L).2 hp3 (hfit _ (fun x hx => by have := g3 x hx; omega)) t3).2
    have r2 := (packed_reads s _ (wid n) ps hp3 (hfit _ (fun x hx => chk_lt hc x hx)) s3).2
    rw [g2, hL] at r1
    rw [hpl] at r2
    rw [r2] at r1
    rw [e2, ← r1] at f3
    exact f3.symm

/-- A value of a column. -/
def VC (k : Int) (v : Val) : Prop := (v.null = true ∧ v.n = 0 ∧ v.s = ⟨#[]⟩) ∨ VK k v
theorem vc_of_may {k : Int} {v : Val} (hk : k = 1 ∨ k = 2 ∨ k = 3) (h : VIn v) (hm : mayB v k = true) : VC k v := by
  cases hn : v.null with
  | true =>
    unfold mayB at hm
    rw [hn] at hm
    simp at hm
    exact .inl ⟨hn, hm.1, nil_of_toList hm.2⟩
  | false => exact .inr (vk_of_may hk hn h hm)
theorem VC.may {k : Int} {v : Val} (hk : k = 1 ∨ k = 2 ∨ k = 3) (h : VC k v) : mayB v k = true := by
  rcases h with ⟨h1, h2, h3⟩ | h
  · unfold mayB
    rw [h1, h2, h3]
    simp [ByteArray.toList_eq]
  · exact may_of_vk hk h
theorem VC.vin {k : Int} {v : Val} (h : VC k v) : VIn v := by
  rcases h with ⟨h1, h2, h3⟩ | h
  · exact ⟨by omega, by omega⟩
  · exact ⟨h.lo, h.hi⟩
theorem there_vk {k : Int} {l : List Val} (h : ∀ x ∈ l, VC k x) : ∀ x ∈ there l, VK k x := by
  intro x hx
  unfold there at hx
  rw [List.mem_filter] at hx
  rcases h x hx.1 with ⟨h1, _⟩ | h
  · rw [h1] at hx; simp at hx
  · exact h

/-- A column is what its levels and its values make it. -/
theorem mix_one {k : Int} : ∀ (a b : List Val), (∀ x ∈ a, VC k x) → (∀ x ∈ b, VC k x) → a.map lev = b.map lev → there a = there b → a = b := by
  intro a
  induction a with
  | nil => intro b _ _ h _; simp at h; exact h.symm
  | cons x r ih =>
    intro b ha hb h1 h2
    cases b with
    | nil => simp at h1
    | cons y t =>
      simp only [List.map_cons, List.cons.injEq] at h1
      have hxy : x.null = y.null := by
        have := h1.1
        unfold lev at this
        cases hx : x.null <;> cases hy : y.null <;> simp [hx, hy] at this <;> rfl
      have hr := fun h => ih t (fun z hz => ha z (by simp [hz])) (fun z hz => hb z (by simp [hz])) h1.2 h
      cases hx : x.null with
      | true =>
        have hy : y.null = true := by rw [← hxy]; exact hx
        have h3 : there r = there t := by simpa [there, hx, hy] using h2
        rw [hr h3]
        congr 1
        rcases ha x (by simp) with ⟨a1, a2, a3⟩ | a
        · rcases hb y (by simp) with ⟨b1, b2, b3⟩ | b
          · cases x; cases y
            simp at a1 a2 a3 b1 b2 b3
            simp [a1, a2, a3, b1, b2, b3]
          · rw [b.there] at hy; cases hy
        · rw [a.there] at hx; cases hx
      | false =>
        have hy : y.null = false := by rw [← hxy]; exact hx
        have h3 : x = y ∧ there r = there t := by simpa [there, hx, hy] using h2
        rw [h3.1, hr h3.2]

def ones (zs : List Int) : Nat := (zs.filter fun z => z != 0).length
theorem there_ones (l : List Val) : (there l).length = ones (l.map lev) := by
  unfold there ones
  induction l with
  | nil => rfl
  | cons x r ih =>
    cases hx : x.null with
    | true => simp [hx, lev] ; simpa [lev] using ih
    | false => simp [hx, lev]; simpa [lev] using ih
theorem lev_bits (l : List Val) : Bits (l.map lev) := by
  intro z hz
  obtain ⟨x, _, rfl⟩ := List.mem_map.1 hz
  unfold lev
  split
  · exact .inl rfl
  · exact .inr rfl

/-- A column that was read, piece by piece. -/
theorem column_good {k e : Int} {s : ByteArray} {p cn : Nat} {l : List Val} (hl : l.length = cn) (hlc : ∀ x ∈ l, VC k x)
    (s1 : Starts (bytesOf s) p (runsB (l.map lev))) (u1 : ∀ L : List Int, L.length = cn → Bits L → Starts (bytesOf s) p (runsB L) → L = l.map lev)
    (s2 : Starts (bytesOf s) (p + (runsB (l.map lev)).length) (codedB k e (there l))) (u2 : ∀ L : List Val, L.length = ones (l.map lev) → (∀ x ∈ L, VK k x) → Starts (bytesOf s) (p + (runsB (l.map lev)).length) (codedB k e L) → L = there l) :
    Starts (bytesOf s) p (columnB k e l) ∧ ∀ L : List Val, L.length = cn → (∀ x ∈ L, VC k x) → Starts (bytesOf s) p (columnB k e L) → L = l := by
  refine ⟨by unfold columnB; rw [starts_append]; exact ⟨s1, s2⟩, ?_⟩
  intro L hL hok hs
  unfold columnB at hs
  rw [starts_append] at hs
  have e1 := u1 (L.map lev) (by simpa using hL) (lev_bits L) hs.1
  rw [e1] at hs
  have e2 := u2 (there L) (by rw [there_ones, e1]) (there_vk hok) hs.2
  exact mix_one L l hok hlc e1 e2
end Go.Proofs.Ytjidbonhhpkljaa.Ec

/- The document's reader: take, byte, word, number: what they answer at what was written, and that they always answer. -/
set_option linter.unusedVariables false
namespace Go.Proofs.Ytjidbonhhpkljaa.Ec
open Go.RowKit Go.Proofs.Ytjidbonhhpkljaa.Pk Go.Proofs.Ytjidbonhhpkljaa.Pm

/-- The block of the document's reader. -/
def rb (s : ByteArray) (p : Nat) (bad : Bool) : Obj := .cells #[.string s, .int .i64 (p : Int), .bool bad] 174 (0, 0)

theorem rb_cells {w : World} {r p : Nat} {s : ByteArray} {bad : Bool} (h : w.heap[r]? = some (rb s p bad)) :
    w.cell? ⟨r, 0, none⟩ = some (.string s) ∧ w.cell? ⟨r, 1, none⟩ = some (.int .i64 (p : Int)) ∧ w.cell? ⟨r, 2, none⟩ = some (.bool bad) ∧ w.frozen? ⟨r, 0, none⟩ = false ∧ w.frozen? ⟨r, 1, none⟩ = false ∧ w.frozen? ⟨r, 2, none⟩ = false := by
  unfold rb at h
  refine ⟨?_, ?_, ?_, ?_, ?_, ?_⟩ <;> first | simp [World.cell?, h] | simp [World.frozen?, h]
theorem rb_at {w : World} {r p q : Nat} {s : ByteArray} {bad : Bool} (h : w.heap[r]? = some (rb s p bad)) (n : Nat) : ((w.setCell ⟨r, 1, none⟩ (.int .i64 (q : Int))).drewN n).heap[r]? = some (rb s q bad) := by
  show (w.setCell ⟨r, 1, none⟩ (.int .i64 (q : Int))).heap[r]? = _
  unfold rb at *
  rw [heap_setCell_same w r 1 _ _ _ h]
  rfl
theorem rb_bad {w : World} {r p : Nat} {s : ByteArray} {bad : Bool} (h : w.heap[r]? = some (rb s p bad)) (n : Nat) : ((w.setCell ⟨r, 2, none⟩ (.bool true)).drewN n).heap[r]? = some (rb s p true) := by
  show (w.setCell ⟨r, 2, none⟩ (.bool true)).heap[r]? = _
  unfold rb at *
  rw [heap_setCell_same w r 2 _ _ _ h]
  rfl
theorem rb_bad0 {w : World} {r p : Nat} {s : ByteArray} {bad : Bool} (h : w.heap[r]? = some (rb s p bad)) : (w.setCell ⟨r, 2, none⟩ (.bool true)).heap[r]? = some (rb s p true) := by
  unfold rb at *
  rw [heap_setCell_same w r 2 _ _ _ h]
  rfl
theorem set_drew (w : World) (a : Addr) (v : Value) (m n : Nat) : ((w.drewN m).setCell a v).drewN n = (w.setCell a v).drewN (m + n) := by
  rw [show (w.drewN m).setCell a v = (w.setCell a v).drewN m from by unfold World.setCell; rfl, World.drewN_drewN]
theorem set_drew0 (w : World) (a : Addr) (v : Value) (m : Nat) : (w.drewN m).setCell a v = (w.setCell a v).drewN m := by unfold World.setCell; rfl

theorem _root_.Go.Proofs.Ytjidbonhhpkljaa.Pk.Kp.set0 {r : Nat} {w w1 : World} (h : Kp r w w1) {o : Nat} {v : Value} : Kp r w (w1.setCell ⟨r, o, none⟩ v) := h.set o v 0

set_option maxRecDepth 100000 in
set_option maxHeartbeats 1000000 in
theorem rtake_bad (r p : Nat) (n : Int) (bad : Bool) (s : ByteArray) (w : World) (hm : s.size ≤ maxLen) (hn0 : -9223372036854775808 ≤ n) (hn1 : n ≤ 9223372036854775807) (hp : p ≤ s.size) (hbad : n < 0 ∨ (s.size : Int) - (p : Int) < n) (h : w.heap[r]? = some (rb s p bad)) :
    Calls Try.prog 126 #[.pointer (some ⟨r, 0, none⟩), .int .i64 n] w fun e w' => Kp r w w' ∧ e = .returned (.string ⟨#[]⟩) ∧ w'.heap[r]? = some (rb s p true) := by
  obtain ⟨c0, c1, c2, f0, f1, f2⟩ := rb_cells h
  unfold maxLen at hm
  have HR : Hid (w.heap[r]? = some (rb s p bad)) := h
  clear h
  by_cases h0 : n < 0
  · have hd : decide (n < 0) = true := by simpa using h0
    clear hbad
    go_enter Try.func126, Try.ntmps126
    go_wp2_with fail
    go_quiet (fail)
    go_wp2
    go_ret
    exact ⟨by rw [set_drew0]; exact (Kp.refl _ _).set _ _ _, rfl, by rw [set_drew0]; exact rb_bad HR.out _⟩
  · have hd0 : decide (n < 0) = false := by simp; omega
    have hd : decide ((s.size : Int) - (p : Int) < n) = true := by simp; omega
    clear hbad
    go_enter Try.func126, Try.ntmps126
    go_wp2_with fail
    go_quiet (fail)
    go_wp2
    go_ret
    exact ⟨by rw [set_drew0]; exact (Kp.refl _ _).set _ _ _, rfl, by rw [set_drew0]; exact rb_bad HR.out _⟩

set_option maxRecDepth 100000 in
set_option maxHeartbeats 1000000 in
theorem rtake_ok (r p c : Nat) (bad : Bool) (s : ByteArray) (w : World) (hm : s.size ≤ maxLen) (hp : p + c ≤ s.size) (h : w.heap[r]? = some (rb s p bad)) :
    Calls Try.prog 126 #[.pointer (some ⟨r, 0, none⟩), .int .i64 (c : Int)] w fun e w' => Kp r w w' ∧ e = .returned (.string (s.extract p (p + c))) ∧ w'.heap[r]? = some (rb s (p + c) bad) := by
  obtain ⟨c0, c1, c2, f0, f1, f2⟩ := rb_cells h
  unfold maxLen at hm
  have HR : Hid (w.heap[r]? = some (rb s p bad)) := h
  clear h
  have hd0 : decide ((c : Int) < 0) = false := by simp
  have hd : decide ((s.size : Int) - (p : Int) < (c : Int)) = false := by simp; omega
  have q1 : (0 : Int) ≤ (p : Int) + (c : Int) := by omega
  have q2 : (p : Int) + (c : Int) ≤ (s.size : Int) := by omega
  have q3 : (p : Int) ≤ (p : Int) + (c : Int) := by omega
  have q4 : ((p : Int) + (c : Int)).toNat = p + c := by omega
  go_enter Try.func126, Try.ntmps126
  go_wp2_with fail
  go_quiet (fail)
  generalize nq = m at *
  go_wp2_with fail
  go_quiet (fail)
  go_wp2
  go_ret
  refine ⟨?_, rfl, ?_⟩
  · rw [set_drew0]
    exact (Kp.refl _ _).set _ _ _
  · rw [set_drew0]
    exact rb_at (q := p + c) HR.out _

set_option maxRecDepth 100000 in
set_option maxHeartbeats 1000000 in
theorem rbyte_ok (r p : Nat) (bad : Bool) (s : ByteArray) (w : World) (hm : s.size ≤ maxLen) (hp : p < s.size) (h : w.heap[r]? = some (rb s p bad)) :
    Calls Try.prog 127 #[.pointer (some ⟨r, 0, none⟩)] w fun e w' => Kp r w w' ∧ e = .returned (.int .i64 (s[p].toNat : Int)) ∧ w'.heap[r]? = some (rb s (p + 1) bad) := by
  have HT : Hid (∀ w, w.heap[r]? = some (rb s p bad) → Calls Try.prog 126 #[.pointer (some ⟨r, 0, none⟩), .int .i64 1] w fun e w' => Kp r w w' ∧ e = .returned (.string ⟨#[s[p]]⟩) ∧ w'.heap[r]? = some (rb s (p + 1) bad)) := fun w h => by
    have := rtake_ok r p 1 bad s w hm (by omega) h
    rwa [extract_one s p hp] at this
  have HR : Hid (w.heap[r]? = some (rb s p bad)) := h
  clear h
  have hw : wrap64 (s[p].toNat : Int) = (s[p].toNat : Int) := by have := s[p].toNat_lt; unfold wrap64; omega
  generalize s[p] = x at *
  go_enter Try.func127, Try.ntmps127
  go_wp2_with fail
  refine (HT.out _ HR.out).mono ?_
  rintro e w1 ⟨hK, rfl, hR⟩
  have HK : Hid (Kp r w w1) := hK
  have HR1 : Hid (w1.heap[r]? = some (rb s (p + 1) bad)) := hR
  clear hK hR
  have hne : (ByteArray.toList ⟨#[x]⟩ == ([] : List UInt8)) = false := by
    rw [ByteArray.toList_eq]; rfl
  go_wp2
  go_ret
  exact ⟨HK.out, by show Ending.returned (Value.int .i64 (wrap64 (x.toNat : Int))) = _; rw [hw], HR1.out⟩

set_option maxRecDepth 100000 in
set_option maxHeartbeats 1000000 in
theorem rbyte_bad (r p : Nat) (bad : Bool) (s : ByteArray) (w : World) (hm : s.size ≤ maxLen) (hp : p ≤ s.size) (hp2 : ¬ p < s.size) (h : w.heap[r]? = some (rb s p bad)) :
    Calls Try.prog 127 #[.pointer (some ⟨r, 0, none⟩)] w fun e w' => Kp r w w' ∧ e = .returned (.int .i64 0) ∧ w'.heap[r]? = some (rb s p true) := by
  have HR : Hid (w.heap[r]? = some (rb s p bad)) := h
  clear h
  go_enter Try.func127, Try.ntmps127
  go_wp2_with fail
  refine (rtake_bad r p 1 bad s _ hm (by omega) (by omega) hp (.inr (by omega)) HR.out).mono ?_
  rintro e w1 ⟨hK, rfl, hR⟩
  have HK : Hid (Kp r w w1) := hK
  have HR1 : Hid (w1.heap[r]? = some (rb s p true)) := hR
  clear hK hR
  go_wp2
  go_ret
  exact ⟨HK.out, rfl, HR1.out⟩

/-- A byte, whatever stands there. -/
theorem rbyte_any (r p : Nat) (bad : Bool) (s : ByteArray) (w : World) (hm : s.size ≤ maxLen) (hp : p ≤ s.size) (h : w.heap[r]? = some (rb s p bad)) :
    Calls Try.prog 127 #[.pointer (some ⟨r, 0, none⟩)] w fun e w' => Kp r w w' ∧ ∃ (c q : Nat) (b : Bool), e = .returned (.int .i64 (c : Int)) ∧ c < 256 ∧ q ≤ s.size ∧ w'.heap[r]? = some (rb s q b) ∧ (p < s.size → (bytesOf s)[p]? = some c ∧ q = p + 1 ∧ b = bad) ∧ (¬ p < s.size → b = true) := by
  by_cases hin : p < s.size
  · refine (rbyte_ok r p bad s w hm hin h).mono ?_
    rintro e w' ⟨hK, rfl, hR⟩
    exact ⟨hK, s[p].toNat, p + 1, bad, rfl, s[p].toNat_lt, by omega, hR, fun _ => ⟨by rw [List.getElem?_eq_getElem (by rw [bytesOf_length]; exact hin), bytesOf_get s p hin], rfl, rfl⟩, fun h => absurd hin h⟩
  · refine (rbyte_bad r p bad s w hm hp hin h).mono ?_
    rintro e w' ⟨hK, rfl, hR⟩
    exact ⟨hK, 0, p, true, rfl, by omega, hp, hR, fun h => absurd h hin, fun _ => rfl⟩

/-- 'n + uint64(c) * worth', as words. -/
theorem add_word (X c W : Nat) : ∃ Y : Nat, IntKind.u64.wrap ((X : Int) + IntKind.u64.wrap ((c : Int) * (W : Int))) = (Y : Int) ∧ Y < 18446744073709551616 ∧ (X + c * W < 18446744073709551616 → Y = X + c * W) := by
  refine ⟨(X + c * W) % 18446744073709551616, ?_, Nat.mod_lt _ (by omega), fun h => Nat.mod_eq_of_lt h⟩
  rw [wrap_u64, wrap_u64]
  have : (c : Int) * (W : Int) = ((c * W : Nat) : Int) := by push_cast; rfl
  rw [this]
  omega

set_option maxRecDepth 100000 in
set_option maxHeartbeats 4000000 in
theorem rword_any (r p : Nat) (bad : Bool) (s : ByteArray) (w : World) (hm : s.size ≤ maxLen) (hp : p ≤ s.size) (h : w.heap[r]? = some (rb s p bad)) :
    Calls Try.prog 139 #[.pointer (some ⟨r, 0, none⟩)] w fun e w' => Kp r w w' ∧ ∃ (v q : Nat) (b : Bool), e = .returned (.int .u64 (v : Int)) ∧ v < 18446744073709551616 ∧ q ≤ s.size ∧ w'.heap[r]? = some (rb s q b) ∧
      (∀ x, x < 18446744073709551616 → Starts (bytesOf s) p (vint x) → v = x ∧ q = p + (vint x).length ∧ b = bad) := by
  have HR : Hid (w.heap[r]? = some (rb s p bad)) := h
  clear h
  go_enter Try.func139, Try.ntmps139
  go_wp2_with fail
  go_loopw [3, 4, 5] (fun n wo i wr => ∃ (j X W q : Nat) (b : Bool), j ≤ 10 ∧ i = .int .i64 (j : Int) ∧ n = .int .u64 (X : Int) ∧ X < 18446744073709551616 ∧ wo = .int .u64 (W : Int) ∧ W < 18446744073709551616 ∧ (j ≤ 9 → W = 128 ^ j) ∧ q ≤ s.size ∧ wr.heap[r]? = some (rb s q b) ∧ Kp r w wr ∧
      ((∃ x, x < 18446744073709551616 ∧ Starts (bytesOf s) p (vint x)) → VSt (bytesOf s) p j X ∧ q = p + j ∧ b = bad)) (fun _ _ i _ => 10 - (intOf i).toNat)
  case atStart => exact ⟨0, 0, 1, p, bad, by omega, rfl, rfl, by omega, rfl, by omega, fun _ => by simp, hp, HR.out, Kp.refl _ _, fun _ => ⟨VSt.zero _ _, rfl, rfl⟩⟩
  case round =>
    clear HR
    obtain ⟨j, X, W, q, b, hj, rfl, rfl, hX, rfl, hW, hW2, hq, hR, hK, hG⟩ := hrel
    have HX : Hid (X < 18446744073709551616) := hX
    have HW : Hid (W < 18446744073709551616) := hW
    have HW2 : Hid (j ≤ 9 → W = 128 ^ j) := hW2
    have HRR : Hid (wr.heap[r]? = some (rb s q b)) := hR
    have HK : Hid (Kp r w wr) := hK
    have HG : Hid ((∃ x, x < 18446744073709551616 ∧ Starts (bytesOf s) p (vint x)) → VSt (bytesOf s) p j X ∧ q = p + j ∧ b = bad) := hG
    clear hX hW hW2 hR hK hG
    by_cases hj9 : j < 10
    · go_wp2_with fail
      refine (rbyte_any r q b s _ hm hq HRR.out).mono ?_
      rintro e w1 ⟨hK1, c, q1, b1, rfl, hc, hq1, hR1, hin, hout⟩
      have HK1 : Hid (Kp r w w1) := HK.out.trans hK1
      have HR1 : Hid (w1.heap[r]? = some (rb s q1 b1)) := hR1
      have HIN : Hid (q < s.size → (bytesOf s)[q]? = some c ∧ q1 = q + 1 ∧ b1 = b) := hin
      clear hK1 hR1 hin hout HK HRR
      obtain ⟨Y, hY, hY2, hY3⟩ := add_word X (c % 128) W
      have HY2 : Hid (Y < 18446744073709551616) := hY2
      have HY3 : Hid (X + c % 128 * W < 18446744073709551616 → Y = X + c % 128 * W) := hY3
      clear hY2 hY3
      rw [show ((c % 128 : Nat) : Int) = (c : Int) % 128 from by omega] at hY
      obtain ⟨V, hV, hV2, hV3⟩ : ∃ V : Nat, IntKind.u64.wrap ((W : Int) * 128) = (V : Int) ∧ V < 18446744073709551616 ∧ (W * 128 < 18446744073709551616 → V = W * 128) :=
        ⟨W * 128 % 18446744073709551616, by rw [wrap_u64]; omega, Nat.mod_lt _ (by omega), fun h => Nat.mod_eq_of_lt h⟩
      have HV2 : Hid (V < 18446744073709551616) := hV2
      have HV3 : Hid (W * 128 < 18446744073709551616 → V = W * 128) := hV3
      clear hV2 hV3
      by_cases hhi : 128 ≤ c
      · go_wp2_with fail
        refine ⟨⟨j + 1, Y, V, q1, b1, by omega, by go_num, by first | rfl | rw [hY], HY2.out, by first | rfl | rw [hV], HV2.out, ?_, hq1, HR1.out, HK1.out, ?_⟩, by simp [intOf]; omega⟩
        · intro h9
          have h1 := HW2.out (by omega)
          have h2 : (128 : Nat) ^ (j + 1) ≤ 128 ^ 9 := Nat.pow_le_pow_right (by omega) (by omega)
          have h3 : (128 : Nat) ^ 9 = 9223372036854775808 := by decide
          rw [Nat.pow_succ] at h2 ⊢
          rw [HV3.out (by rw [h1]; omega), h1]
        · intro hg
          obtain ⟨g1, g2, g3⟩ := HG.out hg
          obtain ⟨x, hx, hs⟩ := hg
          have hqs : q < s.size := by
            rcases Nat.lt_or_ge q s.size with h | h
            · exact h
            · exact absurd hs (g1.none (by omega) (by rw [bytesOf_length]; omega) x hx)
          obtain ⟨i1, i2, i3⟩ := HIN.out hqs
          rw [g2] at i1
          have g4 := g1.more (by omega) i1 hhi hc
          have hj8 : j ≤ 8 := by
            rcases Nat.lt_or_ge j 9 with h | h
            · omega
            · have : j + 1 = 10 := by omega
              rw [this] at g4
              exact absurd hs (g4.ten x hx)
          have h1 := HW2.out (by omega)
          have h2 := g4.lt
          have h3 : (128 : Nat) ^ (j + 1) ≤ 128 ^ 9 := Nat.pow_le_pow_right (by omega) (by omega)
          have h4 : (128 : Nat) ^ 9 = 9223372036854775808 := by decide
          have h5 : c % 128 * W = 128 ^ j * (c - 128) := by rw [h1, Nat.mul_comm, show c % 128 = c - 128 by omega]
          rw [HY3.out (by rw [h5]; omega), h5]
          exact ⟨g4, by omega, by rw [i3, g3]⟩
      · go_wp2_with fail
        go_ret
        refine ⟨HK1.out, Y, q1, b1, by first | rfl | rw [← hY]; rfl, HY2.out, hq1, HR1.out, ?_⟩
        intro x hx hs
        obtain ⟨g1, g2, g3⟩ := HG.out ⟨x, hx, hs⟩
        have hqs : q < s.size := by
          rcases Nat.lt_or_ge q s.size with h | h
          · exact h
          · exact absurd hs (g1.none (by omega) (by rw [bytesOf_length]; omega) x hx)
        obtain ⟨i1, i2, i3⟩ := HIN.out hqs
        rw [g2] at i1
        obtain ⟨e1, e2⟩ := (g1.fin (by omega) i1 (by omega) x hx).1 hs
        have h1 := HW2.out (by omega)
        have h5 : c % 128 * W = 128 ^ j * c := by rw [h1, Nat.mul_comm, show c % 128 = c by omega]
        have h6 := g1.fin_len (c := c) (by omega) (by omega) e2
        rw [← e1] at h6
        exact ⟨by rw [HY3.out (by rw [h5]; omega), h5, e1], by rw [h6]; omega, by rw [i3, g3]⟩
    · obtain rfl : j = 10 := by omega
      obtain ⟨c0, c1, c2, f0, f1, f2⟩ := rb_cells HRR.out
      go_wp2
      go_ret
      refine ⟨HK.out.set0, 0, q, true, rfl, by omega, hq, rb_bad0 HRR.out, ?_⟩
      intro x hx hs
      obtain ⟨g1, g2, g3⟩ := HG.out ⟨x, hx, hs⟩
      exact absurd hs (g1.ten x hx)

set_option maxRecDepth 100000 in
set_option maxHeartbeats 1000000 in
theorem rnumber_any (r p M : Nat) (bad : Bool) (s : ByteArray) (w : World) (hM : M ≤ 1000) (hm : s.size ≤ maxLen) (hp : p ≤ s.size) (h : w.heap[r]? = some (rb s p bad)) :
    Calls Try.prog 125 #[.pointer (some ⟨r, 0, none⟩), .int .i64 (M : Int)] w fun e w' => Kp r w w' ∧ ∃ (v q : Nat) (b : Bool), e = .returned (.int .i64 (v : Int)) ∧ v ≤ M ∧ q ≤ s.size ∧ w'.heap[r]? = some (rb s q b) ∧
      (∀ x, x ≤ M → Starts (bytesOf s) p (vint x) → v = x ∧ q = p + (vint x).length ∧ b = bad) := by
  have HR : Hid (w.heap[r]? = some (rb s p bad)) := h
  clear h
  go_enter Try.func125, Try.ntmps125
  go_wp2_with fail
  refine (rword_any r p bad s _ hm hp HR.out).mono ?_
  rintro e w1 ⟨hK, v, q, b, rfl, hv, hq, hR, hu⟩
  have HK : Hid (Kp r w w1) := hK
  have HR1 : Hid (w1.heap[r]? = some (rb s q b)) := hR
  have HV : Hid (v < 18446744073709551616) := hv
  have HU : Hid _ := hu
  obtain ⟨c0, c1, c2, f0, f1, f2⟩ := rb_cells hR
  have hwM : IntKind.u64.wrap (M : Int) = (M : Int) := by rw [wrap_u64]; omega
  clear hK hR hv hu HR
  by_cases hbig : M < v
  · have hd : decide ((M : Int) < (v : Int)) = true := by simp; omega
    have HB : Hid (M < v) := hbig
    clear hbig
    go_wp2
    go_ret
    refine ⟨HK.out.set0, 0, q, true, rfl, by omega, hq, rb_bad0 HR1.out, ?_⟩
    intro x hx hs
    have := (HU.out x (by omega) hs).1
    have := HB.out
    omega
  · have hd : decide ((M : Int) < (v : Int)) = false := by simp; omega
    have hw : wrap64 (v : Int) = (v : Int) := by unfold wrap64; omega
    have HB : Hid (¬ M < v) := hbig
    clear hbig
    go_wp2
    go_ret
    exact ⟨HK.out, v, q, b, by first | rfl | (rw [← hw]; rfl), by have := HB.out; omega, hq, HR1.out, fun x hx hs => HU.out x (by omega) hs⟩
end Go.Proofs.Ytjidbonhhpkljaa.Ec

/- The contracts of the code's Reader: a text is taken, a varint, a number, a bit; or the bytes are given up by a panic. -/
set_option linter.unusedVariables false
namespace Go.Proofs.Ytjidbonhhpkljaa.Ec
open Go.RowKit Go.Proofs.Ytjidbonhhpkljaa.Pk Go.Proofs.Ytjidbonhhpkljaa.Pm

theorem byte_at (s : ByteArray) (p : Nat) (h : p < s.size) : (bytesOf s)[p]? = some s[p].toNat := by
  rw [List.getElem?_eq_getElem (by rw [bytesOf_length]; exact h), bytesOf_get s p h]

theorem and_u8 (c : Nat) (h : c < 256) : bits .and .u8 (c : Int) 127 = ((c % 128 : Nat) : Int) := by
  have := bits_mask .u8 8 (by decide) wraps_u8 7 (by decide) (c : Int) (by omega) (by omega)
  rw [show (127 : Int) = 2 ^ 7 - 1 from by decide, this]
  omega
theorem wraps_u64 (n : Int) (h₀ : 0 ≤ n) (h₁ : n < 2 ^ 64) : IntKind.u64.wrap n = n := by rw [wrap_u64]; omega

theorem bytesOf_extract (s : ByteArray) (p q : Nat) : bytesOf (s.extract p q) = ((bytesOf s).drop p).take (q - p) := by
  unfold bytesOf
  rw [ByteArray.data_extract]
  simp only [Array.toList_extract, List.extract_eq_take_drop, List.map_take, List.map_drop]

set_option maxRecDepth 100000 in
set_option maxHeartbeats 1000000 in
theorem takeN_bad (r p c : Nat) (s : ByteArray) (w : World) (hm : s.size ≤ maxLen) (hc : c ≤ 2147483648) (hp : ¬ p + c ≤ s.size) (hp2 : p ≤ s.size) (h : w.heap[r]? = some (rdr s p)) :
    Calls Try.prog 119 #[.pointer (some ⟨r, 0, none⟩), .int .i64 (c : Int)] w fun e w' => e = .panicked (badAt p) ∧ ∃ n, w' = w.drewN n := by
  obtain ⟨c0, c1, f0, f1⟩ := rdr_cells h
  unfold maxLen at hm
  have HR : Hid (w.heap[r]? = some (rdr s p)) := h
  clear h
  have hd0 : decide ((c : Int) < 0) = false := by simp
  have hd : decide ((s.size : Int) - (p : Int) < (c : Int)) = true := by simp; omega
  go_enter Try.func119, Try.ntmps119
  go_wp2_with fail
  go_quiet (fail)
  go_wp2_with (go_at_call 84; refine (giveUp_any r p s _ (by exact HR.out)).mono ?_; rintro e w' ⟨rfl, rfl⟩)
  exact ⟨rfl, rfl, nq, rfl⟩

set_option maxRecDepth 100000 in
set_option maxHeartbeats 1000000 in
theorem takeN_ok (r p c : Nat) (s : ByteArray) (w : World) (hm : s.size ≤ maxLen) (hp : p + c ≤ s.size) (h : w.heap[r]? = some (rdr s p)) :
    Calls Try.prog 119 #[.pointer (some ⟨r, 0, none⟩), .int .i64 (c : Int)] w fun e w' => e = .returned (.string (s.extract p (p + c))) ∧ ∃ n, w' = (w.setCell ⟨r, 1, none⟩ (.int .i64 ((p + c : Nat) : Int))).drewN n := by
  obtain ⟨c0, c1, f0, f1⟩ := rdr_cells h
  unfold maxLen at hm
  clear h
  have hd0 : decide ((c : Int) < 0) = false := by simp
  have hd : decide ((s.size : Int) - (p : Int) < (c : Int)) = false := by simp; omega
  have q1 : (0 : Int) ≤ (p : Int) + (c : Int) := by omega
  have q2 : (p : Int) + (c : Int) ≤ (s.size : Int) := by omega
  have q3 : (p : Int) ≤ (p : Int) + (c : Int) := by omega
  have q4 : ((p : Int) + (c : Int)).toNat = p + c := by omega
  go_enter Try.func119, Try.ntmps119
  go_wp2_with fail
  go_quiet (fail)
  generalize nq = m at *
  go_wp2_with fail
  go_quiet (fail)
  go_wp2
  go_ret
  exact ⟨rfl, m + nq, drew_set _ _ _ _ _⟩

set_option maxRecDepth 100000 in
set_option maxHeartbeats 1000000 in
theorem bit_any (r p : Nat) (s : ByteArray) (w : World) (hm : s.size ≤ maxLen) (hp : p ≤ s.size) (h : w.heap[r]? = some (rdr s p)) :
    Calls Try.prog 113 #[.pointer (some ⟨r, 0, none⟩)] w fun e w' => Kp r w w' ∧ ((∃ b : Int, e = .returned (.int .i64 b) ∧ (b = 0 ∨ b = 1) ∧ Starts (bytesOf s) p [b.toNat] ∧ w'.heap[r]? = some (rdr s (p + 1)) ∧ p + 1 ≤ s.size) ∨
      (∃ q, e = .panicked (badAt q) ∧ ∀ b : Int, (b = 0 ∨ b = 1) → ¬ Starts (bytesOf s) p [b.toNat])) := by
  have HR : Hid (w.heap[r]? = some (rdr s p)) := h
  clear h
  by_cases hin : p < s.size
  · have HB := byte_at s p hin
    have HC : Hid (∀ w, w.heap[r]? = some (rdr s p) → Calls Try.prog 83 #[.pointer (some ⟨r, 0, none⟩)] w fun e w' => e = .returned (.int .u8 (s[p].toNat : Int)) ∧ ∃ n, w' = (w.setCell ⟨r, 1, none⟩ (.int .i64 ((p + 1 : Nat) : Int))).drewN n) :=
      fun w hw => byte_ok r p s w hm hin hw
    have hc : s[p].toNat < 256 := s[p].toNat_lt
    have HBH : Hid ((bytesOf s)[p]? = some s[p].toNat) := HB
    clear HB
    generalize s[p].toNat = c at *
    by_cases h1 : c ≤ 1
    · have hg : decide ((1 : Int) < (c : Int)) = false := by simp; omega
      go_enter Try.func113, Try.ntmps113
      go_wp2_with (go_at_call 83; refine (HC.out _ HR.out).mono ?_; rintro e w' ⟨rfl, n, rfl⟩)
      go_ret
      refine ⟨(Kp.refl _ _).set _ _ n, .inl ⟨(c : Int), by first | rfl | (congr 2; omega), by omega, ?_, rdr_set HR.out n, by omega⟩⟩
      rw [starts_one, HBH.out]
      simp
    · have hg : decide ((1 : Int) < (c : Int)) = true := by simp; omega
      have HNO : Hid (∀ b : Int, (b = 0 ∨ b = 1) → ¬ Starts (bytesOf s) p [b.toNat]) := by
        intro b hb
        rw [starts_one, HBH.out]
        simp
        omega
      go_enter Try.func113, Try.ntmps113
      go_wp2_with first | (go_at_call 83; refine (HC.out _ HR.out).mono ?_; rintro e w' ⟨rfl, n, rfl⟩) | (go_at_call 84; refine (giveUp_any r (p + 1) s _ (by exact rdr_set HR.out _)).mono ?_; rintro e w' ⟨rfl, rfl⟩)
      exact ⟨rfl, (Kp.refl _ _).set _ _ n, .inr ⟨_, rfl, HNO.out⟩⟩
  · have HNO : Hid (∀ b : Int, (b = 0 ∨ b = 1) → ¬ Starts (bytesOf s) p [b.toNat]) := by
      intro b hb hs
      have := starts_len hs (by rw [bytesOf_length]; exact hp)
      rw [bytesOf_length] at this
      simp at this
      omega
    go_enter Try.func113, Try.ntmps113
    go_wp2_with (go_at_call 83; refine (byte_bad r p s _ hm hin hp HR.out).mono ?_; rintro e w' ⟨rfl, n, rfl⟩)
    exact ⟨rfl, (Kp.refl _ _).drewN n, .inr ⟨_, rfl, HNO.out⟩⟩
end Go.Proofs.Ytjidbonhhpkljaa.Ec
