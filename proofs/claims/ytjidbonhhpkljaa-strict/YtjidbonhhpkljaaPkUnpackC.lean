/- The contract of the code's Unpack: the document's answer, in new memory. -/
import Derived.Test.YtjidbonhhpkljaaPkWhole
set_option linter.unusedVariables false
namespace Go.Proofs.Ytjidbonhhpkljaa.Pk
open Go.RowKit Go.Proofs.Ytjidbonhhpkljaa.Pm

theorem heldOf_ok (s : ByteArray) (wd cn : Nat) : (readOk s 0 wd cn ∧ 0 + (cn * wd + 7) / 8 = s.size) ↔ unpackOk s wd cn = true := by
  have hv : restV s 0 = V (bytesOf s) := by simp [restV]
  rw [unpackOk_iff, readOk, hv]
  have hl := V_lt (bytesOf s) (bytesOf_lt s)
  rw [bytesOf_length, pow256] at hl
  constructor
  · rintro ⟨⟨h1, h2⟩, h3⟩
    rw [Nat.zero_add] at h3
    refine ⟨h3.symm, ?_⟩
    unfold heldOf at h2
    rw [h3, Nat.mod_eq_of_lt hl] at h2
    rcases Nat.div_eq_zero_iff.1 h2 with h4 | h4
    · have := Nat.pow_pos (n := wd * cn) (show 0 < 2 by omega); omega
    · exact h4
  · rintro ⟨h1, h2⟩
    refine ⟨⟨by omega, ?_⟩, by omega⟩
    unfold heldOf
    rw [← h1, Nat.mod_eq_of_lt hl]
    exact Nat.div_eq_of_lt h2


set_option maxRecDepth 100000 in
set_option maxHeartbeats 1000000 in
theorem unpackC_any (s : ByteArray) (r wd cn x y : Nat) (w : World) (hm : s.size ≤ maxLen) (hw : wd ≤ 16) (hcn : cn ≤ 100) (h : w.heap[r]? = some (rdr s 0))
    (hx : w.cell? ⟨x, 0, none⟩ = some (.int .i64 wd)) (hy : w.cell? ⟨y, 0, none⟩ = some (.int .i64 cn)) :
    Calls Try.prog 52 #[.pointer (some ⟨r, 0, none⟩), .pointer (some ⟨x, 0, none⟩), .pointer (some ⟨y, 0, none⟩)] w fun e w' => Kp r w w' ∧
      ((∃ v n xs q, e = .returned v ∧ w'.heap[r]? = some (rdr s q) ∧ q ≤ s.size ∧ w'.ownsRow w.heap.size 3 1 v n xs ∧ (n = cn ∧ xs = icells (intsOf (D wd (V (bytesOf s)) cn)) ∧ q = (cn * wd + 7) / 8 ∧ readOk s 0 wd cn)) ∨
       (∃ q, e = .panicked (badAt q) ∧ ¬ readOk s 0 wd cn)) := by
  have HR : Hid (w.heap[r]? = some (rdr s 0)) := h
  clear h
  go_enter Try.func52, Try.ntmps52
  go_wp2_with fail
  refine (readPacked_any s r 0 wd cn _ hm hw hcn (Nat.zero_le _) HR.out).mono ?_
  rintro e w' ⟨hK, ⟨rfl, h1, h2, h3⟩ | ⟨q, rfl, h1⟩⟩
  · have H2 : Hid (w'.heap[r]? = some (rdr s (0 + (cn * wd + 7) / 8))) := h2
    have HK : Hid (Kp r w w') := hK
    have HO : Hid (readOk s 0 wd cn) := h1
    have H3 : Hid _ := h3
    clear h2 hx hy hK h1 h3
    go_wp2
    go_ret
    exact ⟨HK.out, .inl ⟨_, cn, _, (cn * wd + 7) / 8, rfl, by simpa using H2.out, by have := HO.out.1; omega, H3.out, rfl, by simp [restV], rfl, HO.out⟩⟩
  · have HK : Hid (Kp r w w') := hK
    have HO : Hid (¬ readOk s 0 wd cn) := h1
    clear hx hy hK h1
    go_wp2
    exact ⟨rfl, HK.out, .inr ⟨q, rfl, HO.out⟩⟩

set_option maxRecDepth 100000 in
set_option maxHeartbeats 1000000 in
theorem readWholeI_any (s : ByteArray) (wd cn x y : Nat) (w : World) (hm : s.size ≤ maxLen) (hw : wd ≤ 16) (hcn : cn ≤ 100)
    (hx : w.cell? ⟨x, 0, none⟩ = some (.int .i64 wd)) (hy : w.cell? ⟨y, 0, none⟩ = some (.int .i64 cn)) (hxl : x < w.heap.size) (hyl : y < w.heap.size) :
    Calls Try.prog 51 #[.string s, .func (.func 52) #[] #[.pointer (some ⟨x, 0, none⟩), .pointer (some ⟨y, 0, none⟩)]] w fun e w' => Below w.heap.size w w' ∧
      ((∃ v, e = .returned (.tuple #[v, .int .i64 0]) ∧ w'.ownsRow w.heap.size 3 1 v cn (icells (intsOf (D wd (V (bytesOf s)) cn))) ∧ unpackOk s wd cn = true) ∨ (e = .returned (.tuple #[.slice none 0 0, .int .i64 3]) ∧ unpackOk s wd cn = false)) := by
  have HX : Hid _ := hx
  have HY : Hid _ := hy
  clear hx hy
  go_enter Try.func51, Try.ntmps51
  go_wp2_with fail
  refine (wholeI_any (.pointer (some ⟨x, 0, none⟩)) (.pointer (some ⟨y, 0, none⟩)) s w hm 3 1 (fun n xs q => n = cn ∧ xs = icells (intsOf (D wd (V (bytesOf s)) cn)) ∧ q = (cn * wd + 7) / 8 ∧ readOk s 0 wd cn) (¬ readOk s 0 wd cn)
    (fun W r hb hr hR => unpackC_any s r wd cn x y W hm hw hcn hR ((hb.cell (p := ⟨x, 0, none⟩) hxl).trans HX.out) ((hb.cell (p := ⟨y, 0, none⟩) hyl).trans HY.out))).mono ?_
  rintro e w1 ⟨hB, ⟨v, n, xs, rfl, hown, rfl, rfl, hq, hro⟩ | ⟨rfl, hN⟩⟩
  · have HB : Hid _ := hB
    have HO : Hid (w1.ownsRow w.heap.size 3 1 v n (icells (intsOf (D wd (V (bytesOf s)) n)))) := hown
    have HU : Hid (unpackOk s wd n = true) := (heldOf_ok s wd n).1 ⟨hro, by omega⟩
    clear hB hown hq hro
    go_wp2
    go_ret2
    exact ⟨HB.out, .inl ⟨v, rfl, HO.out, HU.out⟩⟩
  · have HB : Hid _ := hB
    have HU : Hid (unpackOk s wd cn = false) := by
      show _ = _
      rw [Bool.eq_false_iff]
      intro hu
      obtain ⟨h1, h2⟩ := (heldOf_ok s wd cn).2 hu
      rcases hN with hN | ⟨n, xs, q, ⟨_, _, hq, _⟩, hlt⟩
      · exact hN h1
      · omega
    clear hB hN
    go_wp2
    go_ret2
    exact ⟨HB.out, .inr ⟨rfl, HU.out⟩⟩

theorem two_0 (w : World) (a b : Obj) : ((w.alloc a).alloc b).heap[w.heap.size]? = some a := by
  rw [Below.heap_alloc _ _ _ (by simp)]; exact heap_alloc_new w a
theorem two_1 (w : World) (a b : Obj) : ((w.alloc a).alloc b).heap[w.heap.size + 1]? = some b := by
  have := heap_alloc_new (w.alloc a) b
  rwa [show (w.alloc a).heap.size = w.heap.size + 1 from by simp] at this

set_option maxRecDepth 100000 in
set_option maxHeartbeats 1000000 in
theorem cUnpack_any (s : ByteArray) (wd cn : Int) (w : World) (hm : s.size ≤ maxLen) :
    Calls Try.prog 24 #[.string s, .int .i64 wd, .int .i64 cn] w fun e w' => ∃ v, e = .returned (.tuple #[v, .int .i64 (unpackOf s wd cn).2]) ∧
      w'.ownsRow w.heap.size 3 1 v (unpackOf s wd cn).1.length (icells (unpackOf s wd cn).1) ∧ ((unpackOf s wd cn).2 ≠ 0 → v = .slice none 0 0) ∧ Below w.heap.size w w' := by
  have hB : Below w.heap.size w ((w.alloc (.cells #[.int .i64 wd] 3)).alloc (.cells #[.int .i64 cn] 3)) := ((Below.refl _ _).alloc (Nat.le_refl _) _).alloc (by simp) _
  have H := checkPacking_any cn wd
  by_cases h1 : cn < 0 ∨ 100 < cn
  · rw [unpackOf_long h1]
    rw [show packE cn wd = 6 from by simp [packE, h1]] at H
    clear h1
    go_enter Try.func24, Try.ntmps24
    go_wp2_with (go_at_call 36; refine (H _).mono ?_; rintro e w' ⟨rfl, rfl⟩)
    go_ret2
    exact ⟨_, rfl, World.ownsRow_nil _ _ _ _, fun _ => rfl, hB⟩
  by_cases h2 : wd < 0 ∨ 16 < wd
  · rw [unpackOf_wide h1 h2]
    rw [show packE cn wd = 2 from by simp [packE, h1, h2]] at H
    clear h1 h2
    go_enter Try.func24, Try.ntmps24
    go_wp2_with (go_at_call 36; refine (H _).mono ?_; rintro e w' ⟨rfl, rfl⟩)
    go_ret2
    exact ⟨_, rfl, World.ownsRow_nil _ _ _ _, fun _ => rfl, hB⟩
  rw [show packE cn wd = 0 from by simp [packE, h1, h2]] at H
  obtain ⟨cm, rfl⟩ := Int.eq_ofNat_of_zero_le (show 0 ≤ cn by omega)
  obtain ⟨wm, rfl⟩ := Int.eq_ofNat_of_zero_le (show 0 ≤ wd by omega)
  have h3 : cm ≤ 100 := by omega
  have h4 : wm ≤ 16 := by omega
  clear h1 h2
  have c0 := cell_of_one (two_0 w (.cells #[.int .i64 (wm : Int)] 3 (0, 0)) (.cells #[.int .i64 (cm : Int)] 3 (0, 0)))
  have c1 := cell_of_one (two_1 w (.cells #[.int .i64 (wm : Int)] 3 (0, 0)) (.cells #[.int .i64 (cm : Int)] 3 (0, 0)))
  have hmf : ∀ (fn : Fn) (first cap : Array Value) (w : World), (Instr.makeFunc fn first cap).run Try.prog w = .ok (.func fn first cap) w := fun _ _ _ _ => rfl
  have hsz : ((w.alloc (.cells #[.int .i64 (wm : Int)] 3)).alloc (.cells #[.int .i64 (cm : Int)] 3)).heap.size = w.heap.size + 2 := by simp
  have C0 : Hid _ := c0
  have C1 : Hid _ := c1
  have HSZ : Hid _ := hsz
  clear c0 c1 hsz
  by_cases hok : unpackOk s wm cm = true
  · rw [unpackOf_ok h3 h4 hok]
    have HOK : Hid (unpackOk s wm cm = true) := hok
    clear hok
    go_enter Try.func24, Try.ntmps24
    go_wp2_with (go_at_call 36; refine (H _).mono ?_; rintro e w' ⟨rfl, rfl⟩)
    generalize ((w.alloc (.cells #[.int .i64 (wm : Int)] 3)).alloc (.cells #[.int .i64 (cm : Int)] 3)) = W2 at *
    refine (readWholeI_any s wm cm w.heap.size (w.heap.size + 1) W2 hm h4 h3 C0.out C1.out (by have := HSZ.out; omega) (by have := HSZ.out; omega)).mono ?_
    rintro e w' ⟨hbel, ⟨v, rfl, hown, _⟩ | ⟨_, hno⟩⟩
    rotate_left
    · rw [HOK.out] at hno; cases hno
    go_wp2
    go_ret2
    have hsz := HSZ.out
    refine ⟨_, rfl, ?_, fun h => absurd rfl h, hB.trans (hbel.mono (by omega))⟩
    have hl : (intsOf (D wm (V (bytesOf s)) cm)).length = cm := by simp [intsOf, D_length]
    show w'.ownsRow w.heap.size 3 1 _ (intsOf (D wm (V (bytesOf s)) cm)).length _
    rw [hl]
    exact ownsRow_base hown (by omega)
  · have hok2 : unpackOk s wm cm = false := by simpa using hok
    rw [unpackOf_bad h3 h4 hok2]
    have HOK : Hid (unpackOk s wm cm = false) := hok2
    clear hok hok2
    go_enter Try.func24, Try.ntmps24
    go_wp2_with (go_at_call 36; refine (H _).mono ?_; rintro e w' ⟨rfl, rfl⟩)
    generalize ((w.alloc (.cells #[.int .i64 (wm : Int)] 3)).alloc (.cells #[.int .i64 (cm : Int)] 3)) = W2 at *
    refine (readWholeI_any s wm cm w.heap.size (w.heap.size + 1) W2 hm h4 h3 C0.out C1.out (by have := HSZ.out; omega) (by have := HSZ.out; omega)).mono ?_
    rintro e w' ⟨hbel, ⟨v, rfl, hown, hno⟩ | ⟨rfl, _⟩⟩
    · rw [HOK.out] at hno; cases hno
    go_wp2
    go_ret2
    have hsz := HSZ.out
    exact ⟨_, rfl, World.ownsRow_nil _ _ _ _, fun _ => rfl, hB.trans (hbel.mono (by omega))⟩
end Go.Proofs.Ytjidbonhhpkljaa.Pk
