/- The contract of the code's Unpack: the document's answer, in new memory. -/
import Derived.Test.YtpalaloknoiddaaPkCodecW
set_option linter.unusedVariables false
namespace Go.Proofs.Ytpalaloknoiddaa.Pk
open Go.RowKit Go.Proofs.Ytpalaloknoiddaa.Pm

theorem two_0 (w : World) (a b : Obj) : ((w.alloc a).alloc b).heap[w.heap.size]? = some a := by
  rw [Below.heap_alloc _ _ _ (by simp)]; exact heap_alloc_new w a
theorem two_1 (w : World) (a b : Obj) : ((w.alloc a).alloc b).heap[w.heap.size + 1]? = some b := by
  have := heap_alloc_new (w.alloc a) b
  rwa [show (w.alloc a).heap.size = w.heap.size + 1 from by simp] at this

set_option maxRecDepth 100000 in
set_option maxHeartbeats 1000000 in
theorem cUnpack_any (s : ByteArray) (wd cn : Int) (w : World) (hm : s.size ≤ maxLen) :
    Calls Try.prog 22 #[.string s, .int .i64 wd, .int .i64 cn] w fun e w' => ∃ v, e = .returned (.tuple #[v, .int .i64 (unpackOf s wd cn).2]) ∧
      w'.ownsRow w.heap.size 3 1 v (unpackOf s wd cn).1.length (icells (unpackOf s wd cn).1) ∧ ((unpackOf s wd cn).2 ≠ 0 → v = .slice none 0 0) ∧ Below w.heap.size w w' := by
  have hB : Below w.heap.size w ((w.alloc (.cells #[.int .i64 wd] 3)).alloc (.cells #[.int .i64 cn] 3)) := ((Below.refl _ _).alloc (Nat.le_refl _) _).alloc (by simp) _
  have H := checkPacking_any cn wd
  by_cases h1 : cn < 0 ∨ 100 < cn
  · rw [unpackOf_long h1]
    rw [show packE cn wd = 6 from by simp [packE, h1]] at H
    clear h1
    go_enter Try.func22, Try.ntmps22
    go_wp2_with (go_at_call 25; refine (H _).mono ?_; rintro e w' ⟨rfl, rfl⟩)
    go_ret2
    exact ⟨_, rfl, World.ownsRow_nil _ _ _ _, fun _ => rfl, hB⟩
  by_cases h2 : wd < 0 ∨ 16 < wd
  · rw [unpackOf_wide h1 h2]
    rw [show packE cn wd = 2 from by simp [packE, h1, h2]] at H
    clear h1 h2
    go_enter Try.func22, Try.ntmps22
    go_wp2_with (go_at_call 25; refine (H _).mono ?_; rintro e w' ⟨rfl, rfl⟩)
    go_ret2
    exact ⟨_, rfl, World.ownsRow_nil _ _ _ _, fun _ => rfl, hB⟩
  rw [show packE cn wd = 0 from by simp [packE, h1, h2]] at H
  obtain ⟨cm, rfl⟩ := Int.eq_ofNat_of_zero_le (show 0 ≤ cn by omega)
  obtain ⟨wm, rfl⟩ := Int.eq_ofNat_of_zero_le (show 0 ≤ wd by omega)
  have h3 : cm ≤ 100 := by omega
  have h4 : wm ≤ 16 := by omega
  clear h1 h2
  have c0 := cell_of_one (two_0 w (.cells #[.int .i64 (wm : Int)] 3 (0, 0)) (.cells #[.int .i64 (cm : Int)] 3 (0, 0)))
  have c1 := cell_of_one (two_1 w (.cells #[.int .i64 (wm : Int)] 3 (0, 0)) (.cells #[.int .i64 (cm : Int)] 3 (0, 0)))
  have hmf : ∀ (fn : Fn) (first cap : Array Value) (w : World), (Instr.makeFunc fn first cap).run Try.prog w = .ok (.func fn first cap) w := fun _ _ _ _ => rfl
  have hsz : ((w.alloc (.cells #[.int .i64 (wm : Int)] 3)).alloc (.cells #[.int .i64 (cm : Int)] 3)).heap.size = w.heap.size + 2 := by simp
  have C0 : Hid _ := c0
  have C1 : Hid _ := c1
  have HSZ : Hid _ := hsz
  clear c0 c1 hsz
  by_cases hok : unpackOk s wm cm = true
  · rw [unpackOf_ok h3 h4 hok]
    have HOK : Hid (unpackOk s wm cm = true) := hok
    clear hok
    go_enter Try.func22, Try.ntmps22
    go_wp2_with (go_at_call 25; refine (H _).mono ?_; rintro e w' ⟨rfl, rfl⟩)
    generalize ((w.alloc (.cells #[.int .i64 (wm : Int)] 3)).alloc (.cells #[.int .i64 (cm : Int)] 3)) = W2 at *
    refine (readWhole_ok s wm cm w.heap.size (w.heap.size + 1) W2 hm h4 h3 C0.out C1.out (by have := HSZ.out; omega) (by have := HSZ.out; omega) HOK.out).mono ?_
    rintro e w' ⟨g, rfl, hown, hbel⟩
    go_wp2
    go_ret2
    have hsz := HSZ.out
    refine ⟨_, rfl, ?_, fun h => absurd rfl h, hB.trans (hbel.mono (by omega))⟩
    have hl : (intsOf (D wm (V (bytesOf s)) cm)).length = cm := by simp [intsOf, D_length]
    show w'.ownsRow w.heap.size 3 1 _ (intsOf (D wm (V (bytesOf s)) cm)).length _
    rw [hl]
    exact ownsRow_base hown (by omega)
  · have hok2 : unpackOk s wm cm = false := by simpa using hok
    rw [unpackOf_bad h3 h4 hok2]
    have HOK : Hid (unpackOk s wm cm = false) := hok2
    clear hok hok2
    go_enter Try.func22, Try.ntmps22
    go_wp2_with (go_at_call 25; refine (H _).mono ?_; rintro e w' ⟨rfl, rfl⟩)
    generalize ((w.alloc (.cells #[.int .i64 (wm : Int)] 3)).alloc (.cells #[.int .i64 (cm : Int)] 3)) = W2 at *
    refine (readWhole_bad s wm cm w.heap.size (w.heap.size + 1) W2 hm h4 h3 C0.out C1.out (by have := HSZ.out; omega) (by have := HSZ.out; omega) HOK.out).mono ?_
    rintro e w' ⟨rfl, hbel⟩
    go_wp2
    go_ret2
    have hsz := HSZ.out
    exact ⟨_, rfl, World.ownsRow_nil _ _ _ _, fun _ => rfl, hB.trans (hbel.mono (by omega))⟩
end Go.Proofs.Ytpalaloknoiddaa.Pk
