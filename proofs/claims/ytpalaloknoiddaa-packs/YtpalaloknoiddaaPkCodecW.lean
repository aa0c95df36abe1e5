/- The contract of readWhole at numbers, where the bytes are given up; and the code's Unpack. -/
import Derived.Test.YtpalaloknoiddaaPkCodecV
set_option linter.unusedVariables false
namespace Go.Proofs.Ytpalaloknoiddaa.Pk
open Go.RowKit Go.Proofs.Ytpalaloknoiddaa.Pm

theorem final_bad {w w4 : World} {v : Value} (hL : w4.heap[w.heap.size]? = some (.cells #[v] 22 (0, 0))) (hE : w4.heap[w.heap.size + 1]? = some (.cells #[.int .i64 0] 23 (0, 0))) (hB : Below w.heap.size w w4) :
    let W := (w4.setCell ⟨w.heap.size, 0, none⟩ (.slice none 0 0)).setCell ⟨w.heap.size + 1, 0, none⟩ (.int .i64 3)
    W.cell? ⟨w.heap.size, 0, none⟩ = some (.slice none 0 0) ∧ W.cell? ⟨w.heap.size + 1, 0, none⟩ = some (.int .i64 3) ∧ Below w.heap.size w W := by
  have a1 := one_setCell (u := .slice none 0 0) hL
  have a3 : (w4.setCell ⟨w.heap.size, 0, none⟩ (.slice none 0 0)).heap[w.heap.size + 1]? = some (.cells #[.int .i64 0] 23 (0, 0)) := by
    rw [heap_setCell_other _ _ _ _ (by simp)]; exact hE
  refine ⟨?_, cell_of_one (one_setCell a3), ?_⟩
  · refine cell_of_one (t := 22) ?_
    rw [heap_setCell_other _ _ _ _ (by simp)]
    exact a1
  · exact (hB.setCell (Nat.le_refl _) _).setCell (Nat.le_succ _) _

theorem catch_at {w w4 : World} {v : Value} (q : Nat) (hL : w4.heap[w.heap.size]? = some (.cells #[v] 22 (0, 0))) (hE : w4.heap[w.heap.size + 1]? = some (.cells #[.int .i64 0] 23 (0, 0))) :
    CallsD Try.prog 62 #[.pointer (some ⟨w.heap.size, 0, none⟩), .pointer (some ⟨w.heap.size + 1, 0, none⟩)] (.panicking (badAt q)) w4 fun e u' w' =>
      e = .returned (.tuple #[]) ∧ u' = .panicking [{ v := .iface 123 (.agg #[.int .i64 (q : Int)]), recovered := true }] ∧ w' = (w4.setCell ⟨w.heap.size, 0, none⟩ (.slice none 0 0)).setCell ⟨w.heap.size + 1, 0, none⟩ (.int .i64 3) := by
  have a3 : (w4.setCell ⟨w.heap.size, 0, none⟩ (.slice none 0 0)).heap[w.heap.size + 1]? = some (.cells #[.int .i64 0] 23 (0, 0)) := by
    rw [heap_setCell_other _ _ _ _ (by simp)]; exact hE
  exact catch_panicking _ _ _ _ _ _ [] w4 (cell_of_one hL) (free_of_one hL) (cell_of_one a3) (free_of_one a3)

set_option maxRecDepth 100000 in
set_option maxHeartbeats 1000000 in
theorem readWhole_bad (s : ByteArray) (wd cn x y : Nat) (w : World) (hm : s.size ≤ maxLen) (hw : wd ≤ 16) (hcn : cn ≤ 100)
    (hx : w.cell? ⟨x, 0, none⟩ = some (.int .i64 wd)) (hy : w.cell? ⟨y, 0, none⟩ = some (.int .i64 cn)) (hxl : x < w.heap.size) (hyl : y < w.heap.size) (hok : unpackOk s wd cn = false) :
    Calls Try.prog 41 #[.string s, .func (.func 42) #[] #[.pointer (some ⟨x, 0, none⟩), .pointer (some ⟨y, 0, none⟩)]] w fun e w' => e = .returned (.tuple #[.slice none 0 0, .int .i64 3]) ∧ Below w.heap.size w w' := by
  have hno : ¬ (readOk s 0 wd cn ∧ 0 + (cn * wd + 7) / 8 = s.size) := by rw [heldOf_ok]; simp [hok]
  have HNO : Hid (¬ (readOk s 0 wd cn ∧ 0 + (cn * wd + 7) / 8 = s.size)) := hno
  clear hno hok
  have hmf : ∀ (fn : Fn) (first cap : Array Value) (w : World), (Instr.makeFunc fn first cap).run Try.prog w = .ok (.func fn first cap) w := fun _ _ _ _ => rfl
  go_enter_defers Try.func41, Try.ntmps41
  go_wp2_with (go_at_call 57; refine (newReader_any s _).mono ?_; rintro e w' ⟨rfl, rfl⟩)
  have hL : (((w.alloc (.cells #[.slice none 0 0] 22)).alloc (.cells #[.int .i64 0] 23)).alloc (rdr s 0)).heap[w.heap.size]? = some (.cells #[.slice none 0 0] 22 (0, 0)) := three_0 _ _ _ _
  have hE : (((w.alloc (.cells #[.slice none 0 0] 22)).alloc (.cells #[.int .i64 0] 23)).alloc (rdr s 0)).heap[w.heap.size + 1]? = some (.cells #[.int .i64 0] 23 (0, 0)) := three_1 _ _ _ _
  have hR : (((w.alloc (.cells #[.slice none 0 0] 22)).alloc (.cells #[.int .i64 0] 23)).alloc (rdr s 0)).heap[w.heap.size + 1 + 1]? = some (rdr s 0) := three_2 _ _ _ _
  have hS : (((w.alloc (.cells #[.slice none 0 0] 22)).alloc (.cells #[.int .i64 0] 23)).alloc (rdr s 0)).heap.size = w.heap.size + 3 := by simp
  have hB : Below w.heap.size w (((w.alloc (.cells #[.slice none 0 0] 22)).alloc (.cells #[.int .i64 0] 23)).alloc (rdr s 0)) := (((Below.refl _ _).alloc (Nat.le_refl _) _).alloc (by simp) _).alloc (by simp; omega) _
  have hx3 := (hB.cell (p := ⟨x, 0, none⟩) hxl).trans hx
  have hy3 := (hB.cell (p := ⟨y, 0, none⟩) hyl).trans hy
  clear hx hy
  generalize (((w.alloc (.cells #[.slice none 0 0] 22)).alloc (.cells #[.int .i64 0] 23)).alloc (rdr s 0)) = W3 at *
  by_cases hro : readOk s 0 wd cn
  · have hsz : ¬ 0 + (cn * wd + 7) / 8 = s.size := fun h => HNO.out ⟨hro, h⟩
    have hlt : 0 + (cn * wd + 7) / 8 < s.size := by have := hro.1; omega
    refine (closure_ok s (w.heap.size + 1 + 1) wd cn x y W3 hm hw hcn hR hx3 hy3 hro).mono ?_
    rintro e w4 ⟨hb4, rfl, h4, hown⟩
    have hL4 : w4.heap[w.heap.size]? = some (.cells #[.slice none 0 0] 22 (0, 0)) := by rw [hb4.block _ (by omega)]; exact hL
    have hE4 : w4.heap[w.heap.size + 1]? = some (.cells #[.int .i64 0] 23 (0, 0)) := by rw [hb4.block _ (by omega)]; exact hE
    have hB4 : Below w.heap.size w w4 := hB.trans (hb4.mono (by omega))
    generalize W3.heap.size = g at *
    have cl := cell_of_one hL4
    have fl := free_of_one hL4
    have HL4 : Hid _ := hL4
    have HE4 : Hid _ := hE4
    have HR4 : Hid (w4.heap[w.heap.size + 1 + 1]? = some (rdr s (0 + (cn * wd + 7) / 8))) := h4
    clear hL hE hR hS hB hx3 hy3 hL4 hE4 h4 hb4 hown hro hsz
    clear W3
    go_wp2_with (go_at_call 58; refine (end_bad (w.heap.size + 1 + 1) (0 + (cn * wd + 7) / 8) s _ hm hlt (by rw [heap_setCell_other _ _ _ _ (by simp; omega)]; exact HR4.out)).mono ?_; rintro e w' ⟨rfl, n, rfl⟩)
    have hL5 : ((w4.setCell ⟨w.heap.size, 0, none⟩ (.slice (some ⟨g, 0, none⟩) cn cn)).drewN n).heap[w.heap.size]? = some (.cells #[.slice (some ⟨g, 0, none⟩) cn cn] 22 (0, 0)) := one_setCell HL4.out
    have hE5 : ((w4.setCell ⟨w.heap.size, 0, none⟩ (.slice (some ⟨g, 0, none⟩) cn cn)).drewN n).heap[w.heap.size + 1]? = some (.cells #[.int .i64 0] 23 (0, 0)) := by
      show (w4.setCell ⟨w.heap.size, 0, none⟩ (.slice (some ⟨g, 0, none⟩) cn cn)).heap[w.heap.size + 1]? = _
      rw [heap_setCell_other _ _ _ _ (by simp)]; exact HE4.out
    have hB5 := below_drewN (hB4.setCell (p := ⟨w.heap.size, 0, none⟩) (Nat.le_refl _) (.slice (some ⟨g, 0, none⟩) cn cn)) n
    generalize (w4.setCell ⟨w.heap.size, 0, none⟩ (.slice (some ⟨g, 0, none⟩) cn cn)).drewN n = w5 at *
    obtain ⟨f1, f2, f3⟩ := final_bad hL5 hE5 hB5
    refine leaves_cons (f := 62) (args := #[.pointer (some ⟨w.heap.size, 0, none⟩), .pointer (some ⟨w.heap.size + 1, 0, none⟩)]) (by simp) (by simp [go_sem]) ?_
    refine (catch_at _ hL5 hE5).mono ?_
    rintro e u' w'' ⟨rfl, rfl, rfl⟩
    simp [Leaves, settle, results, Try.results41, go_sem, f1, f2]
    exact f3
  · refine (closure_bad s (w.heap.size + 1 + 1) wd cn x y W3 hm hw hcn hR hx3 hy3 hro).mono ?_
    rintro e w4 ⟨hb4, q, rfl⟩
    have hL4 : w4.heap[w.heap.size]? = some (.cells #[.slice none 0 0] 22 (0, 0)) := by rw [hb4.block _ (by omega)]; exact hL
    have hE4 : w4.heap[w.heap.size + 1]? = some (.cells #[.int .i64 0] 23 (0, 0)) := by rw [hb4.block _ (by omega)]; exact hE
    have hB4 : Below w.heap.size w w4 := hB.trans (hb4.mono (by omega))
    clear hL hE hR hS hB hx3 hy3 hb4 hro
    clear W3
    obtain ⟨f1, f2, f3⟩ := final_bad hL4 hE4 hB4
    refine leaves_cons (f := 62) (args := #[.pointer (some ⟨w.heap.size, 0, none⟩), .pointer (some ⟨w.heap.size + 1, 0, none⟩)]) (by simp) (by simp [go_sem]) ?_
    refine (catch_at _ hL4 hE4).mono ?_
    rintro e u' w'' ⟨rfl, rfl, rfl⟩
    simp [Leaves, settle, results, Try.results41, go_sem, f1, f2]
    exact f3
end Go.Proofs.Ytpalaloknoiddaa.Pk
