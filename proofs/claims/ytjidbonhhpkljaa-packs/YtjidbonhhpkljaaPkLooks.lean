/- The contract of the book's looks: where only lists of numbers stand in it, and each reads as its mark says, it answers true. -/
import Derived.Test.YtjidbonhhpkljaaPkOwn
set_option linter.unusedVariables false
namespace Go.Proofs.Ytjidbonhhpkljaa.Pk
open Go.RowKit Go.Proofs.Ytjidbonhhpkljaa.Pm

theorem book_cells {w : World} {base B : Nat} {iv : Value} {es : List (Value × Int)} (h : BkInv w base B iv es) :
    w.cell? ⟨B, 0, none⟩ = some iv ∧ w.cell? ⟨B, 1, none⟩ = some (.slice none 0 0) ∧ w.cell? ⟨B, 2, none⟩ = some (.slice none 0 0) ∧ w.cell? ⟨B, 3, none⟩ = some (.slice none 0 0) := by
  have := h.blk
  exact ⟨by simp [World.cell?, this], by simp [World.cell?, this], by simp [World.cell?, this], by simp [World.cell?, this]⟩

set_option maxRecDepth 100000 in
set_option maxHeartbeats 4000000 in
theorem looks_any (B base : Nat) (iv : Value) (es : List (Value × Int)) (w : World) (hk : es.length ≤ 100) (h : BkInv w base B iv es) (hmk : ∀ e ∈ es, 0 ≤ e.2 ∧ e.2 ≤ 100) :
    Calls Try.prog 33 #[.pointer (some ⟨B, 0, none⟩)] w fun e w' => e = .returned (.bool true) ∧ ∃ n, w' = w.drewN n := by
  obtain ⟨io, icap, rfl⟩ := owns_slice h.own
  obtain ⟨c0, c1, c2, c3⟩ := book_cells h
  have HI : Hid (BkInv w base B (.slice io es.length icap) es) := h
  have HMK : Hid (∀ e ∈ es, 0 ≤ e.2 ∧ e.2 ≤ 100) := hmk
  clear h hmk
  go_enter Try.func33, Try.ntmps33
  go_wp2_with fail
  go_loopw [3] (fun i wr => ∃ t : Nat, t ≤ es.length ∧ i = .int .i64 t ∧ ∃ n, wr = w.drewN n) (fun i _ => es.length - (intOf i).toNat)
  case atStart => exact ⟨0, Nat.zero_le _, rfl, 0, rfl⟩
  case round =>
    obtain ⟨t, ht, rfl, n, hwr⟩ := hrel
    have d0 : wr.cell? ⟨B, 0, none⟩ = some (.slice io es.length icap) := by rw [hwr]; exact c0
    have d1 : wr.cell? ⟨B, 1, none⟩ = some (.slice none 0 0) := by rw [hwr]; exact c1
    have d2 : wr.cell? ⟨B, 2, none⟩ = some (.slice none 0 0) := by rw [hwr]; exact c2
    have d3 : wr.cell? ⟨B, 3, none⟩ = some (.slice none 0 0) := by rw [hwr]; exact c3
    have HW : Hid (wr = w.drewN n) := hwr
    clear hwr
    by_cases hlt : t < es.length
    · obtain ⟨gi, rfl⟩ := owns_addr HI.out.own (by omega)
      have hx := ecells_get es t hlt
      have e0 := HI.out.own.cellAt (t * 2) (by omega)
      rw [show t * 2 = 2 * t by omega, hx.1] at e0
      have e1 := HI.out.own.cellAt (t * 2 + 1) (by omega)
      rw [show t * 2 + 1 = 2 * t + 1 by omega, hx.2] at e1
      obtain ⟨ao, n', cap', hv, hn', hf⟩ := HI.out.full es[t] (List.getElem_mem hlt)
      obtain ⟨m0, m1⟩ := HMK.out es[t] (List.getElem_mem hlt)
      rw [hv] at e0
      have HF : Hid (0 < n' → ∃ g cur, ao = some ⟨g, 0, none⟩ ∧ w.heap[g]? = some (.cells cur 3 (0, 0)) ∧ ∀ j, j < n' → cur[j]? = some (.int .i64 (-1 - es[t].2))) := hf
      clear hf hv hx
      generalize es[t].2 = m at *
      have E0 : wr.cell? ⟨gi, t * 2, none⟩ = some (.slice ao n' cap') := by rw [HW.out, show t * 2 = 2 * t by omega]; exact e0
      have E1 : wr.cell? ⟨gi, t * 2 + 1, none⟩ = some (.int .i64 m) := by rw [HW.out, show t * 2 + 1 = 2 * t + 1 by omega]; exact e1
      go_wp2_with fail
      clear E0 E1 d0 d1 d2 d3
      go_loopw [4] (fun i wr => ∃ u : Nat, u ≤ n' ∧ i = .int .i64 u ∧ ∃ n, wr = w.drewN n) (fun i _ => n' - (intOf i).toNat)
      case atStart => exact ⟨0, Nat.zero_le _, rfl, n, HW.out⟩
      case round =>
        clear HW
        obtain ⟨u, hu, rfl, n, hwr⟩ := hrel
        have d0 : wr.cell? ⟨B, 0, none⟩ = some (.slice (some ⟨gi, 0, none⟩) es.length icap) := by rw [hwr]; exact c0
        have E0 : wr.cell? ⟨gi, t * 2, none⟩ = some (.slice ao n' cap') := by rw [hwr, show t * 2 = 2 * t by omega]; exact e0
        have E1 : wr.cell? ⟨gi, t * 2 + 1, none⟩ = some (.int .i64 m) := by rw [hwr, show t * 2 + 1 = 2 * t + 1 by omega]; exact e1
        have HW : Hid (wr = w.drewN n) := hwr
        clear c0 c1 c2 c3 e0 e1
        by_cases hul : u < n'
        · obtain ⟨g, cur, rfl, hb, hc⟩ := HF.out (by omega)
          have E2 : wr.cell? ⟨g, u, none⟩ = some (.int .i64 (-1 - m)) := by
            rw [hwr, show (w.drewN n).cell? ⟨g, u, none⟩ = w.cell? ⟨g, u, none⟩ from rfl, cell_of_row w g u cur 3 (0, 0) hb]
            exact hc u hul
          have hbb : ((-1 - m) != (-1 - m)) = false := by simp
          clear hwr hb hc
          go_wp2_with fail
          go_quiet (fail)
          go_wp2
          go_roundw
          case rel => exact ⟨u + 1, by omega, by go_num, n + nq, by rw [HW.out]; exact World.drewN_drewN _ _ _⟩
          case measure => simp [intOf]; omega
        · clear hwr
          go_wp2
          go_roundw
          case rel => exact ⟨t + 1, by omega, by go_num, n, HW.out⟩
          case measure => simp [intOf]; omega
    · clear c0 c1 c2 c3
      go_wp2_with fail
      refine wp_loop_rounds 1 ?_
      rw [rounds_succ]
      go_wp2_with fail
      refine wp_loop_rounds 1 ?_
      rw [rounds_succ]
      go_wp2_with fail
      refine wp_loop_rounds 1 ?_
      rw [rounds_succ]
      go_wp2
      go_ret
      exact ⟨rfl, n, HW.out⟩
end Go.Proofs.Ytjidbonhhpkljaa.Pk
