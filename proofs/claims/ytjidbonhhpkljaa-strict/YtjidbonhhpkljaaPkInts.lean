/- The contracts of the statement's own helpers on lists of numbers: lentInts and sameInts. -/
import Derived.Test.YtjidbonhhpkljaaPkRows
import Derived.Laws.CopyOwn
set_option linter.unusedVariables false
namespace Go.Proofs.Ytjidbonhhpkljaa.Pk
open Go.RowKit Go.Proofs.Ytjidbonhhpkljaa.Pm

theorem getD_get {zs : List Int} {k : Nat} (h : k < zs.length) : zs.getD k 0 = zs[k] := by simp [List.getD, h]

/-- The cells of numbers. -/
def icells (zs : List Int) : List Value := zs.map (Value.int .i64)

set_option maxRecDepth 100000 in
set_option maxHeartbeats 2000000 in
theorem sameInts_any (xs ys : List Int) (ao bo : Option Addr) (b off cap b2 off2 cap2 : Nat) (w : World) (hm : xs.length ≤ maxLen) (hm2 : ys.length ≤ maxLen)
    (hs : 0 < xs.length → ao = some ⟨b, off, none⟩) (hc : ∀ j, j < xs.length → w.cell? ⟨b, off + j, none⟩ = some (.int .i64 (xs.getD j 0)))
    (hs2 : 0 < ys.length → bo = some ⟨b2, off2, none⟩) (hc2 : ∀ j, j < ys.length → w.cell? ⟨b2, off2 + j, none⟩ = some (.int .i64 (ys.getD j 0))) :
    Calls Try.prog 13 #[.slice ao xs.length cap, .slice bo ys.length cap2] w fun e w' => e = .returned (.bool (decide (xs = ys))) ∧ ∃ n, w' = w.drewN n := by
  unfold maxLen at hm hm2
  by_cases hl : xs.length = ys.length
  · have hle : ((xs.length : Int) != (ys.length : Int)) = false := by simp [hl]
    have HL : Hid (xs.length = ys.length) := hl
    clear hl
    go_enter Try.func13, Try.ntmps13
    go_wp2_with fail
    clear hle
    go_loopw [5] (fun i wr => ∃ k : Nat, k ≤ xs.length ∧ i = .int .i64 k ∧ xs.take k = ys.take k ∧ ∃ n, wr = w.drewN n) (fun i _ => xs.length - (intOf i).toNat)
    case atStart => exact ⟨0, Nat.zero_le _, rfl, rfl, 0, rfl⟩
    case round =>
      obtain ⟨k, hk, rfl, htk, n, hwr⟩ := hrel
      have HW : Hid (wr = w.drewN n) := hwr
      have HT : Hid (xs.take k = ys.take k) := htk
      clear hwr htk
      by_cases hlt : k < xs.length
      · have hlt2 : k < ys.length := by rw [← HL.out]; exact hlt
        obtain rfl := hs (by omega)
        obtain rfl := hs2 (by omega)
        have hcx := hc k hlt
        rw [getD_get hlt, show w.cell? ⟨b, off + k, none⟩ = wr.cell? ⟨b, off + k, none⟩ from by rw [HW.out]; rfl] at hcx
        have hcy := hc2 k hlt2
        rw [getD_get hlt2, show w.cell? ⟨b2, off2 + k, none⟩ = wr.cell? ⟨b2, off2 + k, none⟩ from by rw [HW.out]; rfl] at hcy
        have HN : Hid (xs[k] ≠ ys[k] → xs ≠ ys) := fun h e => h (by subst e; rfl)
        have HY : Hid (xs[k] = ys[k] → xs.take (k + 1) = ys.take (k + 1)) := fun h => by rw [List.take_succ_eq_append_getElem hlt, List.take_succ_eq_append_getElem hlt2, HT.out, h]
        clear hc hc2 hs hs2 HT
        generalize xs[k] = x at *
        generalize ys[k] = y at *
        by_cases hxy : x = y
        · have hb : (x != y) = false := by simp [hxy]
          have HY2 := HY.out hxy
          have HY3 : Hid (xs.take (k + 1) = ys.take (k + 1)) := HY2
          clear HY HY2 HN hxy
          go_wp2_with fail
          go_quiet (fail)
          go_wp2
          go_roundw
          case rel => exact ⟨k + 1, by omega, by go_num, HY3.out, n + nq, by rw [HW.out]; exact World.drewN_drewN _ _ _⟩
          case measure => simp [intOf]; omega
        · have hb : (x != y) = true := by simp [hxy]
          have HN2 : Hid (xs ≠ ys) := HN.out hxy
          clear HY HN hxy
          go_wp2_with fail
          go_quiet (fail)
          go_wp2
          go_ret
          refine ⟨?_, n + nq, by rw [HW.out]; exact World.drewN_drewN _ _ _⟩
          rw [decide_eq_false HN2.out]
          rfl
      · have he : xs = ys := by
          have := HT.out
          rwa [List.take_of_length_le (by omega), List.take_of_length_le (by rw [← HL.out]; omega)] at this
        have HE : Hid (xs = ys) := he
        clear he
        go_wp2
        go_ret
        exact ⟨by rw [decide_eq_true HE.out]; rfl, n, HW.out⟩
  · have hle : ((xs.length : Int) != (ys.length : Int)) = true := by simp; omega
    have hne : decide (xs = ys) = false := by simp; intro h; exact hl (by rw [h])
    rw [hne]
    clear hne
    go_enter Try.func13, Try.ntmps13
    go_wp2
    go_ret
    exact ⟨rfl, 0, rfl⟩

/-- A row of the call's own, out of its block. -/
theorem owns_of_block {w : World} {base g n : Nat} {e : TypeId} {xs : List Value} (h : w.heap[g]? = some (.cells xs.toArray e (0, 0))) (hl : xs.length = n) (hb : base ≤ g) (hn : n ≤ maxLen) :
    w.ownsRow base e 1 (.slice (some ⟨g, 0, none⟩) n n) n xs :=
  ⟨by omega, .inr ⟨g, n, xs.toArray, rfl, hb, h, Nat.le_refl _, hn, by simp [hl], by simp; exact List.take_of_length_le (by omega)⟩⟩
theorem block_of_owns {w : World} {base g n : Nat} {e : TypeId} {xs : List Value} (h : w.ownsRow base e 1 (.slice (some ⟨g, 0, none⟩) n n) n xs) : w.heap[g]? = some (.cells xs.toArray e (0, 0)) := by
  rcases h.2 with ⟨h1, _⟩ | ⟨g', cap, cur, h1, _, h3, _, _, h6, h7⟩
  · simp at h1
  · simp only [Value.slice.injEq, Option.some.injEq, Addr.mk.injEq, and_true, true_and] at h1
    obtain ⟨rfl, rfl⟩ := h1
    rw [h3]
    have : cur.toList = xs := by rw [← h7]; exact (List.take_of_length_le (by simp [h6])).symm
    rw [← this]

theorem set_fill (zs : List Int) (t : Nat) (ht : t < 8) :
    (icells (zs ++ (List.replicate t (-77) ++ List.replicate (8 - t) 0))).set (zs.length + t) (.int .i64 (-77)) = icells (zs ++ (List.replicate (t + 1) (-77) ++ List.replicate (8 - (t + 1)) 0)) := by
  unfold icells
  rw [← List.map_set]
  congr 1
  rw [List.set_append_right _ _ (by omega), show zs.length + t - zs.length = t by omega, List.set_append_right _ _ (by simp)]
  simp only [List.length_replicate, Nat.sub_self]
  rw [show 8 - t = (8 - (t + 1)) + 1 by omega, List.replicate_succ, List.set_cons_zero, List.replicate_succ' (n := t)]
  simp

theorem made_ints (n : Nat) : (madeCells (Value.cells (.int .i64 0)) (n * 1)).toList = icells (List.replicate n 0) := by
  have : Value.cells (.int .i64 0) = #[.int .i64 0] := rfl
  rw [this, toList_madeCells_one, icells, List.map_replicate, Nat.mul_one]

theorem splice_lent (zs : List Int) : splice (icells (List.replicate (zs.length + 8) 0)) 0 (icells zs) = icells (zs ++ (List.replicate 0 (-77) ++ List.replicate (8 - 0) 0)) := by
  unfold splice icells
  simp [List.map_replicate]

theorem icells_get (zs : List Int) (i : Nat) (h : i < zs.length) : (icells zs)[i]? = some (.int .i64 zs[i]) := by simp [icells, h]
theorem icells_length (zs : List Int) : (icells zs).length = zs.length := by simp [icells]

theorem lent_src (zs : List Int) {ao : Option Addr} {b off : Nat} {w w0 : World} {g : Nat} (hs : 0 < zs.length → ao = some ⟨b, off, none⟩) (hb : 0 < zs.length → b < w.heap.size)
    (hc : ∀ j, j < zs.length → w.cell? ⟨b, off + j, none⟩ = some (.int .i64 (zs.getD j 0))) (hbel : Below w.heap.size w w0) :
    0 < (icells zs).length → some (⟨g, 0, none⟩ : Addr) = some ⟨g, 0, none⟩ ∧ ∃ ad, ao = some ad ∧ ∀ j v, (icells zs)[j]? = some v → w0.cell? (ad.add j) = some v := by
  intro h
  rw [icells_length] at h
  refine ⟨rfl, ⟨b, off, none⟩, hs h, ?_⟩
  intro j v hj
  have hjl : j < zs.length := by have := (List.getElem?_eq_some_iff.1 hj).1; rwa [icells_length] at this
  rw [icells_get zs j hjl] at hj
  rw [Addr.add_lit, hbel.cell (p := ⟨b, off + j, none⟩) (hb h), hc j hjl, getD_get hjl]
  exact hj

theorem lent_copy (zs : List Int) {ao : Option Addr} {b off cap : Nat} {w w0 : World} {g : Nat} (hs : 0 < zs.length → ao = some ⟨b, off, none⟩) (hb : 0 < zs.length → b < w.heap.size)
    (hc : ∀ j, j < zs.length → w.cell? ⟨b, off + j, none⟩ = some (.int .i64 (zs.getD j 0))) (hbel : Below w.heap.size w w0) (hg : w.heap.size ≤ g)
    (hB : w0.heap[g]? = some (.cells (icells (List.replicate (zs.length + 8) 0)).toArray 3 (0, 0))) :
    ∃ w1, (Builtin.copy_ #[22, 22] 3 #[.slice (some ⟨g, 0, none⟩) (zs.length + 8) (zs.length + 8), .slice ao zs.length cap]).run Try.prog w0 = .ok (.int .i64 (zs.length : Int)) w1 ∧
      Hid (w1.heap[g]? = some (.cells (icells (zs ++ (List.replicate 0 (-77) ++ List.replicate (8 - 0) 0))).toArray 3 (0, 0))) ∧ Below w.heap.size w w1 := by
  obtain ⟨i0, hi, hz0, hz1, hz2⟩ := info_parts Try.info3
  have hsz : (Try.prog.info? 3).map (·.size) = some 1 := by rw [hi]; simp [hz1]
  by_cases h : 0 < zs.length
  · obtain ⟨_, ad, rfl, hsrc⟩ := lent_src (g := g) zs hs hb hc hbel (by rw [icells_length]; exact h)
    have hr := run_copy_row (P := Try.prog) w0 22 22 3 3 g 0 (zs.length + 8) (zs.length + 8) ad zs.length cap _ 3 (icells zs) Try.underlying22 hsz hB (by rw [icells_length]; exact (Nat.min_eq_left (by omega)).symm) hsrc (by simp [icells]) (ints_oneCell .i64 zs)
    rw [icells_length] at hr
    refine ⟨_, hr, ?_, below_setRow hbel hg _⟩
    show _ = _
    rw [← splice_lent]
    simpa [splice, icells_length] using setRow_heap w0 g _ _ 3 _ hB
  · have h0 : zs = [] := List.eq_nil_of_length_eq_zero (by omega)
    subst h0
    exact ⟨w0, run_copy_none (P := Try.prog) w0 22 22 3 3 _ ao _ _ _ cap Try.underlying22 hsz (by simp), by show _ = _; simpa using hB, hbel⟩

set_option maxRecDepth 100000 in
set_option maxHeartbeats 2000000 in
theorem lentInts_any (zs : List Int) (ao : Option Addr) (b off cap : Nat) (w : World) (hreach : zs.length * 8 ≤ 140737488351232)
    (hs : 0 < zs.length → ao = some ⟨b, off, none⟩) (hb : 0 < zs.length → b < w.heap.size) (hc : ∀ j, j < zs.length → w.cell? ⟨b, off + j, none⟩ = some (.int .i64 (zs.getD j 0))) :
    Calls Try.prog 11 #[.slice ao zs.length cap] w fun e w' => ∃ g, e = .returned (.slice (some ⟨g, 0, none⟩) (zs.length + 8) (zs.length + 8)) ∧
      w'.ownsRow w.heap.size 3 1 (.slice (some ⟨g, 0, none⟩) (zs.length + 8) (zs.length + 8)) (zs.length + 8) (icells (zs ++ List.replicate 8 (-77))) ∧ Below w.heap.size w w' := by
  obtain ⟨i0, hi, hz0, hz1, hz2⟩ := info_parts Try.info3
  have hsz : (Try.prog.info? 3).map (·.size) = some 1 := by rw [hi]; simp [hz1]
  go_enter Try.func11, Try.ntmps11
  go_wp2_with (first
    | (at_make; refine wpList_make_full _ rfl _ _ 22 rfl w.heap.size 3 i0 (.int .i64 0) 1 Try.underlying22 hi hz0 hz1 .i64 .i64 _ _ (zs.length + 8) rfl rfl (by first | omega | (push_cast; omega)) (by first | omega | (push_cast; omega)) (by rw [hz2]; omega) (by unfold maxLen; omega) (Nat.le_refl _) ?_; intro w0 hown0 hgrow0; have hbel0 : Below w.heap.size w w0 := (Below.refl _ _).grown hgrow0 (Nat.le_refl _) (by simp); rw [made_ints] at hown0; have HB : Hid _ := block_of_owns hown0; clear hown0 hgrow0))
  obtain ⟨w1, hrun, HB1, hbel1⟩ := lent_copy zs (cap := cap) hs hb hc hbel0 (Nat.le_refl _) HB.out
  clear hbel0 HB
  rw [hrun]
  clear hrun
  go_wp2_with fail
  have hown1 : w1.ownsRow w.heap.size 3 1 (.slice (some ⟨w.heap.size, 0, none⟩) (zs.length + 8) (zs.length + 8)) (zs.length + 8) (icells (zs ++ (List.replicate 0 (-77) ++ List.replicate (8 - 0) 0))) :=
    owns_of_block HB1.out (by simp [icells]) (Nat.le_refl _) (by unfold maxLen; omega)
  clear HB1
  go_loopw [4] (fun i wr => ∃ (t p : Nat), t ≤ 8 ∧ p = zs.length + t ∧ i = .int .i64 (p : Int) ∧
      wr.ownsRow w.heap.size 3 1 (.slice (some ⟨w.heap.size, 0, none⟩) (zs.length + 8) (zs.length + 8)) (zs.length + 8) (icells (zs ++ (List.replicate t (-77) ++ List.replicate (8 - t) 0))) ∧ Below w.heap.size w wr) (fun i _ => zs.length + 8 - (intOf i).toNat)
  case atStart => exact ⟨0, _, by omega, rfl, rfl, hown1, hbel1⟩
  case round =>
    clear hown1 hbel1
    obtain ⟨t, p, ht, hp, rfl, hown, hbel⟩ := hrel
    have HP : Hid (p = zs.length + t) := hp
    have hp1 : p ≤ zs.length + 8 := by omega
    by_cases h8 : t < 8
    · have hp2 : p < zs.length + 8 := by omega
      obtain ⟨q, hce⟩ : ∃ q, wr.cell? ⟨w.heap.size, p, none⟩ = some q := by
        rw [hown.cellAt p (by omega)]
        exact ⟨_, icells_get _ _ (by simp; omega)⟩
      have hfr := hown.frozenAt p
      have hst := (hown.stored (zs.length + t) (.int .i64 (-77))).1
      rw [set_fill zs t h8, ← hp] at hst
      have HS : Hid _ := hst
      clear hst hown hp
      go_wp2
      go_roundw
      case rel => exact ⟨t + 1, p + 1, by omega, by have := HP.out; omega, by go_num, HS.out, hbel.setCell (Nat.le_refl _) _⟩
      case measure => simp [intOf]; omega
    · have ht8 : t = 8 := by omega
      subst ht8
      have hp3 : ¬ p < zs.length + 8 := by omega
      clear hp
      go_wp2
      go_ret
      exact ⟨_, rfl, by simpa using hown, hbel⟩
end Go.Proofs.Ytjidbonhhpkljaa.Pk
