/- The walk of the statement Packs: it answers true at every list, width, text and count. -/
import Derived.Test.YtjidbonhhpkljaaPkUnpacks
import Derived.Test.YtjidbonhhpkljaaPkPackC
import Derived.WalkSpells
set_option linter.unusedVariables false
namespace Go.Proofs.Ytjidbonhhpkljaa.Pk
open Go.RowKit Go.Proofs.Ytjidbonhhpkljaa.Pm

theorem packOf_size (zs : List Int) (wd : Int) : (packOf zs wd).1.size ≤ maxLen := by
  unfold packOf
  split
  · simp [maxLen]
  · split
    · simp [maxLen]
    · split
      · rename_i h1 h2 _
        simp only [strOf_size, packBytes_length, List.length_map]
        have h3 : zs.length * wd.toNat ≤ 100 * 16 := Nat.mul_le_mul (by omega) (by omega)
        unfold maxLen
        omega
      · simp [maxLen]

theorem lent_same (zs : List Int) {w : World} {base base2 g g2 : Nat} (hreach : zs.length * 8 ≤ 140737488351232)
    (h1 : w.ownsRow base 3 1 (.slice (some ⟨g, 0, none⟩) (zs.length + 8) (zs.length + 8)) (zs.length + 8) (icells (zs ++ List.replicate 8 (-77))))
    (h2 : w.ownsRow base2 3 1 (.slice (some ⟨g2, 0, none⟩) (zs.length + 8) (zs.length + 8)) (zs.length + 8) (icells (zs ++ List.replicate 8 (-77)))) :
    Calls Try.prog 13 #[.slice (some ⟨g, 0, none⟩) (zs.length + 8) (zs.length + 8), .slice (some ⟨g2, 0, none⟩) (zs.length + 8) (zs.length + 8)] w fun e w' => e = .returned (.bool true) ∧ ∃ n, w' = w.drewN n := by
  have hl : (zs ++ List.replicate 8 (-77 : Int)).length = zs.length + 8 := by simp
  have key : ∀ b g, w.ownsRow b 3 1 (.slice (some ⟨g, 0, none⟩) (zs.length + 8) (zs.length + 8)) (zs.length + 8) (icells (zs ++ List.replicate 8 (-77))) →
      ∀ j, j < (zs ++ List.replicate 8 (-77 : Int)).length → w.cell? ⟨g, 0 + j, none⟩ = some (.int .i64 ((zs ++ List.replicate 8 (-77 : Int)).getD j 0)) := by
    intro b g h j hj
    rw [Nat.zero_add, h.cellAt j (by rw [hl] at hj; omega), icells_get _ j hj, getD_get hj]
  have H := sameInts_any (zs ++ List.replicate 8 (-77 : Int)) (zs ++ List.replicate 8 (-77 : Int)) (some ⟨g, 0, none⟩) (some ⟨g2, 0, none⟩) g 0 (zs.length + 8) g2 0 (zs.length + 8) w
    (by rw [hl]; unfold maxLen; omega) (by rw [hl]; unfold maxLen; omega) (fun _ => rfl) (key base g h1) (fun _ => rfl) (key base2 g2 h2)
  rw [hl] at H
  simpa using H

set_option maxRecDepth 100000 in
set_option maxHeartbeats 4000000 in
theorem packs_some (zs : List Int) (wd cn : Int) (s : ByteArray) (x : Addr) (b off cap : Nat) (w : World) (hm : s.size ≤ maxLen) (hreach : zs.length * 8 ≤ 140737488351232)
    (hs : 0 < zs.length → some x = some ⟨b, off, none⟩) (hb : 0 < zs.length → b < w.heap.size) (hc : ∀ j, j < zs.length → w.cell? ⟨b, off + j, none⟩ = some (.int .i64 (zs.getD j 0))) :
    Calls Try.prog 3 #[.slice (some x) zs.length cap, .int .i64 wd, .string s, .int .i64 cn] w fun e w' => e = .returned (.bool true) ∧ Below w.heap.size w w' := by
  have hml : zs.length ≤ maxLen := by unfold maxLen; omega
  have hps := packOf_size zs wd
  have heq : ∀ w, (binOp .eql 22 (.slice (some x) zs.length cap) (.slice none 0 0)).run Try.prog w = .ok (.bool false) w := fun w => by
    rw [Lib.run_eql_slice_nil w 22 3 _ _ _ _ _ Try.underlying22]; rfl
  go_enter Try.func3, Try.ntmps3
  go_wp2_with fail
  refine (rPack_any zs wd (some x) b off cap w hml hs hb hc).mono ?_
  rintro e w1 ⟨rfl, b1⟩
  go_wp2_with fail
  refine (lentInts_any zs (some x) b off cap _ hreach hs (fun h => Nat.lt_of_lt_of_le (hb h) b1.size) (fun j hj => by rw [b1.cell (p := ⟨b, off + j, none⟩) (hb (by omega))]; exact hc j hj)).mono ?_
  rintro e w2 ⟨g, rfl, o2, b2⟩
  go_wp2_with fail
  have bb2 : Below w.heap.size w w2 := b1.trans (b2.mono b1.size)
  have og := o2.lt g rfl
  have hci : ∀ j, j < (zs ++ List.replicate 8 (-77 : Int)).length → w2.cell? ⟨g, 0 + j, none⟩ = some (.int .i64 ((zs ++ List.replicate 8 (-77 : Int)).getD j 0)) := by
    intro j hj
    rw [Nat.zero_add, o2.cellAt j (by simpa using hj), icells_get _ j hj, getD_get hj]
  have hcz : ∀ j, j < zs.length → w2.cell? ⟨g, 0 + j, none⟩ = some (.int .i64 (zs.getD j 0)) := by
    intro j hj
    rw [hci j (by simp; omega), getD_get (by simp; omega), getD_get hj, List.getElem_append_left hj]
  refine (cPack_any zs wd (some ⟨g, 0, none⟩) g 0 (zs.length + 8) w2 hml (fun _ => rfl) (fun _ => og.2) hcz).mono ?_
  rintro e w3 ⟨rfl, b3⟩
  have bb3 : Below w.heap.size w w3 := bb2.trans (b3.mono bb2.size)
  go_wp2_with fail
  refine (lentInts_any zs (some x) b off cap _ hreach hs (fun h => Nat.lt_of_lt_of_le (hb h) bb3.size) (fun j hj => by rw [bb3.cell (p := ⟨b, off + j, none⟩) (hb (by omega))]; exact hc j hj)).mono ?_
  rintro e w4 ⟨g4, rfl, o4, b4⟩
  have bb4 : Below w.heap.size w w4 := bb3.trans (b4.mono bb3.size)
  go_wp2_with fail
  have o2' := ownsRow_below (ownsRow_below o2 b3) b4
  have HSM : Hid (Calls Try.prog 13 #[.slice (some ⟨g, 0, none⟩) (zs.length + 8) (zs.length + 8), .slice (some ⟨g4, 0, none⟩) (zs.length + 8) (zs.length + 8)] w4 fun e w' => e = .returned (.bool true) ∧ ∃ n, w' = w4.drewN n) := lent_same zs hreach o2' o4
  refine HSM.out.mono ?_
  rintro e w5 ⟨rfl, n5, rfl⟩
  have bb5 := below_drewN bb4 n5
  clear HSM o2' o2 o4 hci hcz bb2 bb3 bb4 b1 b2 b3 b4 heq
  generalize w4.drewN n5 = w6 at *
  generalize (packOf zs wd).1 = t at *
  generalize (packOf zs wd).2 = f at *
  have hts : (t.toList == t.toList) = true := by simp
  go_wp2_with fail
  refine (unpacks_any s wd cn _ hm).mono ?_
  rintro e w7 ⟨rfl, b7⟩
  go_wp2_with fail
  refine (unpacks_any t wd _ _ hps).mono ?_
  rintro e w8 ⟨rfl, b8⟩
  go_wp2
  go_ret
  have bb7 := bb5.trans (b7.mono bb5.size)
  exact ⟨rfl, bb7.trans (b8.mono bb7.size)⟩

set_option maxRecDepth 100000 in
set_option maxHeartbeats 4000000 in
theorem packs_none (wd cn : Int) (s : ByteArray) (w : World) (hm : s.size ≤ maxLen) :
    Calls Try.prog 3 #[.slice none 0 0, .int .i64 wd, .string s, .int .i64 cn] w fun e w' => e = .returned (.bool true) ∧ Below w.heap.size w w' := by
  have hps := packOf_size [] wd
  have heq : ∀ w, (binOp .eql 22 (.slice none 0 0) (.slice none 0 0)).run Try.prog w = .ok (.bool true) w := fun w => by
    rw [Lib.run_eql_slice_nil w 22 3 _ _ _ _ _ Try.underlying22]; rfl
  have HP : Hid (∀ w, Calls Try.prog 10 #[.slice none 0 0, .int .i64 wd] w fun e w' => e = .returned (.tuple #[.string (packOf [] wd).1, .int .i64 (packOf [] wd).2]) ∧ Below w.heap.size w w') := fun w =>
    rPack_any [] wd none 0 0 0 w (by simp) (by simp) (by simp) (by simp)
  have HC : Hid (∀ w, Calls Try.prog 12 #[.slice none 0 0, .int .i64 wd] w fun e w' => e = .returned (.tuple #[.string (packOf [] wd).1, .int .i64 (packOf [] wd).2]) ∧ Below w.heap.size w w') := fun w =>
    cPack_any [] wd none 0 0 0 w (by simp) (by simp) (by simp) (by simp)
  have HL : Hid (∀ w, Calls Try.prog 11 #[.slice none 0 0] w fun e w' => ∃ g, e = .returned (.slice (some ⟨g, 0, none⟩) 8 8) ∧ w'.ownsRow w.heap.size 3 1 (.slice (some ⟨g, 0, none⟩) 8 8) 8 (icells ([] ++ List.replicate 8 (-77))) ∧ Below w.heap.size w w') := fun w =>
    lentInts_any [] none 0 0 0 w (by simp) (by simp) (by simp) (by simp)
  go_enter Try.func3, Try.ntmps3
  go_wp2_with fail
  refine (HP.out _).mono ?_
  rintro e w1 ⟨rfl, b1⟩
  go_wp2_with fail
  refine (HL.out _).mono ?_
  rintro e w2 ⟨g, rfl, o2, b2⟩
  go_wp2_with fail
  have bb2 : Below w.heap.size w w2 := b1.trans (b2.mono b1.size)
  refine (HC.out _).mono ?_
  rintro e w3 ⟨rfl, b3⟩
  have bb3 : Below w.heap.size w w3 := bb2.trans (b3.mono bb2.size)
  go_wp2_with fail
  refine (HL.out _).mono ?_
  rintro e w4 ⟨g4, rfl, o4, b4⟩
  have bb4 : Below w.heap.size w w4 := bb3.trans (b4.mono bb3.size)
  go_wp2_with fail
  have o2' := ownsRow_below (ownsRow_below o2 b3) b4
  have HSM : Hid (Calls Try.prog 13 #[.slice (some ⟨g, 0, none⟩) 8 8, .slice (some ⟨g4, 0, none⟩) 8 8] w4 fun e w' => e = .returned (.bool true) ∧ ∃ n, w' = w4.drewN n) := lent_same [] (by simp) o2' o4
  refine HSM.out.mono ?_
  rintro e w5 ⟨rfl, n5, rfl⟩
  have bb5 := below_drewN bb4 n5
  clear HSM o2' o2 o4 bb2 bb3 bb4 b1 b2 b3 b4 heq HP HC HL
  generalize w4.drewN n5 = w6 at *
  generalize (packOf [] wd).1 = t at *
  generalize (packOf [] wd).2 = f at *
  have hts : (t.toList == t.toList) = true := by simp
  go_wp2_with fail
  refine (unpacks_any s wd cn _ hm).mono ?_
  rintro e w7 ⟨rfl, b7⟩
  go_wp2_with fail
  refine (unpacks_any t wd _ _ hps).mono ?_
  rintro e w8 ⟨rfl, b8⟩
  go_wp2
  go_ret
  have bb7 := bb5.trans (b7.mono bb5.size)
  exact ⟨rfl, bb7.trans (b8.mono bb7.size)⟩
end Go.Proofs.Ytjidbonhhpkljaa.Pk
