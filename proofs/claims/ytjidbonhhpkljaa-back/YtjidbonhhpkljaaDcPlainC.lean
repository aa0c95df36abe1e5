/- The contracts of the code's single values, read: Unzigzag, a text, ReadPlain. -/
import Derived.Test.YtjidbonhhpkljaaDcVarint
import Derived.Test.YtjidbonhhpkljaaDcSeq
import Derived.Lib.BufferWrite
import Derived.Lib.UnsafeStr
import Derived.Laws.MakeOwn
set_option linter.unusedVariables false
namespace Go.Proofs.Ytjidbonhhpkljaa.Ec
open Go.RowKit Go.Proofs.Ytjidbonhhpkljaa.Pk Go.Proofs.Ytjidbonhhpkljaa.Pm

theorem ixor_zero (x : Nat) (hx : x < 9223372036854775808) : bits .xor .i64 (x : Int) 0 = (x : Int) := by
  show IntKind.i64.wrap (((BitVec.ofInt 64 (x : Int)) ^^^ (BitVec.ofInt 64 0)).toNat : Int) = _
  rw [BitVec.ofInt_natCast, show BitVec.ofInt 64 0 = 0#64 from rfl, BitVec.xor_zero, BitVec.toNat_ofNat, IntKind.wrap_i64]
  omega
theorem ixor_ones (x : Nat) (hx : x < 9223372036854775808) : bits .xor .i64 (x : Int) (-1) = -(x : Int) - 1 := by
  show IntKind.i64.wrap (((BitVec.ofInt 64 (x : Int)) ^^^ (BitVec.ofInt 64 (-1))).toNat : Int) = _
  rw [BitVec.ofInt_natCast, show BitVec.ofInt 64 (-1) = BitVec.allOnes 64 from by decide +kernel, BitVec.xor_allOnes, BitVec.toNat_not, BitVec.toNat_ofNat, IntKind.wrap_i64]
  omega
theorem and_one (n : Nat) (hn : n < 18446744073709551616) : bits .and .u64 (n : Int) 1 = ((n % 2 : Nat) : Int) := by
  have := bits_mask .u64 64 (by decide) wraps_u64 1 (by decide) (n : Int) (by omega) (by omega)
  rw [show (1 : Int) = 2 ^ 1 - 1 from by decide, this]
  omega

theorem unz_bits (n : Nat) (hn : n < 18446744073709551616) : bits .xor .i64 ((n : Int) / 2) (-((n : Int) % 2)) = uz n := by
  rw [show (n : Int) / 2 = ((n / 2 : Nat) : Int) from by omega]
  unfold uz
  by_cases h : n % 2 = 1
  · rw [show -((n : Int) % 2) = -1 from by omega, ixor_ones _ (by omega), if_pos h]
  · rw [show -((n : Int) % 2) = 0 from by omega, ixor_zero _ (by omega), if_neg h]

set_option maxRecDepth 100000 in
set_option maxHeartbeats 1000000 in
theorem unzigzag_any (n : Nat) (w : World) (hn : n < 18446744073709551616) : Calls Try.prog 151 #[.int .u64 (n : Int)] w fun e w' => e = .returned (.int .i64 (uz n)) ∧ w' = w := by
  have h1 := and_one n hn
  have h2 : wrap64 ((n : Int) / 2) = ((n / 2 : Nat) : Int) := by unfold wrap64; omega
  have HN : Hid (n < 18446744073709551616) := hn
  clear hn
  go_enter Try.func151, Try.ntmps151
  go_wp2
  go_ret
  exact ⟨by rw [← unz_bits n HN.out]; rfl, rfl⟩

set_option maxRecDepth 100000 in
set_option maxHeartbeats 2000000 in
/-- A text, copied. -/
theorem sclone_any (s : ByteArray) (w : World) (hs : s.size ≤ 32) : Calls Try.prog 135 #[.string s] w fun e w' => e = .returned (.string s) ∧ Below w.heap.size w w' := by
  by_cases h0 : s.size = 0
  · obtain rfl : s = ⟨#[]⟩ := ByteArray.ext (Array.eq_empty_of_size_eq_zero h0)
    go_enter Try.func135, Try.ntmps135
    go_wp2
    go_ret
    exact ⟨rfl, Below.refl _ _⟩
  · obtain ⟨i0, hi, hz0, hz1, hz2⟩ := info_parts Try.info5
    have hone : (Try.prog.info? 5).map (·.size) = some 1 := by rw [hi]; simp [hz1]
    have hcell : Try.prog.cellsOf 5 = 1 := by simp [Program.cellsOf, hi, hz1]
    obtain ⟨M, hM⟩ : ∃ M, M = madeCells (Value.int .u8 0).cells (((s.size : Nat) : Int).toNat * i0.size) := ⟨_, rfl⟩
    have hMs : M.size = s.size := by rw [hM, size_madeCells, hz1]; simp
    have hmk : ∀ W : World, (Instr.makeSlice 44 (.int .i64 (s.size : Int)) (.int .i64 (s.size : Int))).run Try.prog W = .ok (.slice (some ⟨W.heap.size, 0, none⟩) s.size s.size) (W.alloc (.cells M 5)) := fun W => by
      have h := run_make (P := Try.prog) W 44 5 i0 (.int .u8 0) Try.underlying44 hi hz0 .i64 .i64 (s.size : Int) (s.size : Int) (by omega) (by omega) (by rw [hz2]; omega) (by omega)
      rw [← hM] at h
      simpa using h
    clear hM
    have hcp := Lib.run_copy_row_string (P := Try.prog) (w.alloc (.cells M 5)) 44 9 3 5 w.heap.size 0 s.size s.size s M 5 Try.underlying44 hone (heap_alloc_new w _) (Nat.le_refl _) (by omega)
    obtain ⟨Y, hY⟩ : ∃ Y, Y = (M.toList.take 0 ++ Lib.byteCells s.data.toList ++ M.toList.drop (0 + s.size)).toArray := ⟨_, rfl⟩
    rw [← hY] at hcp
    have hYl : Y.toList = Lib.byteCells s.data.toList := by
      rw [hY, List.toList_toArray, List.take_zero, List.nil_append, List.drop_of_length_le (by rw [Array.length_toList]; omega), List.append_nil]
    have hYs : Y.size = s.size := by rw [← Array.length_toList, hYl, Lib.byteCells_length, ← Lib.size_eq]
    have hgY : ((w.alloc (.cells M 5)).setRow w.heap.size Y).heap[w.heap.size]? = some (.cells Y 5 (0, 0)) := setRow_heap _ _ M _ 5 (0, 0) (heap_alloc_new w _)
    have hne : s.data.toList ≠ [] := fun e => h0 (by rw [Lib.size_eq, e]; rfl)
    have hUS := Lib.run_unsafeString_row (P := Try.prog) ((w.alloc (.cells M 5)).setRow w.heap.size Y) 205 3 9 5 Try.underlying205 hcell w.heap.size Y.size (by unfold World.shape?; rw [hgY]) s.data.toList hne (by rw [← Lib.size_eq]; omega) (by rw [← Lib.size_eq]; omega)
      (fun j x hx => Lib.cells_of_row hgY Y.size j _ (by rw [List.take_of_length_le (by rw [Array.length_toList]; exact Nat.le_refl _), hYl]; simp [Lib.byteCells, hx]))
    rw [← Lib.size_eq] at hUS
    clear hY
    go_enter Try.func135, Try.ntmps135
    go_wp2
    go_ret
    have hb1 : Below w.heap.size w (w.alloc (.cells M 5)) := (Below.refl _ w).alloc (Nat.le_refl _) _
    have hb2 : Below w.heap.size (w.alloc (.cells M 5)) ((w.alloc (.cells M 5)).setRow w.heap.size Y) := ⟨rfl, rfl, rfl, by simp, fun k hk => setRow_other _ _ _ _ (by omega)⟩
    exact ⟨rfl, Lib.below_freeze (hb1.trans hb2) (p := ⟨w.heap.size, 0, none⟩) (Nat.le_refl _) _⟩

set_option maxRecDepth 100000 in
set_option maxHeartbeats 1000000 in
theorem clone_any (s : ByteArray) (w : World) (hs : s.size ≤ 32) : Calls Try.prog 101 #[.string s] w fun e w' => e = .returned (.string s) ∧ Below w.heap.size w w' := by
  go_enter Try.func101, Try.ntmps101
  go_wp2_with fail
  refine (sclone_any s _ hs).mono ?_
  rintro e w' ⟨rfl, hb⟩
  go_wp2
  go_ret
  exact ⟨rfl, hb⟩

set_option maxRecDepth 100000 in
set_option maxHeartbeats 2000000 in
theorem readText_any (r p : Nat) (s : ByteArray) (w : World) (hm : s.size ≤ maxLen) (hp : p ≤ s.size) (h : w.heap[r]? = some (rdr s p)) :
    Calls Try.prog 152 #[.pointer (some ⟨r, 0, none⟩)] w fun e w' => Kp r w w' ∧ ((∃ t : ByteArray, e = .returned (.string t) ∧ t.size ≤ 32 ∧ Starts (bytesOf s) p (vint t.size ++ bytesOf t) ∧ w'.heap[r]? = some (rdr s (p + (vint t.size ++ bytesOf t).length))) ∨
      (∃ q, e = .panicked (badAt q) ∧ ∀ t : ByteArray, t.size ≤ 32 → ¬ Starts (bytesOf s) p (vint t.size ++ bytesOf t))) := by
  have hrl : r < w.heap.size := lt_of_block h
  have HR : Hid (w.heap[r]? = some (rdr s p)) := h
  clear h
  go_enter Try.func152, Try.ntmps152
  go_wp2_with fail
  refine (number_rd r p s _ hm hp HR.out).mono ?_
  rintro e w1 ⟨hK1, ⟨n, rfl, hn, hs1, hl1, hR1⟩ | ⟨q, rfl, hno⟩⟩
  · have HK1 : Hid (Kp r w w1) := hK1
    have HS1 : Hid (Starts (bytesOf s) p (vint n)) := hs1
    have HR1 : Hid (w1.heap[r]? = some (rdr s (p + (vint n).length))) := hR1
    have HN : Hid (n < 2147483648) := hn
    have hsz := hK1.size
    clear hK1 hs1 hR1 hn HR
    by_cases hbig : 32 < n
    · have HNO : Hid (∀ t : ByteArray, t.size ≤ 32 → ¬ Starts (bytesOf s) p (vint t.size ++ bytesOf t)) := by
        intro t ht hst
        rw [starts_append] at hst
        have := vint_one (by omega) (by have := HN.out; omega) hst.1 HS1.out
        omega
      go_wp2_with (go_at_call 84; refine (giveUp_any r _ s _ HR1.out).mono ?_; rintro e w' ⟨rfl, rfl⟩)
      exact ⟨rfl, HK1.out, .inr ⟨_, rfl, HNO.out⟩⟩
    · by_cases hin : p + (vint n).length + n ≤ s.size
      · have hxs : (s.extract (p + (vint n).length) (p + (vint n).length + n)).size = n := by rw [ByteArray.size_extract]; omega
        have HX : Hid (bytesOf (s.extract (p + (vint n).length) (p + (vint n).length + n)) = ((bytesOf s).drop (p + (vint n).length)).take n) := by
          show _ = _
          rw [bytesOf_extract, show p + (vint n).length + n - (p + (vint n).length) = n by omega]
        have HT : Hid (∀ w, w.heap[r]? = some (rdr s (p + (vint n).length)) → Calls Try.prog 119 #[.pointer (some ⟨r, 0, none⟩), .int .i64 (n : Int)] w fun e w' => e = .returned (.string (s.extract (p + (vint n).length) (p + (vint n).length + n))) ∧ ∃ m, w' = (w.setCell ⟨r, 1, none⟩ (.int .i64 ((p + (vint n).length + n : Nat) : Int))).drewN m) :=
          fun w hw => takeN_ok r _ n s w hm hin hw
        generalize s.extract (p + (vint n).length) (p + (vint n).length + n) = x at *
        go_wp2_with (go_at_call 119; refine (HT.out _ HR1.out).mono ?_; rintro e w2 ⟨rfl, hw⟩; have HW : Hid (∃ m, w2 = (w1.setCell ⟨r, 1, none⟩ (.int .i64 ((p + (vint n).length + n : Nat) : Int))).drewN m) := hw; clear hw)
        have HR2 : Hid (w2.heap[r]? = some (rdr s (p + (vint n).length + n))) := by
          obtain ⟨m, rfl⟩ := HW.out
          exact rdr_set HR1.out m
        have HK2 : Hid (Kp r w w2) := by
          obtain ⟨m, rfl⟩ := HW.out
          exact HK1.out.set 1 _ m
        clear HW HT HR1 HK1 hsz
        refine (clone_any x _ (by omega)).mono ?_
        rintro e w3 ⟨rfl, hb⟩
        have HK3 : Hid (Kp r w w3) := HK2.out.trans (Kp.of_below hb)
        have HR3 : Hid (w3.heap[r]? = some (rdr s (p + (vint n).length + n))) := by
          show _ = _
          rw [hb.block r (lt_of_block HR2.out)]; exact HR2.out
        clear hb HK2 HR2
        go_wp2
        go_ret
        refine ⟨HK3.out, .inl ⟨x, rfl, by omega, ?_, ?_⟩⟩
        · rw [starts_append, hxs]
          refine ⟨HS1.out, ?_⟩
          rw [HX.out]
          exact List.take_prefix _ _
        · rw [List.length_append, bytesOf_length, hxs, ← Nat.add_assoc]
          exact HR3.out
      · have HNO : Hid (∀ t : ByteArray, t.size ≤ 32 → ¬ Starts (bytesOf s) p (vint t.size ++ bytesOf t)) := by
          intro t ht hst
          rw [starts_append] at hst
          have := vint_one (by omega) (by have := HN.out; omega) hst.1 HS1.out
          rw [this] at hst
          have h2 := starts_len hst.2 (by rw [bytesOf_length]; exact hl1)
          rw [bytesOf_length, bytesOf_length] at h2
          omega
        go_wp2_with (go_at_call 119; refine (takeN_bad r _ n s _ hm (by omega) hin hl1 HR1.out).mono ?_; rintro e w' ⟨rfl, m, rfl⟩)
        exact ⟨rfl, HK1.out.drewN m, .inr ⟨_, rfl, HNO.out⟩⟩
  · have HNO : Hid (∀ t : ByteArray, t.size ≤ 32 → ¬ Starts (bytesOf s) p (vint t.size ++ bytesOf t)) := by
      intro t ht hst
      rw [starts_append] at hst
      exact hno t.size (by omega) hst.1
    have HK1 : Hid (Kp r w w1) := hK1
    clear hno hK1
    go_wp2
    exact ⟨rfl, HK1.out, .inr ⟨q, rfl, HNO.out⟩⟩

theorem box_cells {w : World} {g : Nat} {a b c : Value} {t : TypeId} (h : w.heap[g]? = some (.cells #[a, b, c] t (0, 0))) :
    w.cell? ⟨g, 0, none⟩ = some a ∧ w.cell? ⟨g, 1, none⟩ = some b ∧ w.cell? ⟨g, 2, none⟩ = some c ∧ w.frozen? ⟨g, 0, none⟩ = false ∧ w.frozen? ⟨g, 1, none⟩ = false ∧ w.frozen? ⟨g, 2, none⟩ = false := by
  refine ⟨?_, ?_, ?_, ?_, ?_, ?_⟩ <;> first | simp [World.cell?, h] | simp [World.frozen?, h]

/-- A box of three cells is written anew. -/
theorem box_store {w1 : World} {g : Nat} {a b c : Value} (a' b' c' : Value) {t : TypeId} (h : w1.heap[g]? = some (.cells #[a, b, c] t (0, 0))) (r : Nat) (hr : r ≠ g) {w : World} (hK : Kp r w w1) (hg : w.heap.size ≤ g) :
    let W := ((w1.setCell ⟨g, 0, none⟩ a').setCell ⟨g, 1, none⟩ b').setCell ⟨g, 2, none⟩ c'
    W.cell? ⟨g, 0, none⟩ = some a' ∧ W.cell? ⟨g, 1, none⟩ = some b' ∧ W.cell? ⟨g, 2, none⟩ = some c' ∧ W.heap[r]? = w1.heap[r]? ∧ Kp r w W := by
  have h1 : (w1.setCell ⟨g, 0, none⟩ a').heap[g]? = some (.cells #[a', b, c] t (0, 0)) := by rw [heap_setCell_same w1 g 0 _ _ _ h]; rfl
  have h2 : ((w1.setCell ⟨g, 0, none⟩ a').setCell ⟨g, 1, none⟩ b').heap[g]? = some (.cells #[a', b', c] t (0, 0)) := by rw [heap_setCell_same _ g 1 _ _ _ h1]; rfl
  have h3 : (((w1.setCell ⟨g, 0, none⟩ a').setCell ⟨g, 1, none⟩ b').setCell ⟨g, 2, none⟩ c').heap[g]? = some (.cells #[a', b', c'] t (0, 0)) := by rw [heap_setCell_same _ g 2 _ _ _ h2]; rfl
  have h4 : ∀ k, k ≠ g → (((w1.setCell ⟨g, 0, none⟩ a').setCell ⟨g, 1, none⟩ b').setCell ⟨g, 2, none⟩ c').heap[k]? = w1.heap[k]? := by
    intro k hk
    rw [heap_setCell_other _ _ _ _ (by simpa using hk), heap_setCell_other _ _ _ _ (by simpa using hk), heap_setCell_other _ _ _ _ (by simpa using hk)]
  obtain ⟨c0, c1, c2, _⟩ := box_cells h3
  refine ⟨c0, c1, c2, h4 r hr, hK.os, hK.tape, hK.output, ?_, ?_⟩
  · simpa using hK.size
  · intro i hi hne
    rw [h4 i (by omega)]
    exact World.grownBy.block hK i hi hne

set_option maxRecDepth 100000 in
set_option maxHeartbeats 2000000 in
theorem readPlain1_any (k : Int) (hk : k = 1 ∨ k = 2 ∨ k = 3) (r p : Nat) (s : ByteArray) (w : World) (hm : s.size ≤ maxLen) (hp : p ≤ s.size) (h : w.heap[r]? = some (rdr s p)) :
    Calls Try.prog 142 #[.pointer (some ⟨r, 0, none⟩), .int .i64 k] w fun e w' => Kp r w w' ∧ ((∃ v : Val, e = .returned (.agg #[.bool v.null, .int .i64 v.n, .string v.s]) ∧ VK k v ∧ Starts (bytesOf s) p (plainB k v) ∧ p + (plainB k v).length ≤ s.size ∧ w'.heap[r]? = some (rdr s (p + (plainB k v).length))) ∨
      (∃ q, e = .panicked (badAt q) ∧ ∀ v : Val, VK k v → ¬ Starts (bytesOf s) p (plainB k v))) := by
  have hrl : r < w.heap.size := lt_of_block h
  have HR : Hid (w.heap[r]? = some (rdr s p)) := h
  have HR0 : Hid ((w.alloc (.cells #[.bool false, .int .i64 0, .string ⟨#[]⟩] 39)).heap[r]? = some (rdr s p)) := by
    show _ = _
    rw [Below.heap_alloc _ _ r hrl]; exact h
  have HKA : Hid (Kp r w (w.alloc (.cells #[.bool false, .int .i64 0, .string ⟨#[]⟩] 39))) := (Kp.refl r w).alloc _
  have hlen : ∀ xs, Starts (bytesOf s) p xs → p + xs.length ≤ s.size := fun xs hs => by have := starts_len hs (by rw [bytesOf_length]; exact hp); rwa [bytesOf_length] at this
  have HLEN : Hid (∀ xs, Starts (bytesOf s) p xs → p + xs.length ≤ s.size) := hlen
  clear h hlen
  rcases hk with rfl | rfl | rfl
  · go_enter Try.func142, Try.ntmps142
    go_wp2_with fail
    refine (varint_rd r p s _ hm hp HR0.out).mono ?_
    rintro e w1 ⟨hK1, ⟨n, rfl, hn, hs1, hR1⟩ | ⟨q, rfl, hno⟩⟩
    · have HK1 : Hid (Kp r w w1) := HKA.out.trans hK1
      have hbx : w1.heap[w.heap.size]? = some (.cells #[.bool false, .int .i64 0, .string ⟨#[]⟩] 39 (0, 0)) := Kp.block hK1 (heap_alloc_new w _) (by omega)
      obtain ⟨c0, c1, c2, f0, f1, f2⟩ := box_cells hbx
      have HBX : Hid (w1.heap[w.heap.size]? = some (.cells #[.bool false, .int .i64 0, .string ⟨#[]⟩] 39 (0, 0))) := hbx
      clear hbx
      have HR1 : Hid (w1.heap[r]? = some (rdr s (p + (vint n).length))) := hR1
      have HS1 : Hid (Starts (bytesOf s) p (vint n)) := hs1
      have HN : Hid (n < 18446744073709551616) := hn
      have HUZ : Hid (∀ w, Calls Try.prog 151 #[.int .u64 (n : Int)] w fun e w' => e = .returned (.int .i64 (uz n)) ∧ w' = w) := fun w => unzigzag_any n w hn
      clear hn hs1 hR1 hK1 HR HR0 HKA
      go_wp2_with (go_at_call 151; refine (HUZ.out _).mono ?_; rintro e w' ⟨rfl, rfl⟩)
      clear c0 c1 c2 f0 f1 f2
      obtain ⟨g0, g1, g2, g3, g4⟩ := box_store (.bool false) (.int .i64 (uz n)) (.string ⟨#[]⟩) HBX.out r (by omega) HK1.out (Nat.le_refl _)
      simp [bodyPost, results, Try.results142, go_sem, g0, g1, g2]
      have hpb : plainB 1 ⟨false, uz n, ⟨#[]⟩⟩ = vint n := by show vint (zz (uz n)) = _; rw [zz_uz]
      have hrg := uz_range n HN.out
      refine ⟨g4, ⟨false, uz n, ⟨#[]⟩⟩, ⟨rfl, rfl, rfl⟩, ⟨rfl, hrg.1, hrg.2, fun _ => rfl, fun h => by omega, fun h => by omega⟩, ?_, ?_, ?_⟩
      · rw [hpb]; exact HS1.out
      · rw [hpb]; exact HLEN.out _ HS1.out
      · rw [hpb, g3]; exact HR1.out
    · have HNO : Hid (∀ v : Val, VK 1 v → ¬ Starts (bytesOf s) p (plainB 1 v)) := fun v hv => hno (zz v.n) (zz_lt _ hv.lo hv.hi)
      have HK1 : Hid (Kp r w w1) := HKA.out.trans hK1
      clear hno hK1
      go_wp2
      exact ⟨rfl, HK1.out, .inr ⟨q, rfl, HNO.out⟩⟩
  · go_enter Try.func142, Try.ntmps142
    go_wp2_with fail
    refine (bit_any r p s _ hm hp HR0.out).mono ?_
    rintro e w1 ⟨hK1, ⟨n, rfl, hb, hs1, hR1, hl1⟩ | ⟨q, rfl, hno⟩⟩
    · have HK1 : Hid (Kp r w w1) := HKA.out.trans hK1
      have hbx : w1.heap[w.heap.size]? = some (.cells #[.bool false, .int .i64 0, .string ⟨#[]⟩] 39 (0, 0)) := Kp.block hK1 (heap_alloc_new w _) (by omega)
      obtain ⟨c0, c1, c2, f0, f1, f2⟩ := box_cells hbx
      have HBX : Hid (w1.heap[w.heap.size]? = some (.cells #[.bool false, .int .i64 0, .string ⟨#[]⟩] 39 (0, 0))) := hbx
      clear hbx
      have HR1 : Hid (w1.heap[r]? = some (rdr s (p + 1))) := hR1
      have HS1 : Hid (Starts (bytesOf s) p [n.toNat]) := hs1
      have HB : Hid (n = 0 ∨ n = 1) := hb
      clear hb hs1 hR1 hK1 HR HR0 HKA
      go_wp2
      clear c0 c1 c2 f0 f1 f2
      obtain ⟨g0, g1, g2, g3, g4⟩ := box_store (.bool false) (.int .i64 n) (.string ⟨#[]⟩) HBX.out r (by omega) HK1.out (Nat.le_refl _)
      simp [bodyPost, results, Try.results142, go_sem, g0, g1, g2]
      have hpb : plainB 2 ⟨false, n, ⟨#[]⟩⟩ = [n.toNat] := by show [byteOf n] = _; rw [byteOf_bit HB.out]
      have hb := HB.out
      refine ⟨g4, ⟨false, n, ⟨#[]⟩⟩, ⟨rfl, rfl, rfl⟩, ⟨rfl, by show _ ≤ n; omega, by show n ≤ _; omega, fun h => by omega, fun _ => ⟨hb, rfl⟩, fun h => by omega⟩, ?_, ?_, ?_⟩
      · rw [hpb]; exact HS1.out
      · rw [hpb]; exact hl1
      · rw [hpb, g3]; exact HR1.out
    · have HNO : Hid (∀ v : Val, VK 2 v → ¬ Starts (bytesOf s) p (plainB 2 v)) := fun v hv hs => hno v.n (hv.s2 rfl).1 (by rw [← byteOf_bit (hv.s2 rfl).1]; exact hs)
      have HK1 : Hid (Kp r w w1) := HKA.out.trans hK1
      clear hno hK1
      go_wp2
      exact ⟨rfl, HK1.out, .inr ⟨q, rfl, HNO.out⟩⟩
  · go_enter Try.func142, Try.ntmps142
    go_wp2_with fail
    refine (readText_any r p s _ hm hp HR0.out).mono ?_
    rintro e w1 ⟨hK1, ⟨x, rfl, hx, hs1, hR1⟩ | ⟨q, rfl, hno⟩⟩
    · have HK1 : Hid (Kp r w w1) := HKA.out.trans hK1
      have hbx : w1.heap[w.heap.size]? = some (.cells #[.bool false, .int .i64 0, .string ⟨#[]⟩] 39 (0, 0)) := Kp.block hK1 (heap_alloc_new w _) (by omega)
      obtain ⟨c0, c1, c2, f0, f1, f2⟩ := box_cells hbx
      have HBX : Hid (w1.heap[w.heap.size]? = some (.cells #[.bool false, .int .i64 0, .string ⟨#[]⟩] 39 (0, 0))) := hbx
      clear hbx
      have HR1 : Hid (w1.heap[r]? = some (rdr s (p + (vint x.size ++ bytesOf x).length))) := hR1
      have HS1 : Hid (Starts (bytesOf s) p (vint x.size ++ bytesOf x)) := hs1
      clear hs1 hR1 hK1 HR HR0 HKA
      go_wp2
      clear c0 c1 c2 f0 f1 f2
      obtain ⟨g0, g1, g2, g3, g4⟩ := box_store (.bool false) (.int .i64 0) (.string x) HBX.out r (by omega) HK1.out (Nat.le_refl _)
      simp [bodyPost, results, Try.results142, go_sem, g0, g1, g2]
      have hpb : plainB 3 ⟨false, 0, x⟩ = vint x.size ++ bytesOf x := rfl
      refine ⟨g4, ⟨false, 0, x⟩, ⟨rfl, rfl, rfl⟩, ⟨rfl, by show _ ≤ (0 : Int); omega, by show (0 : Int) ≤ _; omega, fun h => by omega, fun h => by omega, fun _ => ⟨rfl, hx⟩⟩, ?_, ?_, ?_⟩
      · rw [hpb]; exact HS1.out
      · rw [hpb]; exact HLEN.out _ HS1.out
      · rw [hpb, g3]; exact HR1.out
    · have HNO : Hid (∀ v : Val, VK 3 v → ¬ Starts (bytesOf s) p (plainB 3 v)) := fun v hv hs => hno v.s (hv.s3 rfl).2 hs
      have HK1 : Hid (Kp r w w1) := HKA.out.trans hK1
      clear hno hK1
      go_wp2
      exact ⟨rfl, HK1.out, .inr ⟨q, rfl, HNO.out⟩⟩
end Go.Proofs.Ytjidbonhhpkljaa.Ec
