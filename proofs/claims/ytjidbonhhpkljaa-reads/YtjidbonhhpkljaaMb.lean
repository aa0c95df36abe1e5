/- What the proof stands on: DrRead, DcTake, DcVarint, DcPlainC, DrOne, DcListC, DcDictD, DcColumnD, DcWhole, DcBackA, DvBook, EcLent, DvOwn, WrCols, WrLess, WrBnd, WrCompare, WrBounds, WrColsB, WrRow, WrTable, WrColumnOf. -/
import Derived.Test.YtjidbonhhpkljaaMa
import Derived.Lib.BufferWrite
import Derived.Lib.UnsafeStr
import Derived.Laws.MakeOwn
import Derived.WalkSpells
import Derived.Deep.CutBlock
import Derived.Lib.Bytealg
import Derived.Deep.RegionHeld

/- The document's reader: take, byte, word, number: what they answer at what was written, and that they always answer. -/
set_option linter.unusedVariables false
namespace Go.Proofs.Ytjidbonhhpkljaa.Ec
open Go.RowKit Go.Proofs.Ytjidbonhhpkljaa.Pk Go.Proofs.Ytjidbonhhpkljaa.Pm
/-- The block of the document's reader. -/
def rb (s : ByteArray) (p : Nat) (bad : Bool) : Obj := .cells #[.string s, .int .i64 (p : Int), .bool bad] 174 (0, 0)

theorem rb_cells {w : World} {r p : Nat} {s : ByteArray} {bad : Bool} (h : w.heap[r]? = some (rb s p bad)) :
    w.cell? ⟨r, 0, none⟩ = some (.string s) ∧ w.cell? ⟨r, 1, none⟩ = some (.int .i64 (p : Int)) ∧ w.cell? ⟨r, 2, none⟩ = some (.bool bad) ∧ w.frozen? ⟨r, 0, none⟩ = false ∧ w.frozen? ⟨r, 1, none⟩ = false ∧ w.frozen? ⟨r, 2, none⟩ = false := by
  unfold rb at h
  refine ⟨?_, ?_, ?_, ?_, ?_, ?_⟩ <;> first | simp [World.cell?, h] | simp [World.frozen?, h]
theorem rb_at {w : World} {r p q : Nat} {s : ByteArray} {bad : Bool} (h : w.heap[r]? = some (rb s p bad)) (n : Nat) : ((w.setCell ⟨r, 1, none⟩ (.int .i64 (q : Int))).drewN n).heap[r]? = some (rb s q bad) := by
  show (w.setCell ⟨r, 1, none⟩ (.int .i64 (q : Int))).heap[r]? = _
  unfold rb at *
  rw [heap_setCell_same w r 1 _ _ _ h]
  rfl
theorem rb_bad {w : World} {r p : Nat} {s : ByteArray} {bad : Bool} (h : w.heap[r]? = some (rb s p bad)) (n : Nat) : ((w.setCell ⟨r, 2, none⟩ (.bool true)).drewN n).heap[r]? = some (rb s p true) := by
  show (w.setCell ⟨r, 2, none⟩ (.bool true)).heap[r]? = _
  unfold rb at *
  rw [heap_setCell_same w r 2 _ _ _ h]
  rfl
theorem rb_bad0 {w : World} {r p : Nat} {s : ByteArray} {bad : Bool} (h : w.heap[r]? = some (rb s p bad)) : (w.setCell ⟨r, 2, none⟩ (.bool true)).heap[r]? = some (rb s p true) := by
  unfold rb at *
  rw [heap_setCell_same w r 2 _ _ _ h]
  rfl
theorem set_drew0 (w : World) (a : Addr) (v : Value) (m : Nat) : (w.drewN m).setCell a v = (w.setCell a v).drewN m := by unfold World.setCell; rfl

theorem _root_.Go.Proofs.Ytjidbonhhpkljaa.Pk.Kp.set0 {r : Nat} {w w1 : World} (h : Kp r w w1) {o : Nat} {v : Value} : Kp r w (w1.setCell ⟨r, o, none⟩ v) := h.set o v 0

set_option maxRecDepth 100000 in
set_option maxHeartbeats 1000000 in
theorem rtake_bad (r p : Nat) (n : Int) (bad : Bool) (s : ByteArray) (w : World) (hm : s.size ≤ maxLen) (hn0 : -9223372036854775808 ≤ n) (hn1 : n ≤ 9223372036854775807) (hp : p ≤ s.size) (hbad : n < 0 ∨ (s.size : Int) - (p : Int) < n) (h : w.heap[r]? = some (rb s p bad)) :
    Calls Try.prog 126 #[.pointer (some ⟨r, 0, none⟩), .int .i64 n] w fun e w' => Kp r w w' ∧ e = .returned (.string ⟨#[]⟩) ∧ w'.heap[r]? = some (rb s p true) := by
  obtain ⟨c0, c1, c2, f0, f1, f2⟩ := rb_cells h
  unfold maxLen at hm
  have HR : Hid (w.heap[r]? = some (rb s p bad)) := h
  clear h
  by_cases h0 : n < 0
  · have hd : decide (n < 0) = true := by simpa using h0
    clear hbad
    go_enter Try.func126, Try.ntmps126
    go_wp2_with fail
    go_quiet (fail)
    go_wp2
    go_ret
    exact ⟨by rw [set_drew0]; exact (Kp.refl _ _).set _ _ _, rfl, by rw [set_drew0]; exact rb_bad HR.out _⟩
  · have hd0 : decide (n < 0) = false := by simp; omega
    have hd : decide ((s.size : Int) - (p : Int) < n) = true := by simp; omega
    clear hbad
    go_enter Try.func126, Try.ntmps126
    go_wp2_with fail
    go_quiet (fail)
    go_wp2
    go_ret
    exact ⟨by rw [set_drew0]; exact (Kp.refl _ _).set _ _ _, rfl, by rw [set_drew0]; exact rb_bad HR.out _⟩

set_option maxRecDepth 100000 in
set_option maxHeartbeats 1000000 in
theorem rtake_ok (r p c : Nat) (bad : Bool) (s : ByteArray) (w : World) (hm : s.size ≤ maxLen) (hp : p + c ≤ s.size) (h : w.heap[r]? = some (rb s p bad)) :
    Calls Try.prog 126 #[.pointer (some ⟨r, 0, none⟩), .int .i64 (c : Int)] w fun e w' => Kp r w w' ∧ e = .returned (.string (s.extract p (p + c))) ∧ w'.heap[r]? = some (rb s (p + c) bad) := by
  obtain ⟨c0, c1, c2, f0, f1, f2⟩ := rb_cells h
  unfold maxLen at hm
  have HR : Hid (w.heap[r]? = some (rb s p bad)) := h
  clear h
  have hd0 : decide ((c : Int) < 0) = false := by simp
  have hd : decide ((s.size : Int) - (p : Int) < (c : Int)) = false := by simp; omega
  have q1 : (0 : Int) ≤ (p : Int) + (c : Int) := by omega
  have q2 : (p : Int) + (c : Int) ≤ (s.size : Int) := by omega
  have q3 : (p : Int) ≤ (p : Int) + (c : Int) := by omega
  have q4 : ((p : Int) + (c : Int)).toNat = p + c := by omega
  go_enter Try.func126, Try.ntmps126
  go_wp2_with fail
  go_quiet (fail)
  generalize nq = m at *
  go_wp2_with fail
  go_quiet (fail)
  go_wp2
  go_ret
  refine ⟨?_, rfl, ?_⟩
  · rw [set_drew0]
    exact (Kp.refl _ _).set _ _ _
  · rw [set_drew0]
    exact rb_at (q := p + c) HR.out _

set_option maxRecDepth 100000 in
set_option maxHeartbeats 1000000 in
theorem rbyte_ok (r p : Nat) (bad : Bool) (s : ByteArray) (w : World) (hm : s.size ≤ maxLen) (hp : p < s.size) (h : w.heap[r]? = some (rb s p bad)) :
    Calls Try.prog 127 #[.pointer (some ⟨r, 0, none⟩)] w fun e w' => Kp r w w' ∧ e = .returned (.int .i64 (s[p].toNat : Int)) ∧ w'.heap[r]? = some (rb s (p + 1) bad) := by
  have HT : Hid (∀ w, w.heap[r]? = some (rb s p bad) → Calls Try.prog 126 #[.pointer (some ⟨r, 0, none⟩), .int .i64 1] w fun e w' => Kp r w w' ∧ e = .returned (.string ⟨#[s[p]]⟩) ∧ w'.heap[r]? = some (rb s (p + 1) bad)) := fun w h => by
    have := rtake_ok r p 1 bad s w hm (by omega) h
    rwa [extract_one s p hp] at this
  have HR : Hid (w.heap[r]? = some (rb s p bad)) := h
  clear h
  have hw : wrap64 (s[p].toNat : Int) = (s[p].toNat : Int) := by have := s[p].toNat_lt; unfold wrap64; omega
  generalize s[p] = x at *
  go_enter Try.func127, Try.ntmps127
  go_wp2_with fail
  refine (HT.out _ HR.out).mono ?_
  rintro e w1 ⟨hK, rfl, hR⟩
  have HK : Hid (Kp r w w1) := hK
  have HR1 : Hid (w1.heap[r]? = some (rb s (p + 1) bad)) := hR
  clear hK hR
  have hne : (ByteArray.toList ⟨#[x]⟩ == ([] : List UInt8)) = false := by
    rw [ByteArray.toList_eq]; rfl
  go_wp2
  go_ret
  exact ⟨HK.out, by show Ending.returned (Value.int .i64 (wrap64 (x.toNat : Int))) = _; rw [hw], HR1.out⟩

set_option maxRecDepth 100000 in
set_option maxHeartbeats 1000000 in
theorem rbyte_bad (r p : Nat) (bad : Bool) (s : ByteArray) (w : World) (hm : s.size ≤ maxLen) (hp : p ≤ s.size) (hp2 : ¬ p < s.size) (h : w.heap[r]? = some (rb s p bad)) :
    Calls Try.prog 127 #[.pointer (some ⟨r, 0, none⟩)] w fun e w' => Kp r w w' ∧ e = .returned (.int .i64 0) ∧ w'.heap[r]? = some (rb s p true) := by
  have HR : Hid (w.heap[r]? = some (rb s p bad)) := h
  clear h
  go_enter Try.func127, Try.ntmps127
  go_wp2_with fail
  refine (rtake_bad r p 1 bad s _ hm (by omega) (by omega) hp (.inr (by omega)) HR.out).mono ?_
  rintro e w1 ⟨hK, rfl, hR⟩
  have HK : Hid (Kp r w w1) := hK
  have HR1 : Hid (w1.heap[r]? = some (rb s p true)) := hR
  clear hK hR
  go_wp2
  go_ret
  exact ⟨HK.out, rfl, HR1.out⟩

/-- A byte, whatever stands there. -/
theorem rbyte_any (r p : Nat) (bad : Bool) (s : ByteArray) (w : World) (hm : s.size ≤ maxLen) (hp : p ≤ s.size) (h : w.heap[r]? = some (rb s p bad)) :
    Calls Try.prog 127 #[.pointer (some ⟨r, 0, none⟩)] w fun e w' => Kp r w w' ∧ ∃ (c q : Nat) (b : Bool), e = .returned (.int .i64 (c : Int)) ∧ c < 256 ∧ q ≤ s.size ∧ w'.heap[r]? = some (rb s q b) ∧ (p < s.size → (bytesOf s)[p]? = some c ∧ q = p + 1 ∧ b = bad) ∧ (¬ p < s.size → b = true) := by
  by_cases hin : p < s.size
  · refine (rbyte_ok r p bad s w hm hin h).mono ?_
    rintro e w' ⟨hK, rfl, hR⟩
    exact ⟨hK, s[p].toNat, p + 1, bad, rfl, s[p].toNat_lt, by omega, hR, fun _ => ⟨by rw [List.getElem?_eq_getElem (by rw [bytesOf_length]; exact hin), bytesOf_get s p hin], rfl, rfl⟩, fun h => absurd hin h⟩
  · refine (rbyte_bad r p bad s w hm hp hin h).mono ?_
    rintro e w' ⟨hK, rfl, hR⟩
    exact ⟨hK, 0, p, true, rfl, by omega, hp, hR, fun h => absurd h hin, fun _ => rfl⟩

/-- 'n + uint64(c) * worth', as words. -/
theorem add_word (X c W : Nat) : ∃ Y : Nat, IntKind.u64.wrap ((X : Int) + IntKind.u64.wrap ((c : Int) * (W : Int))) = (Y : Int) ∧ Y < 18446744073709551616 ∧ (X + c * W < 18446744073709551616 → Y = X + c * W) := by
  refine ⟨(X + c * W) % 18446744073709551616, ?_, Nat.mod_lt _ (by omega), fun h => Nat.mod_eq_of_lt h⟩
  rw [wrap_u64, wrap_u64]
  have : (c : Int) * (W : Int) = ((c * W : Nat) : Int) := by push_cast; rfl
  rw [this]
  omega

set_option maxRecDepth 100000 in
set_option maxHeartbeats 4000000 in
theorem rwordS_any (r p : Nat) (bad : Bool) (s : ByteArray) (w : World) (hm : s.size ≤ maxLen) (hp : p ≤ s.size) (h : w.heap[r]? = some (rb s p bad)) :
    Calls Try.prog 139 #[.pointer (some ⟨r, 0, none⟩)] w fun e w' => Kp r w w' ∧ ∃ (v q : Nat) (b : Bool), e = .returned (.int .u64 (v : Int)) ∧ v < 18446744073709551616 ∧ q ≤ s.size ∧ w'.heap[r]? = some (rb s q b) ∧
      (∀ x, x < 18446744073709551616 → Starts (bytesOf s) p (vint x) → v = x ∧ q = p + (vint x).length ∧ b = bad) ∧ (bad = true → b = true) := by
  have HR : Hid (w.heap[r]? = some (rb s p bad)) := h
  clear h
  go_enter Try.func139, Try.ntmps139
  go_wp2_with fail
  go_loopw [3, 4, 5] (fun n wo i wr => ∃ (j X W q : Nat) (b : Bool), j ≤ 10 ∧ i = .int .i64 (j : Int) ∧ n = .int .u64 (X : Int) ∧ X < 18446744073709551616 ∧ wo = .int .u64 (W : Int) ∧ W < 18446744073709551616 ∧ (j ≤ 9 → W = 128 ^ j) ∧ q ≤ s.size ∧ wr.heap[r]? = some (rb s q b) ∧ Kp r w wr ∧ (bad = true → b = true) ∧
      ((∃ x, x < 18446744073709551616 ∧ Starts (bytesOf s) p (vint x)) → VSt (bytesOf s) p j X ∧ q = p + j ∧ b = bad)) (fun _ _ i _ => 10 - (intOf i).toNat)
  case atStart => exact ⟨0, 0, 1, p, bad, by omega, rfl, rfl, by omega, rfl, by omega, fun _ => by simp, hp, HR.out, Kp.refl _ _, id, fun _ => ⟨VSt.zero _ _, rfl, rfl⟩⟩
  case round =>
    clear HR
    obtain ⟨j, X, W, q, b, hj, rfl, rfl, hX, rfl, hW, hW2, hq, hR, hK, hst, hG⟩ := hrel
    have HST : Hid (bad = true → b = true) := hst
    clear hst
    have HX : Hid (X < 18446744073709551616) := hX
    have HW : Hid (W < 18446744073709551616) := hW
    have HW2 : Hid (j ≤ 9 → W = 128 ^ j) := hW2
    have HRR : Hid (wr.heap[r]? = some (rb s q b)) := hR
    have HK : Hid (Kp r w wr) := hK
    have HG : Hid ((∃ x, x < 18446744073709551616 ∧ Starts (bytesOf s) p (vint x)) → VSt (bytesOf s) p j X ∧ q = p + j ∧ b = bad) := hG
    clear hX hW hW2 hR hK hG
    by_cases hj9 : j < 10
    · go_wp2_with fail
      refine (rbyte_any r q b s _ hm hq HRR.out).mono ?_
      rintro e w1 ⟨hK1, c, q1, b1, rfl, hc, hq1, hR1, hin, hout⟩
      have HK1 : Hid (Kp r w w1) := HK.out.trans hK1
      have HR1 : Hid (w1.heap[r]? = some (rb s q1 b1)) := hR1
      have HIN : Hid (q < s.size → (bytesOf s)[q]? = some c ∧ q1 = q + 1 ∧ b1 = b) := hin
      have HST1 : Hid (bad = true → b1 = true) := fun h => by
        rcases Nat.lt_or_ge q s.size with h1 | h1
        · rw [(hin h1).2.2]; exact HST.out h
        · exact hout (by omega)
      clear hK1 hR1 hin hout HK HRR
      obtain ⟨Y, hY, hY2, hY3⟩ := add_word X (c % 128) W
      have HY2 : Hid (Y < 18446744073709551616) := hY2
      have HY3 : Hid (X + c % 128 * W < 18446744073709551616 → Y = X + c % 128 * W) := hY3
      clear hY2 hY3
      rw [show ((c % 128 : Nat) : Int) = (c : Int) % 128 from by omega] at hY
      obtain ⟨V, hV, hV2, hV3⟩ : ∃ V : Nat, IntKind.u64.wrap ((W : Int) * 128) = (V : Int) ∧ V < 18446744073709551616 ∧ (W * 128 < 18446744073709551616 → V = W * 128) :=
        ⟨W * 128 % 18446744073709551616, by rw [wrap_u64]; omega, Nat.mod_lt _ (by omega), fun h => Nat.mod_eq_of_lt h⟩
      have HV2 : Hid (V < 18446744073709551616) := hV2
      have HV3 : Hid (W * 128 < 18446744073709551616 → V = W * 128) := hV3
      clear hV2 hV3
      by_cases hhi : 128 ≤ c
      · go_wp2_with fail
        refine ⟨⟨j + 1, Y, V, q1, b1, by omega, by go_num, by first | rfl | rw [hY], HY2.out, by first | rfl | rw [hV], HV2.out, ?_, hq1, HR1.out, HK1.out, HST1.out, ?_⟩, by simp [intOf]; omega⟩
        · intro h9
          have h1 := HW2.out (by omega)
          have h2 : (128 : Nat) ^ (j + 1) ≤ 128 ^ 9 := Nat.pow_le_pow_right (by omega) (by omega)
          have h3 : (128 : Nat) ^ 9 = 9223372036854775808 := by decide
          rw [Nat.pow_succ] at h2 ⊢
          rw [HV3.out (by rw [h1]; omega), h1]
        · intro hg
          obtain ⟨g1, g2, g3⟩ := HG.out hg
          obtain ⟨x, hx, hs⟩ := hg
          have hqs : q < s.size := by
            rcases Nat.lt_or_ge q s.size with h | h
            · exact h
            · exact absurd hs (g1.none (by omega) (by rw [bytesOf_length]; omega) x hx)
          obtain ⟨i1, i2, i3⟩ := HIN.out hqs
          rw [g2] at i1
          have g4 := g1.more (by omega) i1 hhi hc
          have hj8 : j ≤ 8 := by
            rcases Nat.lt_or_ge j 9 with h | h
            · omega
            · have : j + 1 = 10 := by omega
              rw [this] at g4
              exact absurd hs (g4.ten x hx)
          have h1 := HW2.out (by omega)
          have h2 := g4.lt
          have h3 : (128 : Nat) ^ (j + 1) ≤ 128 ^ 9 := Nat.pow_le_pow_right (by omega) (by omega)
          have h4 : (128 : Nat) ^ 9 = 9223372036854775808 := by decide
          have h5 : c % 128 * W = 128 ^ j * (c - 128) := by rw [h1, Nat.mul_comm, show c % 128 = c - 128 by omega]
          rw [HY3.out (by rw [h5]; omega), h5]
          exact ⟨g4, by omega, by rw [i3, g3]⟩
      · go_wp2_with fail
        go_ret
        refine ⟨HK1.out, Y, q1, b1, by first | rfl | rw [← hY]; rfl, HY2.out, hq1, HR1.out, ?_, HST1.out⟩
        intro x hx hs
        obtain ⟨g1, g2, g3⟩ := HG.out ⟨x, hx, hs⟩
        have hqs : q < s.size := by
          rcases Nat.lt_or_ge q s.size with h | h
          · exact h
          · exact absurd hs (g1.none (by omega) (by rw [bytesOf_length]; omega) x hx)
        obtain ⟨i1, i2, i3⟩ := HIN.out hqs
        rw [g2] at i1
        obtain ⟨e1, e2⟩ := (g1.fin (by omega) i1 (by omega) x hx).1 hs
        have h1 := HW2.out (by omega)
        have h5 : c % 128 * W = 128 ^ j * c := by rw [h1, Nat.mul_comm, show c % 128 = c by omega]
        have h6 := g1.fin_len (c := c) (by omega) (by omega) e2
        rw [← e1] at h6
        exact ⟨by rw [HY3.out (by rw [h5]; omega), h5, e1], by rw [h6]; omega, by rw [i3, g3]⟩
    · obtain rfl : j = 10 := by omega
      obtain ⟨c0, c1, c2, f0, f1, f2⟩ := rb_cells HRR.out
      go_wp2
      go_ret
      refine ⟨HK.out.set0, 0, q, true, rfl, by omega, hq, rb_bad0 HRR.out, ?_, fun _ => rfl⟩
      intro x hx hs
      obtain ⟨g1, g2, g3⟩ := HG.out ⟨x, hx, hs⟩
      exact absurd hs (g1.ten x hx)
set_option maxRecDepth 100000 in
set_option maxHeartbeats 1000000 in
theorem rnumberS_any (r p M : Nat) (bad : Bool) (s : ByteArray) (w : World) (hM : M ≤ 100000) (hm : s.size ≤ maxLen) (hp : p ≤ s.size) (h : w.heap[r]? = some (rb s p bad)) :
    Calls Try.prog 125 #[.pointer (some ⟨r, 0, none⟩), .int .i64 (M : Int)] w fun e w' => Kp r w w' ∧ ∃ (v q : Nat) (b : Bool), e = .returned (.int .i64 (v : Int)) ∧ v ≤ M ∧ q ≤ s.size ∧ w'.heap[r]? = some (rb s q b) ∧
      (∀ x, x ≤ M → Starts (bytesOf s) p (vint x) → v = x ∧ q = p + (vint x).length ∧ b = bad) ∧ (bad = true → b = true) := by
  have HR : Hid (w.heap[r]? = some (rb s p bad)) := h
  clear h
  go_enter Try.func125, Try.ntmps125
  go_wp2_with fail
  refine (rwordS_any r p bad s _ hm hp HR.out).mono ?_
  rintro e w1 ⟨hK, v, q, b, rfl, hv, hq, hR, hu, hst⟩
  have HST : Hid (bad = true → b = true) := hst
  clear hst
  have HK : Hid (Kp r w w1) := hK
  have HR1 : Hid (w1.heap[r]? = some (rb s q b)) := hR
  have HV : Hid (v < 18446744073709551616) := hv
  have HU : Hid _ := hu
  obtain ⟨c0, c1, c2, f0, f1, f2⟩ := rb_cells hR
  have hwM : IntKind.u64.wrap (M : Int) = (M : Int) := by rw [wrap_u64]; omega
  clear hK hR hv hu HR
  by_cases hbig : M < v
  · have hd : decide ((M : Int) < (v : Int)) = true := by simp; omega
    have HB : Hid (M < v) := hbig
    clear hbig
    go_wp2
    go_ret
    refine ⟨HK.out.set0, 0, q, true, rfl, by omega, hq, rb_bad0 HR1.out, ?_, fun _ => rfl⟩
    intro x hx hs
    have := (HU.out x (by omega) hs).1
    have := HB.out
    omega
  · have hd : decide ((M : Int) < (v : Int)) = false := by simp; omega
    have hw : wrap64 (v : Int) = (v : Int) := by unfold wrap64; omega
    have HB : Hid (¬ M < v) := hbig
    clear hbig
    go_wp2
    go_ret
    exact ⟨HK.out, v, q, b, by first | rfl | (rw [← hw]; rfl), by have := HB.out; omega, hq, HR1.out, fun x hx hs => HU.out x (by omega) hs, HST.out⟩
end Go.Proofs.Ytjidbonhhpkljaa.Ec

/- The contracts of the code's Reader: a text is taken, a varint, a number, a bit; or the bytes are given up by a panic. -/
set_option linter.unusedVariables false
namespace Go.Proofs.Ytjidbonhhpkljaa.Ec
open Go.RowKit Go.Proofs.Ytjidbonhhpkljaa.Pk Go.Proofs.Ytjidbonhhpkljaa.Pm
theorem byte_at (s : ByteArray) (p : Nat) (h : p < s.size) : (bytesOf s)[p]? = some s[p].toNat := by
  rw [List.getElem?_eq_getElem (by rw [bytesOf_length]; exact h), bytesOf_get s p h]

theorem and_u8 (c : Nat) (h : c < 256) : bits .and .u8 (c : Int) 127 = ((c % 128 : Nat) : Int) := by
  have := bits_mask .u8 8 (by decide) wraps_u8 7 (by decide) (c : Int) (by omega) (by omega)
  rw [show (127 : Int) = 2 ^ 7 - 1 from by decide, this]
  omega
theorem wraps_u64 (n : Int) (h₀ : 0 ≤ n) (h₁ : n < 2 ^ 64) : IntKind.u64.wrap n = n := by rw [wrap_u64]; omega

theorem bytesOf_extract (s : ByteArray) (p q : Nat) : bytesOf (s.extract p q) = ((bytesOf s).drop p).take (q - p) := by
  unfold bytesOf
  rw [ByteArray.data_extract]
  simp only [Array.toList_extract, List.extract_eq_take_drop, List.map_take, List.map_drop]

set_option maxRecDepth 100000 in
set_option maxHeartbeats 1000000 in
theorem takeN_bad (r p c : Nat) (s : ByteArray) (w : World) (hm : s.size ≤ maxLen) (hc : c ≤ 2147483648) (hp : ¬ p + c ≤ s.size) (hp2 : p ≤ s.size) (h : w.heap[r]? = some (rdr s p)) :
    Calls Try.prog 119 #[.pointer (some ⟨r, 0, none⟩), .int .i64 (c : Int)] w fun e w' => e = .panicked (badAt p) ∧ ∃ n, w' = w.drewN n := by
  obtain ⟨c0, c1, f0, f1⟩ := rdr_cells h
  unfold maxLen at hm
  have HR : Hid (w.heap[r]? = some (rdr s p)) := h
  clear h
  have hd0 : decide ((c : Int) < 0) = false := by simp
  have hd : decide ((s.size : Int) - (p : Int) < (c : Int)) = true := by simp; omega
  go_enter Try.func119, Try.ntmps119
  go_wp2_with fail
  go_quiet (fail)
  go_wp2_with (go_at_call 84; refine (giveUp_any r p s _ (by exact HR.out)).mono ?_; rintro e w' ⟨rfl, rfl⟩)
  exact ⟨rfl, rfl, nq, rfl⟩

set_option maxRecDepth 100000 in
set_option maxHeartbeats 1000000 in
theorem takeN_ok (r p c : Nat) (s : ByteArray) (w : World) (hm : s.size ≤ maxLen) (hp : p + c ≤ s.size) (h : w.heap[r]? = some (rdr s p)) :
    Calls Try.prog 119 #[.pointer (some ⟨r, 0, none⟩), .int .i64 (c : Int)] w fun e w' => e = .returned (.string (s.extract p (p + c))) ∧ ∃ n, w' = (w.setCell ⟨r, 1, none⟩ (.int .i64 ((p + c : Nat) : Int))).drewN n := by
  obtain ⟨c0, c1, f0, f1⟩ := rdr_cells h
  unfold maxLen at hm
  clear h
  have hd0 : decide ((c : Int) < 0) = false := by simp
  have hd : decide ((s.size : Int) - (p : Int) < (c : Int)) = false := by simp; omega
  have q1 : (0 : Int) ≤ (p : Int) + (c : Int) := by omega
  have q2 : (p : Int) + (c : Int) ≤ (s.size : Int) := by omega
  have q3 : (p : Int) ≤ (p : Int) + (c : Int) := by omega
  have q4 : ((p : Int) + (c : Int)).toNat = p + c := by omega
  go_enter Try.func119, Try.ntmps119
  go_wp2_with fail
  go_quiet (fail)
  generalize nq = m at *
  go_wp2_with fail
  go_quiet (fail)
  go_wp2
  go_ret
  exact ⟨rfl, m + nq, drew_set _ _ _ _ _⟩

set_option maxRecDepth 100000 in
set_option maxHeartbeats 1000000 in
theorem bit_any (r p : Nat) (s : ByteArray) (w : World) (hm : s.size ≤ maxLen) (hp : p ≤ s.size) (h : w.heap[r]? = some (rdr s p)) :
    Calls Try.prog 113 #[.pointer (some ⟨r, 0, none⟩)] w fun e w' => Kp r w w' ∧ ((∃ b : Int, e = .returned (.int .i64 b) ∧ (b = 0 ∨ b = 1) ∧ Starts (bytesOf s) p [b.toNat] ∧ w'.heap[r]? = some (rdr s (p + 1)) ∧ p + 1 ≤ s.size) ∨
      (∃ q, e = .panicked (badAt q) ∧ ∀ b : Int, (b = 0 ∨ b = 1) → ¬ Starts (bytesOf s) p [b.toNat])) := by
  have HR : Hid (w.heap[r]? = some (rdr s p)) := h
  clear h
  by_cases hin : p < s.size
  · have HB := byte_at s p hin
    have HC : Hid (∀ w, w.heap[r]? = some (rdr s p) → Calls Try.prog 83 #[.pointer (some ⟨r, 0, none⟩)] w fun e w' => e = .returned (.int .u8 (s[p].toNat : Int)) ∧ ∃ n, w' = (w.setCell ⟨r, 1, none⟩ (.int .i64 ((p + 1 : Nat) : Int))).drewN n) :=
      fun w hw => byte_ok r p s w hm hin hw
    have hc : s[p].toNat < 256 := s[p].toNat_lt
    have HBH : Hid ((bytesOf s)[p]? = some s[p].toNat) := HB
    clear HB
    generalize s[p].toNat = c at *
    by_cases h1 : c ≤ 1
    · have hg : decide ((1 : Int) < (c : Int)) = false := by simp; omega
      go_enter Try.func113, Try.ntmps113
      go_wp2_with (go_at_call 83; refine (HC.out _ HR.out).mono ?_; rintro e w' ⟨rfl, n, rfl⟩)
      go_ret
      refine ⟨(Kp.refl _ _).set _ _ n, .inl ⟨(c : Int), by first | rfl | (congr 2; omega), by omega, ?_, rdr_set HR.out n, by omega⟩⟩
      rw [starts_one, HBH.out]
      simp
    · have hg : decide ((1 : Int) < (c : Int)) = true := by simp; omega
      have HNO : Hid (∀ b : Int, (b = 0 ∨ b = 1) → ¬ Starts (bytesOf s) p [b.toNat]) := by
        intro b hb
        rw [starts_one, HBH.out]
        simp
        omega
      go_enter Try.func113, Try.ntmps113
      go_wp2_with first | (go_at_call 83; refine (HC.out _ HR.out).mono ?_; rintro e w' ⟨rfl, n, rfl⟩) | (go_at_call 84; refine (giveUp_any r (p + 1) s _ (by exact rdr_set HR.out _)).mono ?_; rintro e w' ⟨rfl, rfl⟩)
      exact ⟨rfl, (Kp.refl _ _).set _ _ n, .inr ⟨_, rfl, HNO.out⟩⟩
  · have HNO : Hid (∀ b : Int, (b = 0 ∨ b = 1) → ¬ Starts (bytesOf s) p [b.toNat]) := by
      intro b hb hs
      have := starts_len hs (by rw [bytesOf_length]; exact hp)
      rw [bytesOf_length] at this
      simp at this
      omega
    go_enter Try.func113, Try.ntmps113
    go_wp2_with (go_at_call 83; refine (byte_bad r p s _ hm hin hp HR.out).mono ?_; rintro e w' ⟨rfl, n, rfl⟩)
    exact ⟨rfl, (Kp.refl _ _).drewN n, .inr ⟨_, rfl, HNO.out⟩⟩
end Go.Proofs.Ytjidbonhhpkljaa.Ec

/- The contracts of the code's Reader: a varint, and a number. -/
set_option linter.unusedVariables false
namespace Go.Proofs.Ytjidbonhhpkljaa.Ec
open Go.RowKit Go.Proofs.Ytjidbonhhpkljaa.Pk Go.Proofs.Ytjidbonhhpkljaa.Pm
theorem pow7 (j : Nat) : (128 : Nat) ^ j = 2 ^ (7 * j) := by rw [Nat.pow_mul]

/-- 'n | uint64(c) << shift'. -/
theorem or_word (acc c j : Nat) (hj : j ≤ 9) (ha : acc < 128 ^ j) (hc : c < 128) : ∃ X : Nat, bits .or .u64 (acc : Int) (IntKind.u64.wrap ((c : Int) * 2 ^ (7 * j))) = (X : Int) ∧ X < 18446744073709551616 ∧ ((j ≤ 8 ∨ c ≤ 1) → X = acc + 128 ^ j * c) := by
  have h9 : (128 : Nat) ^ 9 = 9223372036854775808 := by decide
  have hp : 128 ^ j ≤ 128 ^ 9 := Nat.pow_le_pow_right (by omega) hj
  have hcast : (c : Int) * 2 ^ (7 * j) = ((2 ^ (7 * j) * c : Nat) : Int) := by push_cast; rw [Int.mul_comm]
  have hw : IntKind.u64.wrap ((c : Int) * 2 ^ (7 * j)) = ((2 ^ (7 * j) * c % 18446744073709551616 : Nat) : Int) := by rw [hcast, wrap_u64]; omega
  have hor := (bits_nat .u64 64 (by decide) wraps_u64 acc (2 ^ (7 * j) * c % 18446744073709551616) (by omega) (by omega)).2
  rw [hw]
  refine ⟨_, hor, ?_, ?_⟩
  · exact Nat.or_lt_two_pow (n := 64) (by omega) (by omega)
  · intro h
    have hlt : 2 ^ (7 * j) * c < 18446744073709551616 := by
      rw [← pow7]
      rcases h with h | h
      · have h8 : 128 ^ j ≤ 128 ^ 8 := Nat.pow_le_pow_right (by omega) h
        have h8' : (128 : Nat) ^ 8 = 72057594037927936 := by decide
        have := Nat.mul_le_mul h8 (show c ≤ 127 by omega)
        omega
      · have := Nat.mul_le_mul hp h
        omega
    rw [Nat.mod_eq_of_lt hlt, Nat.or_comm, ← Nat.two_pow_add_eq_or_of_lt (by rw [← pow7]; exact ha) c, Nat.add_comm, pow7]

set_option maxRecDepth 100000 in
set_option maxHeartbeats 4000000 in
theorem varint_rd (r p : Nat) (s : ByteArray) (w : World) (hm : s.size ≤ maxLen) (hp : p ≤ s.size) (h : w.heap[r]? = some (rdr s p)) :
    Calls Try.prog 141 #[.pointer (some ⟨r, 0, none⟩)] w fun e w' => Kp r w w' ∧ ((∃ v : Nat, e = .returned (.int .u64 (v : Int)) ∧ v < 18446744073709551616 ∧ Starts (bytesOf s) p (vint v) ∧ w'.heap[r]? = some (rdr s (p + (vint v).length))) ∨
      (∃ q, e = .panicked (badAt q) ∧ ∀ v, v < 18446744073709551616 → ¬ Starts (bytesOf s) p (vint v))) := by
  have HR : Hid (w.heap[r]? = some (rdr s p)) := h
  clear h
  go_enter Try.func141, Try.ntmps141
  go_wp2_with fail
  go_loopw [3, 4] (fun n sh wr => ∃ (j acc X : Nat), j ≤ 10 ∧ sh = .int .i64 ((7 * j : Nat) : Int) ∧ n = .int .u64 (X : Int) ∧ (j ≤ 9 → X = acc) ∧ VSt (bytesOf s) p j acc ∧ p + j ≤ s.size ∧ wr.heap[r]? = some (rdr s (p + j)) ∧ Kp r w wr) (fun _ sh _ => 71 - (intOf sh).toNat)
  case atStart => exact ⟨0, 0, 0, by omega, rfl, rfl, fun _ => rfl, VSt.zero _ _, by omega, HR.out, Kp.refl _ _⟩
  case round =>
    clear HR
    obtain ⟨j, acc, X, hj, rfl, rfl, hX, hV, hpj, hR, hK⟩ := hrel
    have HV : Hid (VSt (bytesOf s) p j acc) := hV
    have HRR : Hid (wr.heap[r]? = some (rdr s (p + j))) := hR
    have HK : Hid (Kp r w wr) := hK
    clear hV hR hK
    by_cases hj9 : j ≤ 9
    · obtain rfl := hX hj9
      clear hX
      by_cases hin : p + j < s.size
      · have HC : Hid (∀ w, w.heap[r]? = some (rdr s (p + j)) → Calls Try.prog 83 #[.pointer (some ⟨r, 0, none⟩)] w fun e w' => e = .returned (.int .u8 (s[p + j].toNat : Int)) ∧ ∃ n, w' = (w.setCell ⟨r, 1, none⟩ (.int .i64 ((p + j + 1 : Nat) : Int))).drewN n) :=
          fun w hw => byte_ok r (p + j) s w hm hin hw
        have hc : s[p + j].toNat < 256 := s[p + j].toNat_lt
        have HBH : Hid ((bytesOf s)[p + j]? = some s[p + j].toNat) := byte_at s (p + j) hin
        generalize s[p + j].toNat = c at *
        have hand : bits .and .u8 (c : Int) 127 = (c : Int) % 128 := by rw [and_u8 c hc]; omega
        obtain ⟨Y, hY, hY2, hY3⟩ := or_word X (c % 128) j hj9 HV.out.lt (by omega)
        rw [show ((c % 128 : Nat) : Int) = (c : Int) % 128 from by omega] at hY
        have HY3 : Hid ((j ≤ 8 ∨ c % 128 ≤ 1) → Y = X + 128 ^ j * (c % 128)) := hY3
        clear hY3
        by_cases hhi : 128 ≤ c
        · go_wp2_with (go_at_call 83; refine (HC.out _ HRR.out).mono ?_; rintro e w' ⟨rfl, n, rfl⟩)
          refine ⟨⟨j + 1, X + 128 ^ j * (c - 128), Y, by omega, by go_num, by first | rfl | rw [hY], ?_, HV.out.more (by omega) HBH.out hhi hc, by omega, rdr_set HRR.out n, HK.out.set _ _ n⟩, by simp [intOf]; omega⟩
          intro h9
          rw [HY3.out (.inl (by omega)), show c % 128 = c - 128 by omega]
        · have hmod : (c : Int) % 128 = (c : Int) := by omega
          rw [hmod] at hY
          have hfin := fun v hv => HV.out.fin (v := v) (by omega) HBH.out (by omega) hv
          have HFIN : Hid (∀ v, v < 18446744073709551616 → (Starts (bytesOf s) p (vint v) ↔ v = X + 128 ^ j * c ∧ (c ≠ 0 ∨ j = 0))) := hfin
          clear hfin
          by_cases hgood : (c ≠ 0 ∨ j = 0) ∧ (c ≤ 1 ∨ j ≤ 8)
          · have HT : Hid (X + 128 ^ j * c < 18446744073709551616) := HV.out.top (by omega) (by omega)
            have HL : Hid _ := HV.out.fin_len (c := c) (by omega) (by omega) hgood.1
            have HYE : Hid (Y = X + 128 ^ j * c) := by rw [show Hid (Y = X + 128 ^ j * c) ↔ Y = X + 128 ^ j * c from ⟨fun h => h.out, fun h => h⟩, HY3.out (by omega), Nat.mod_eq_of_lt (by omega)]
            go_wp2_with (go_at_call 83; refine (HC.out _ HRR.out).mono ?_; rintro e w' ⟨rfl, n, rfl⟩)
            all_goals
              go_ret
              exact ⟨HK.out.set _ _ n, .inl ⟨X + 128 ^ j * c, by rw [← HYE.out]; rfl, HT.out, (HFIN.out _ HT.out).2 ⟨rfl, hgood.1⟩, by rw [HL.out, ← Nat.add_assoc]; exact rdr_set HRR.out n⟩⟩
          · have HNO : Hid (∀ v, v < 18446744073709551616 → ¬ Starts (bytesOf s) p (vint v)) := by
              intro v hv hs
              obtain ⟨h1, h2⟩ := (HFIN.out v hv).1 hs
              by_cases h3 : c ≤ 1 ∨ j ≤ 8
              · exact hgood ⟨h2, h3⟩
              · obtain rfl : j = 9 := by omega
                rw [h1] at hv
                exact VSt.over (B := bytesOf s) (p := p) (by omega) hv
            go_wp2_with first | (go_at_call 83; refine (HC.out _ HRR.out).mono ?_; rintro e w' ⟨rfl, n, rfl⟩) | (go_at_call 84; refine (giveUp_any r (p + j + 1) s _ (by exact rdr_set HRR.out _)).mono ?_; rintro e w' ⟨rfl, rfl⟩)
            all_goals exact ⟨rfl, HK.out.set _ _ n, .inr ⟨_, rfl, HNO.out⟩⟩
      · have HNO : Hid (∀ v, v < 18446744073709551616 → ¬ Starts (bytesOf s) p (vint v)) := fun v hv => HV.out.none (by omega) (by rw [bytesOf_length]; exact hin) v hv
        go_wp2_with (go_at_call 83; refine (byte_bad r (p + j) s _ hm hin hpj HRR.out).mono ?_; rintro e w' ⟨rfl, n, rfl⟩)
        exact ⟨rfl, HK.out.drewN n, .inr ⟨_, rfl, HNO.out⟩⟩
    · obtain rfl : j = 10 := by omega
      have HNO : Hid (∀ v, v < 18446744073709551616 → ¬ Starts (bytesOf s) p (vint v)) := fun v hv => HV.out.ten v hv
      go_wp2_with (go_at_call 84; refine (giveUp_any r (p + 10) s _ HRR.out).mono ?_; rintro e w' ⟨rfl, rfl⟩)
      exact ⟨rfl, HK.out, .inr ⟨_, rfl, HNO.out⟩⟩

set_option maxRecDepth 100000 in
set_option maxHeartbeats 1000000 in
theorem number_rd (r p : Nat) (s : ByteArray) (w : World) (hm : s.size ≤ maxLen) (hp : p ≤ s.size) (h : w.heap[r]? = some (rdr s p)) :
    Calls Try.prog 112 #[.pointer (some ⟨r, 0, none⟩)] w fun e w' => Kp r w w' ∧ ((∃ v : Nat, e = .returned (.int .i64 (v : Int)) ∧ v < 2147483648 ∧ Starts (bytesOf s) p (vint v) ∧ p + (vint v).length ≤ s.size ∧ w'.heap[r]? = some (rdr s (p + (vint v).length))) ∨
      (∃ q, e = .panicked (badAt q) ∧ ∀ v, v < 2147483648 → ¬ Starts (bytesOf s) p (vint v))) := by
  have HR : Hid (w.heap[r]? = some (rdr s p)) := h
  clear h
  go_enter Try.func112, Try.ntmps112
  go_wp2_with fail
  refine (varint_rd r p s _ hm hp HR.out).mono ?_
  rintro e w1 ⟨hK, ⟨v, rfl, hv, hs, hR⟩ | ⟨q, rfl, hno⟩⟩
  · have HK : Hid (Kp r w w1) := hK
    have HS : Hid (Starts (bytesOf s) p (vint v)) := hs
    have HR1 : Hid (w1.heap[r]? = some (rdr s (p + (vint v).length))) := hR
    have HL : Hid (p + (vint v).length ≤ s.size) := by have := starts_len hs (by rw [bytesOf_length]; exact hp); rwa [bytesOf_length] at this
    have HV : Hid (v < 18446744073709551616) := hv
    clear hK hs hR HR hv
    by_cases hlt : v < 2147483648
    · have HLT : Hid (v < 2147483648) := hlt
      have hd : decide ((2147483648 : Int) ≤ (v : Int)) = false := by rw [decide_eq_false_iff_not]; omega
      have hw : wrap64 (v : Int) = (v : Int) := by unfold wrap64; omega
      clear hlt
      go_wp2
      go_ret
      exact ⟨HK.out, .inl ⟨v, by first | rfl | go_num, HLT.out, HS.out, HL.out, HR1.out⟩⟩
    · have HNO : Hid (∀ u, u < 2147483648 → ¬ Starts (bytesOf s) p (vint u)) := by
        intro u hu hs
        have := vint_one (by omega) HV.out hs HS.out
        omega
      have hd : decide ((2147483648 : Int) ≤ (v : Int)) = true := by rw [decide_eq_true_iff]; omega
      clear hlt
      go_wp2_with (go_at_call 84; refine (giveUp_any r (p + (vint v).length) s _ HR1.out).mono ?_; rintro e w' ⟨rfl, rfl⟩)
      exact ⟨rfl, HK.out, .inr ⟨_, rfl, HNO.out⟩⟩
  · have HK : Hid (Kp r w w1) := hK
    have HNO : Hid (∀ u, u < 2147483648 → ¬ Starts (bytesOf s) p (vint u)) := fun v hv => hno v (by omega)
    clear hK hno HR
    go_wp2
    exact ⟨rfl, HK.out, .inr ⟨q, rfl, HNO.out⟩⟩
end Go.Proofs.Ytjidbonhhpkljaa.Ec

/- The contracts of the code's single values, read: Unzigzag, a text, ReadPlain. -/
set_option linter.unusedVariables false
namespace Go.Proofs.Ytjidbonhhpkljaa.Ec
open Go.RowKit Go.Proofs.Ytjidbonhhpkljaa.Pk Go.Proofs.Ytjidbonhhpkljaa.Pm
theorem ixor_zero (x : Nat) (hx : x < 9223372036854775808) : bits .xor .i64 (x : Int) 0 = (x : Int) := by
  show IntKind.i64.wrap (((BitVec.ofInt 64 (x : Int)) ^^^ (BitVec.ofInt 64 0)).toNat : Int) = _
  rw [BitVec.ofInt_natCast, show BitVec.ofInt 64 0 = 0#64 from rfl, BitVec.xor_zero, BitVec.toNat_ofNat, IntKind.wrap_i64]
  omega
theorem ixor_ones (x : Nat) (hx : x < 9223372036854775808) : bits .xor .i64 (x : Int) (-1) = -(x : Int) - 1 := by
  show IntKind.i64.wrap (((BitVec.ofInt 64 (x : Int)) ^^^ (BitVec.ofInt 64 (-1))).toNat : Int) = _
  rw [BitVec.ofInt_natCast, show BitVec.ofInt 64 (-1) = BitVec.allOnes 64 from by decide +kernel, BitVec.xor_allOnes, BitVec.toNat_not, BitVec.toNat_ofNat, IntKind.wrap_i64]
  omega
theorem and_one (n : Nat) (hn : n < 18446744073709551616) : bits .and .u64 (n : Int) 1 = ((n % 2 : Nat) : Int) := by
  have := bits_mask .u64 64 (by decide) wraps_u64 1 (by decide) (n : Int) (by omega) (by omega)
  rw [show (1 : Int) = 2 ^ 1 - 1 from by decide, this]
  omega

theorem unz_bits (n : Nat) (hn : n < 18446744073709551616) : bits .xor .i64 ((n : Int) / 2) (-((n : Int) % 2)) = uz n := by
  rw [show (n : Int) / 2 = ((n / 2 : Nat) : Int) from by omega]
  unfold uz
  by_cases h : n % 2 = 1
  · rw [show -((n : Int) % 2) = -1 from by omega, ixor_ones _ (by omega), if_pos h]
  · rw [show -((n : Int) % 2) = 0 from by omega, ixor_zero _ (by omega), if_neg h]

set_option maxRecDepth 100000 in
set_option maxHeartbeats 1000000 in
theorem unzigzag_any (n : Nat) (w : World) (hn : n < 18446744073709551616) : Calls Try.prog 151 #[.int .u64 (n : Int)] w fun e w' => e = .returned (.int .i64 (uz n)) ∧ w' = w := by
  have h1 := and_one n hn
  have h2 : wrap64 ((n : Int) / 2) = ((n / 2 : Nat) : Int) := by unfold wrap64; omega
  have HN : Hid (n < 18446744073709551616) := hn
  clear hn
  go_enter Try.func151, Try.ntmps151
  go_wp2
  go_ret
  exact ⟨by rw [← unz_bits n HN.out]; rfl, rfl⟩

set_option maxRecDepth 100000 in
set_option maxHeartbeats 2000000 in
/-- A text, copied. -/
theorem sclone_any (s : ByteArray) (w : World) (hs : s.size ≤ 32) : Calls Try.prog 135 #[.string s] w fun e w' => e = .returned (.string s) ∧ Below w.heap.size w w' := by
  by_cases h0 : s.size = 0
  · obtain rfl : s = ⟨#[]⟩ := ByteArray.ext (Array.eq_empty_of_size_eq_zero h0)
    go_enter Try.func135, Try.ntmps135
    go_wp2
    go_ret
    exact ⟨rfl, Below.refl _ _⟩
  · obtain ⟨i0, hi, hz0, hz1, hz2⟩ := info_parts Try.info5
    have hone : (Try.prog.info? 5).map (·.size) = some 1 := by rw [hi]; simp [hz1]
    have hcell : Try.prog.cellsOf 5 = 1 := by simp [Program.cellsOf, hi, hz1]
    obtain ⟨M, hM⟩ : ∃ M, M = madeCells (Value.int .u8 0).cells (((s.size : Nat) : Int).toNat * i0.size) := ⟨_, rfl⟩
    have hMs : M.size = s.size := by rw [hM, size_madeCells, hz1]; simp
    have hmk : ∀ W : World, (Instr.makeSlice 44 (.int .i64 (s.size : Int)) (.int .i64 (s.size : Int))).run Try.prog W = .ok (.slice (some ⟨W.heap.size, 0, none⟩) s.size s.size) (W.alloc (.cells M 5)) := fun W => by
      have h := run_make (P := Try.prog) W 44 5 i0 (.int .u8 0) Try.underlying44 hi hz0 .i64 .i64 (s.size : Int) (s.size : Int) (by omega) (by omega) (by rw [hz2]; omega) (by omega)
      rw [← hM] at h
      simpa using h
    clear hM
    have hcp := Lib.run_copy_row_string (P := Try.prog) (w.alloc (.cells M 5)) 44 9 3 5 w.heap.size 0 s.size s.size s M 5 Try.underlying44 hone (heap_alloc_new w _) (Nat.le_refl _) (by omega)
    obtain ⟨Y, hY⟩ : ∃ Y, Y = (M.toList.take 0 ++ Lib.byteCells s.data.toList ++ M.toList.drop (0 + s.size)).toArray := ⟨_, rfl⟩
    rw [← hY] at hcp
    have hYl : Y.toList = Lib.byteCells s.data.toList := by
      rw [hY, List.toList_toArray, List.take_zero, List.nil_append, List.drop_of_length_le (by rw [Array.length_toList]; omega), List.append_nil]
    have hYs : Y.size = s.size := by rw [← Array.length_toList, hYl, Lib.byteCells_length, ← Lib.size_eq]
    have hgY : ((w.alloc (.cells M 5)).setRow w.heap.size Y).heap[w.heap.size]? = some (.cells Y 5 (0, 0)) := setRow_heap _ _ M _ 5 (0, 0) (heap_alloc_new w _)
    have hne : s.data.toList ≠ [] := fun e => h0 (by rw [Lib.size_eq, e]; rfl)
    have hUS := Lib.run_unsafeString_row (P := Try.prog) ((w.alloc (.cells M 5)).setRow w.heap.size Y) 205 3 9 5 Try.underlying205 hcell w.heap.size Y.size (by unfold World.shape?; rw [hgY]) s.data.toList hne (by rw [← Lib.size_eq]; omega) (by rw [← Lib.size_eq]; omega)
      (fun j x hx => Lib.cells_of_row hgY Y.size j _ (by rw [List.take_of_length_le (by rw [Array.length_toList]; exact Nat.le_refl _), hYl]; simp [Lib.byteCells, hx]))
    rw [← Lib.size_eq] at hUS
    clear hY
    go_enter Try.func135, Try.ntmps135
    go_wp2
    go_ret
    have hb1 : Below w.heap.size w (w.alloc (.cells M 5)) := (Below.refl _ w).alloc (Nat.le_refl _) _
    have hb2 : Below w.heap.size (w.alloc (.cells M 5)) ((w.alloc (.cells M 5)).setRow w.heap.size Y) := ⟨rfl, rfl, rfl, by simp, fun k hk => setRow_other _ _ _ _ (by omega)⟩
    exact ⟨rfl, Lib.below_freeze (hb1.trans hb2) (p := ⟨w.heap.size, 0, none⟩) (Nat.le_refl _) _⟩

set_option maxRecDepth 100000 in
set_option maxHeartbeats 1000000 in
theorem clone_any (s : ByteArray) (w : World) (hs : s.size ≤ 32) : Calls Try.prog 101 #[.string s] w fun e w' => e = .returned (.string s) ∧ Below w.heap.size w w' := by
  go_enter Try.func101, Try.ntmps101
  go_wp2_with fail
  refine (sclone_any s _ hs).mono ?_
  rintro e w' ⟨rfl, hb⟩
  go_wp2
  go_ret
  exact ⟨rfl, hb⟩

set_option maxRecDepth 100000 in
set_option maxHeartbeats 2000000 in
theorem readText_any (r p : Nat) (s : ByteArray) (w : World) (hm : s.size ≤ maxLen) (hp : p ≤ s.size) (h : w.heap[r]? = some (rdr s p)) :
    Calls Try.prog 152 #[.pointer (some ⟨r, 0, none⟩)] w fun e w' => Kp r w w' ∧ ((∃ t : ByteArray, e = .returned (.string t) ∧ t.size ≤ 32 ∧ Starts (bytesOf s) p (vint t.size ++ bytesOf t) ∧ w'.heap[r]? = some (rdr s (p + (vint t.size ++ bytesOf t).length))) ∨
      (∃ q, e = .panicked (badAt q) ∧ ∀ t : ByteArray, t.size ≤ 32 → ¬ Starts (bytesOf s) p (vint t.size ++ bytesOf t))) := by
  have hrl : r < w.heap.size := lt_of_block h
  have HR : Hid (w.heap[r]? = some (rdr s p)) := h
  clear h
  go_enter Try.func152, Try.ntmps152
  go_wp2_with fail
  refine (number_rd r p s _ hm hp HR.out).mono ?_
  rintro e w1 ⟨hK1, ⟨n, rfl, hn, hs1, hl1, hR1⟩ | ⟨q, rfl, hno⟩⟩
  · have HK1 : Hid (Kp r w w1) := hK1
    have HS1 : Hid (Starts (bytesOf s) p (vint n)) := hs1
    have HR1 : Hid (w1.heap[r]? = some (rdr s (p + (vint n).length))) := hR1
    have HN : Hid (n < 2147483648) := hn
    have hsz := hK1.size
    clear hK1 hs1 hR1 hn HR
    by_cases hbig : 32 < n
    · have HNO : Hid (∀ t : ByteArray, t.size ≤ 32 → ¬ Starts (bytesOf s) p (vint t.size ++ bytesOf t)) := by
        intro t ht hst
        rw [starts_append] at hst
        have := vint_one (by omega) (by have := HN.out; omega) hst.1 HS1.out
        omega
      go_wp2_with (go_at_call 84; refine (giveUp_any r _ s _ HR1.out).mono ?_; rintro e w' ⟨rfl, rfl⟩)
      exact ⟨rfl, HK1.out, .inr ⟨_, rfl, HNO.out⟩⟩
    · by_cases hin : p + (vint n).length + n ≤ s.size
      · have hxs : (s.extract (p + (vint n).length) (p + (vint n).length + n)).size = n := by rw [ByteArray.size_extract]; omega
        have HX : Hid (bytesOf (s.extract (p + (vint n).length) (p + (vint n).length + n)) = ((bytesOf s).drop (p + (vint n).length)).take n) := by
          show _ = _
          rw [bytesOf_extract, show p + (vint n).length + n - (p + (vint n).length) = n by omega]
        have HT : Hid (∀ w, w.heap[r]? = some (rdr s (p + (vint n).length)) → Calls Try.prog 119 #[.pointer (some ⟨r, 0, none⟩), .int .i64 (n : Int)] w fun e w' => e = .returned (.string (s.extract (p + (vint n).length) (p + (vint n).length + n))) ∧ ∃ m, w' = (w.setCell ⟨r, 1, none⟩ (.int .i64 ((p + (vint n).length + n : Nat) : Int))).drewN m) :=
          fun w hw => takeN_ok r _ n s w hm hin hw
        generalize s.extract (p + (vint n).length) (p + (vint n).length + n) = x at *
        go_wp2_with (go_at_call 119; refine (HT.out _ HR1.out).mono ?_; rintro e w2 ⟨rfl, hw⟩; have HW : Hid (∃ m, w2 = (w1.setCell ⟨r, 1, none⟩ (.int .i64 ((p + (vint n).length + n : Nat) : Int))).drewN m) := hw; clear hw)
        have HR2 : Hid (w2.heap[r]? = some (rdr s (p + (vint n).length + n))) := by
          obtain ⟨m, rfl⟩ := HW.out
          exact rdr_set HR1.out m
        have HK2 : Hid (Kp r w w2) := by
          obtain ⟨m, rfl⟩ := HW.out
          exact HK1.out.set 1 _ m
        clear HW HT HR1 HK1 hsz
        refine (clone_any x _ (by omega)).mono ?_
        rintro e w3 ⟨rfl, hb⟩
        have HK3 : Hid (Kp r w w3) := HK2.out.trans (Kp.of_below hb)
        have HR3 : Hid (w3.heap[r]? = some (rdr s (p + (vint n).length + n))) := by
          show _ = _
          rw [hb.block r (lt_of_block HR2.out)]; exact HR2.out
        clear hb HK2 HR2
        go_wp2
        go_ret
        refine ⟨HK3.out, .inl ⟨x, rfl, by omega, ?_, ?_⟩⟩
        · rw [starts_append, hxs]
          refine ⟨HS1.out, ?_⟩
          rw [HX.out]
          exact List.take_prefix _ _
        · rw [List.length_append, bytesOf_length, hxs, ← Nat.add_assoc]
          exact HR3.out
      · have HNO : Hid (∀ t : ByteArray, t.size ≤ 32 → ¬ Starts (bytesOf s) p (vint t.size ++ bytesOf t)) := by
          intro t ht hst
          rw [starts_append] at hst
          have := vint_one (by omega) (by have := HN.out; omega) hst.1 HS1.out
          rw [this] at hst
          have h2 := starts_len hst.2 (by rw [bytesOf_length]; exact hl1)
          rw [bytesOf_length, bytesOf_length] at h2
          omega
        go_wp2_with (go_at_call 119; refine (takeN_bad r _ n s _ hm (by omega) hin hl1 HR1.out).mono ?_; rintro e w' ⟨rfl, m, rfl⟩)
        exact ⟨rfl, HK1.out.drewN m, .inr ⟨_, rfl, HNO.out⟩⟩
  · have HNO : Hid (∀ t : ByteArray, t.size ≤ 32 → ¬ Starts (bytesOf s) p (vint t.size ++ bytesOf t)) := by
      intro t ht hst
      rw [starts_append] at hst
      exact hno t.size (by omega) hst.1
    have HK1 : Hid (Kp r w w1) := hK1
    clear hno hK1
    go_wp2
    exact ⟨rfl, HK1.out, .inr ⟨q, rfl, HNO.out⟩⟩

theorem box_cells {w : World} {g : Nat} {a b c : Value} {t : TypeId} (h : w.heap[g]? = some (.cells #[a, b, c] t (0, 0))) :
    w.cell? ⟨g, 0, none⟩ = some a ∧ w.cell? ⟨g, 1, none⟩ = some b ∧ w.cell? ⟨g, 2, none⟩ = some c ∧ w.frozen? ⟨g, 0, none⟩ = false ∧ w.frozen? ⟨g, 1, none⟩ = false ∧ w.frozen? ⟨g, 2, none⟩ = false := by
  refine ⟨?_, ?_, ?_, ?_, ?_, ?_⟩ <;> first | simp [World.cell?, h] | simp [World.frozen?, h]

/-- A box of three cells is written anew. -/
theorem box_store {w1 : World} {g : Nat} {a b c : Value} (a' b' c' : Value) {t : TypeId} (h : w1.heap[g]? = some (.cells #[a, b, c] t (0, 0))) (r : Nat) (hr : r ≠ g) {w : World} (hK : Kp r w w1) (hg : w.heap.size ≤ g) :
    let W := ((w1.setCell ⟨g, 0, none⟩ a').setCell ⟨g, 1, none⟩ b').setCell ⟨g, 2, none⟩ c'
    W.cell? ⟨g, 0, none⟩ = some a' ∧ W.cell? ⟨g, 1, none⟩ = some b' ∧ W.cell? ⟨g, 2, none⟩ = some c' ∧ W.heap[r]? = w1.heap[r]? ∧ Kp r w W := by
  have h1 : (w1.setCell ⟨g, 0, none⟩ a').heap[g]? = some (.cells #[a', b, c] t (0, 0)) := by rw [heap_setCell_same w1 g 0 _ _ _ h]; rfl
  have h2 : ((w1.setCell ⟨g, 0, none⟩ a').setCell ⟨g, 1, none⟩ b').heap[g]? = some (.cells #[a', b', c] t (0, 0)) := by rw [heap_setCell_same _ g 1 _ _ _ h1]; rfl
  have h3 : (((w1.setCell ⟨g, 0, none⟩ a').setCell ⟨g, 1, none⟩ b').setCell ⟨g, 2, none⟩ c').heap[g]? = some (.cells #[a', b', c'] t (0, 0)) := by rw [heap_setCell_same _ g 2 _ _ _ h2]; rfl
  have h4 : ∀ k, k ≠ g → (((w1.setCell ⟨g, 0, none⟩ a').setCell ⟨g, 1, none⟩ b').setCell ⟨g, 2, none⟩ c').heap[k]? = w1.heap[k]? := by
    intro k hk
    rw [heap_setCell_other _ _ _ _ (by simpa using hk), heap_setCell_other _ _ _ _ (by simpa using hk), heap_setCell_other _ _ _ _ (by simpa using hk)]
  obtain ⟨c0, c1, c2, _⟩ := box_cells h3
  refine ⟨c0, c1, c2, h4 r hr, hK.os, hK.tape, hK.output, ?_, ?_⟩
  · simpa using hK.size
  · intro i hi hne
    rw [h4 i (by omega)]
    exact World.grownBy.block hK i hi hne

set_option maxRecDepth 100000 in
set_option maxHeartbeats 2000000 in
theorem readPlain1_any (k : Int) (hk : k = 1 ∨ k = 2 ∨ k = 3) (r p : Nat) (s : ByteArray) (w : World) (hm : s.size ≤ maxLen) (hp : p ≤ s.size) (h : w.heap[r]? = some (rdr s p)) :
    Calls Try.prog 142 #[.pointer (some ⟨r, 0, none⟩), .int .i64 k] w fun e w' => Kp r w w' ∧ ((∃ v : Val, e = .returned (.agg #[.bool v.null, .int .i64 v.n, .string v.s]) ∧ VK k v ∧ Starts (bytesOf s) p (plainB k v) ∧ p + (plainB k v).length ≤ s.size ∧ w'.heap[r]? = some (rdr s (p + (plainB k v).length))) ∨
      (∃ q, e = .panicked (badAt q) ∧ ∀ v : Val, VK k v → ¬ Starts (bytesOf s) p (plainB k v))) := by
  have hrl : r < w.heap.size := lt_of_block h
  have HR : Hid (w.heap[r]? = some (rdr s p)) := h
  have HR0 : Hid ((w.alloc (.cells #[.bool false, .int .i64 0, .string ⟨#[]⟩] 39)).heap[r]? = some (rdr s p)) := by
    show _ = _
    rw [Below.heap_alloc _ _ r hrl]; exact h
  have HKA : Hid (Kp r w (w.alloc (.cells #[.bool false, .int .i64 0, .string ⟨#[]⟩] 39))) := (Kp.refl r w).alloc _
  have hlen : ∀ xs, Starts (bytesOf s) p xs → p + xs.length ≤ s.size := fun xs hs => by have := starts_len hs (by rw [bytesOf_length]; exact hp); rwa [bytesOf_length] at this
  have HLEN : Hid (∀ xs, Starts (bytesOf s) p xs → p + xs.length ≤ s.size) := hlen
  clear h hlen
  rcases hk with rfl | rfl | rfl
  · go_enter Try.func142, Try.ntmps142
    go_wp2_with fail
    refine (varint_rd r p s _ hm hp HR0.out).mono ?_
    rintro e w1 ⟨hK1, ⟨n, rfl, hn, hs1, hR1⟩ | ⟨q, rfl, hno⟩⟩
    · have HK1 : Hid (Kp r w w1) := HKA.out.trans hK1
      have hbx : w1.heap[w.heap.size]? = some (.cells #[.bool false, .int .i64 0, .string ⟨#[]⟩] 39 (0, 0)) := Kp.block hK1 (heap_alloc_new w _) (by omega)
      obtain ⟨c0, c1, c2, f0, f1, f2⟩ := box_cells hbx
      have HBX : Hid (w1.heap[w.heap.size]? = some (.cells #[.bool false, .int .i64 0, .string ⟨#[]⟩] 39 (0, 0))) := hbx
      clear hbx
      have HR1 : Hid (w1.heap[r]? = some (rdr s (p + (vint n).length))) := hR1
      have HS1 : Hid (Starts (bytesOf s) p (vint n)) := hs1
      have HN : Hid (n < 18446744073709551616) := hn
      have HUZ : Hid (∀ w, Calls Try.prog 151 #[.int .u64 (n : Int)] w fun e w' => e = .returned (.int .i64 (uz n)) ∧ w' = w) := fun w => unzigzag_any n w hn
      clear hn hs1 hR1 hK1 HR HR0 HKA
      go_wp2_with (go_at_call 151; refine (HUZ.out _).mono ?_; rintro e w' ⟨rfl, rfl⟩)
      clear c0 c1 c2 f0 f1 f2
      obtain ⟨g0, g1, g2, g3, g4⟩ := box_store (.bool false) (.int .i64 (uz n)) (.string ⟨#[]⟩) HBX.out r (by omega) HK1.out (Nat.le_refl _)
      simp [bodyPost, results, Try.results142, go_sem, g0, g1, g2]
      have hpb : plainB 1 ⟨false, uz n, ⟨#[]⟩⟩ = vint n := by show vint (zz (uz n)) = _; rw [zz_uz]
      have hrg := uz_range n HN.out
      refine ⟨g4, ⟨false, uz n, ⟨#[]⟩⟩, ⟨rfl, rfl, rfl⟩, ⟨rfl, hrg.1, hrg.2, fun _ => rfl, fun h => by omega, fun h => by omega⟩, ?_, ?_, ?_⟩
      · rw [hpb]; exact HS1.out
      · rw [hpb]; exact HLEN.out _ HS1.out
      · rw [hpb, g3]; exact HR1.out
    · have HNO : Hid (∀ v : Val, VK 1 v → ¬ Starts (bytesOf s) p (plainB 1 v)) := fun v hv => hno (zz v.n) (zz_lt _ hv.lo hv.hi)
      have HK1 : Hid (Kp r w w1) := HKA.out.trans hK1
      clear hno hK1
      go_wp2
      exact ⟨rfl, HK1.out, .inr ⟨q, rfl, HNO.out⟩⟩
  · go_enter Try.func142, Try.ntmps142
    go_wp2_with fail
    refine (bit_any r p s _ hm hp HR0.out).mono ?_
    rintro e w1 ⟨hK1, ⟨n, rfl, hb, hs1, hR1, hl1⟩ | ⟨q, rfl, hno⟩⟩
    · have HK1 : Hid (Kp r w w1) := HKA.out.trans hK1
      have hbx : w1.heap[w.heap.size]? = some (.cells #[.bool false, .int .i64 0, .string ⟨#[]⟩] 39 (0, 0)) := Kp.block hK1 (heap_alloc_new w _) (by omega)
      obtain ⟨c0, c1, c2, f0, f1, f2⟩ := box_cells hbx
      have HBX : Hid (w1.heap[w.heap.size]? = some (.cells #[.bool false, .int .i64 0, .string ⟨#[]⟩] 39 (0, 0))) := hbx
      clear hbx
      have HR1 : Hid (w1.heap[r]? = some (rdr s (p + 1))) := hR1
      have HS1 : Hid (Starts (bytesOf s) p [n.toNat]) := hs1
      have HB : Hid (n = 0 ∨ n = 1) := hb
      clear hb hs1 hR1 hK1 HR HR0 HKA
      go_wp2
      clear c0 c1 c2 f0 f1 f2
      obtain ⟨g0, g1, g2, g3, g4⟩ := box_store (.bool false) (.int .i64 n) (.string ⟨#[]⟩) HBX.out r (by omega) HK1.out (Nat.le_refl _)
      simp [bodyPost, results, Try.results142, go_sem, g0, g1, g2]
      have hpb : plainB 2 ⟨false, n, ⟨#[]⟩⟩ = [n.toNat] := by show [byteOf n] = _; rw [byteOf_bit HB.out]
      have hb := HB.out
      refine ⟨g4, ⟨false, n, ⟨#[]⟩⟩, ⟨rfl, rfl, rfl⟩, ⟨rfl, by show _ ≤ n; omega, by show n ≤ _; omega, fun h => by omega, fun _ => ⟨hb, rfl⟩, fun h => by omega⟩, ?_, ?_, ?_⟩
      · rw [hpb]; exact HS1.out
      · rw [hpb]; exact hl1
      · rw [hpb, g3]; exact HR1.out
    · have HNO : Hid (∀ v : Val, VK 2 v → ¬ Starts (bytesOf s) p (plainB 2 v)) := fun v hv hs => hno v.n (hv.s2 rfl).1 (by rw [← byteOf_bit (hv.s2 rfl).1]; exact hs)
      have HK1 : Hid (Kp r w w1) := HKA.out.trans hK1
      clear hno hK1
      go_wp2
      exact ⟨rfl, HK1.out, .inr ⟨q, rfl, HNO.out⟩⟩
  · go_enter Try.func142, Try.ntmps142
    go_wp2_with fail
    refine (readText_any r p s _ hm hp HR0.out).mono ?_
    rintro e w1 ⟨hK1, ⟨x, rfl, hx, hs1, hR1⟩ | ⟨q, rfl, hno⟩⟩
    · have HK1 : Hid (Kp r w w1) := HKA.out.trans hK1
      have hbx : w1.heap[w.heap.size]? = some (.cells #[.bool false, .int .i64 0, .string ⟨#[]⟩] 39 (0, 0)) := Kp.block hK1 (heap_alloc_new w _) (by omega)
      obtain ⟨c0, c1, c2, f0, f1, f2⟩ := box_cells hbx
      have HBX : Hid (w1.heap[w.heap.size]? = some (.cells #[.bool false, .int .i64 0, .string ⟨#[]⟩] 39 (0, 0))) := hbx
      clear hbx
      have HR1 : Hid (w1.heap[r]? = some (rdr s (p + (vint x.size ++ bytesOf x).length))) := hR1
      have HS1 : Hid (Starts (bytesOf s) p (vint x.size ++ bytesOf x)) := hs1
      clear hs1 hR1 hK1 HR HR0 HKA
      go_wp2
      clear c0 c1 c2 f0 f1 f2
      obtain ⟨g0, g1, g2, g3, g4⟩ := box_store (.bool false) (.int .i64 0) (.string x) HBX.out r (by omega) HK1.out (Nat.le_refl _)
      simp [bodyPost, results, Try.results142, go_sem, g0, g1, g2]
      have hpb : plainB 3 ⟨false, 0, x⟩ = vint x.size ++ bytesOf x := rfl
      refine ⟨g4, ⟨false, 0, x⟩, ⟨rfl, rfl, rfl⟩, ⟨rfl, by show _ ≤ (0 : Int); omega, by show (0 : Int) ≤ _; omega, fun h => by omega, fun h => by omega, fun _ => ⟨rfl, hx⟩⟩, ?_, ?_, ?_⟩
      · rw [hpb]; exact HS1.out
      · rw [hpb]; exact HLEN.out _ HS1.out
      · rw [hpb, g3]; exact HR1.out
    · have HNO : Hid (∀ v : Val, VK 3 v → ¬ Starts (bytesOf s) p (plainB 3 v)) := fun v hv hs => hno v.s (hv.s3 rfl).2 hs
      have HK1 : Hid (Kp r w w1) := HKA.out.trans hK1
      clear hno hK1
      go_wp2
      exact ⟨rfl, HK1.out, .inr ⟨q, rfl, HNO.out⟩⟩
end Go.Proofs.Ytjidbonhhpkljaa.Ec

/- The document's reader: single values. -/
set_option linter.unusedVariables false
namespace Go.Proofs.Ytjidbonhhpkljaa.Ec
open Go.RowKit Go.Proofs.Ytjidbonhhpkljaa.Pk Go.Proofs.Ytjidbonhhpkljaa.Pm
set_option maxRecDepth 100000 in
set_option maxHeartbeats 1000000 in
theorem unzig_any (n : Nat) (w : World) (hn : n < 18446744073709551616) : Calls Try.prog 140 #[.int .u64 (n : Int)] w fun e w' => w' = w ∧ e = .returned (.int .i64 (uz n)) := by
  have HN : Hid (n < 18446744073709551616) := hn
  have h2 : wrap64 ((n : Int) / 2) = (n : Int) / 2 := by unfold wrap64; omega
  have h5 : IntKind.u64.wrap ((n : Int) / 2) = (n : Int) / 2 := by rw [wrap_u64]; omega
  by_cases h : n % 2 = 1
  · have h1 : ((n : Int) % 2 == 1) = true := by simp; omega
    have h3 : wrap64 (-((n : Int) / 2)) = -((n : Int) / 2) := by unfold wrap64; omega
    have h4 : wrap64 (-((n : Int) / 2) - 1) = -((n : Int) / 2) - 1 := by unfold wrap64; omega
    have HU : Hid (uz n = -((n : Int) / 2) - 1) := by show _ = _; unfold uz; rw [if_pos h]; omega
    clear hn h
    go_enter Try.func140, Try.ntmps140
    go_wp2
    go_ret
    exact ⟨rfl, by rw [HU.out]; exact congrArg (fun z => Ending.returned (Value.int .i64 z)) h4⟩
  · have h1 : ((n : Int) % 2 == 1) = false := by simp; omega
    have HU : Hid (uz n = (n : Int) / 2) := by show _ = _; unfold uz; rw [if_neg h]; omega
    clear hn h
    go_enter Try.func140, Try.ntmps140
    go_wp2
    go_ret
    exact ⟨rfl, by rw [HU.out]; exact congrArg (fun z => Ending.returned (Value.int .i64 z)) h2⟩

/-- A value as it may be read. -/
structure VR (v : Val) : Prop where
  there : v.null = false
  vin : VIn v
  sz : v.s.size ≤ 32

/-- Where the document's reader stands. -/
def RAt (s : ByteArray) (r : Nat) (w' : World) (P : Nat → Bool → Prop) : Prop := ∃ q b, q ≤ s.size ∧ w'.heap[r]? = some (rb s q b) ∧ P q b

set_option maxRecDepth 100000 in
set_option maxHeartbeats 2000000 in
theorem roneS_any (k : Int) (hk : k = 1 ∨ k = 2 ∨ k = 3) (r p : Nat) (bad : Bool) (s : ByteArray) (w : World) (hm : s.size ≤ maxLen) (hp : p ≤ s.size) (h : w.heap[r]? = some (rb s p bad)) :
    Calls Try.prog 128 #[.pointer (some ⟨r, 0, none⟩), .int .i64 k] w fun e w' => Kp r w w' ∧ ∃ v : Val, e = .returned (.agg #[.bool v.null, .int .i64 v.n, .string v.s]) ∧ VR v ∧
      RAt s r w' (fun q b => (∀ x, VK k x → Starts (bytesOf s) p (plainB k x) → v = x ∧ q = p + (plainB k x).length ∧ b = bad) ∧ (bad = true → b = true)) := by
  have hrl : r < w.heap.size := lt_of_block h
  have HR0 : Hid ((w.alloc (.cells #[.bool false, .int .i64 0, .string ⟨#[]⟩] 39)).heap[r]? = some (rb s p bad)) := by
    show _ = _
    rw [Below.heap_alloc _ _ r hrl]; exact h
  have HKA : Hid (Kp r w (w.alloc (.cells #[.bool false, .int .i64 0, .string ⟨#[]⟩] 39))) := (Kp.refl r w).alloc _
  clear h
  rcases hk with rfl | rfl | rfl
  · go_enter Try.func128, Try.ntmps128
    go_wp2_with fail
    refine (rwordS_any r p bad s _ hm hp HR0.out).mono ?_
    rintro e w1 ⟨hK1, n, q, b, rfl, hn, hq, hR1, hu, hst⟩
    have HST : Hid (bad = true → b = true) := hst
    clear hst
    have HK1 : Hid (Kp r w w1) := HKA.out.trans hK1
    have hbx : w1.heap[w.heap.size]? = some (.cells #[.bool false, .int .i64 0, .string ⟨#[]⟩] 39 (0, 0)) := Kp.block hK1 (heap_alloc_new w _) (by omega)
    obtain ⟨c0, c1, c2, f0, f1, f2⟩ := box_cells hbx
    have HBX : Hid (w1.heap[w.heap.size]? = some (.cells #[.bool false, .int .i64 0, .string ⟨#[]⟩] 39 (0, 0))) := hbx
    have HR1 : Hid (w1.heap[r]? = some (rb s q b)) := hR1
    have HN : Hid (n < 18446744073709551616) := hn
    have HU : Hid (∀ x, x < 18446744073709551616 → Starts (bytesOf s) p (vint x) → n = x ∧ q = p + (vint x).length ∧ b = bad) := hu
    have HUZ : Hid (∀ w, Calls Try.prog 140 #[.int .u64 (n : Int)] w fun e w' => w' = w ∧ e = .returned (.int .i64 (uz n))) := fun w => unzig_any n w hn
    clear hn hu hR1 hK1 HR0 HKA hbx
    go_wp2_with (go_at_call 140; refine (HUZ.out _).mono ?_; rintro e w' ⟨hw, rfl⟩; rw [hw]; clear hw w')
    clear c0 c1 c2 f0 f1 f2
    obtain ⟨g0, g1, g2, g3, g4⟩ := box_store (.bool false) (.int .i64 (uz n)) (.string ⟨#[]⟩) HBX.out r (by omega) HK1.out (Nat.le_refl _)
    simp [bodyPost, results, Try.results128, go_sem, g0, g1, g2]
    have hrg := uz_range n HN.out
    refine ⟨g4, ⟨false, uz n, ⟨#[]⟩⟩, ⟨rfl, rfl, rfl⟩, ⟨rfl, ⟨hrg.1, hrg.2⟩, by show (⟨#[]⟩ : ByteArray).size ≤ 32; decide⟩, q, b, hq, by rw [g3]; exact HR1.out, ?_, HST.out⟩
    intro x hx hs
    obtain ⟨e1, e2, e3⟩ := HU.out (zz x.n) (zz_lt _ hx.lo hx.hi) hs
    refine ⟨?_, e2, e3⟩
    have h1 := hx.there
    have h2 := hx.s1 rfl
    rw [e1, uz_zz]
    cases x
    simp at h1 h2
    simp [h1, h2]
  · go_enter Try.func128, Try.ntmps128
    go_wp2_with fail
    refine (rbyte_any r p bad s _ hm hp HR0.out).mono ?_
    rintro e w1 ⟨hK1, c, q, b, rfl, hc, hq, hR1, hin, hout⟩
    have HK1 : Hid (Kp r w w1) := HKA.out.trans hK1
    have hbx : w1.heap[w.heap.size]? = some (.cells #[.bool false, .int .i64 0, .string ⟨#[]⟩] 39 (0, 0)) := Kp.block hK1 (heap_alloc_new w _) (by omega)
    obtain ⟨c0, c1, c2, f0, f1, f2⟩ := box_cells hbx
    have HBX : Hid (w1.heap[w.heap.size]? = some (.cells #[.bool false, .int .i64 0, .string ⟨#[]⟩] 39 (0, 0))) := hbx
    have HR1 : Hid (w1.heap[r]? = some (rb s q b)) := hR1
    have HIN : Hid (p < s.size → (bytesOf s)[p]? = some c ∧ q = p + 1 ∧ b = bad) := hin
    have HC : Hid (c < 256) := hc
    have HST : Hid (bad = true → b = true) := fun h => by
      rcases Nat.lt_or_ge p s.size with h1 | h1
      · rw [(hin h1).2.2]; exact h
      · exact hout (by omega)
    clear hin hout hR1 hK1 HR0 HKA hbx hc
    go_wp2
    clear c0 c1 c2 f0 f1 f2
    obtain ⟨g0, g1, g2, g3, g4⟩ := box_store (.bool false) (.int .i64 (c : Int)) (.string ⟨#[]⟩) HBX.out r (by omega) HK1.out (Nat.le_refl _)
    simp [bodyPost, results, Try.results128, go_sem, g0, g1, g2]
    have hc := HC.out
    refine ⟨g4, ⟨false, (c : Int), ⟨#[]⟩⟩, ⟨rfl, rfl, rfl⟩, ⟨rfl, ⟨by show _ ≤ (c : Int); omega, by show (c : Int) ≤ _; omega⟩, by show (⟨#[]⟩ : ByteArray).size ≤ 32; decide⟩, q, b, hq, by rw [g3]; exact HR1.out, ?_, HST.out⟩
    intro x hx hs
    have hps : p < s.size := by
      have := starts_len hs (by rw [bytesOf_length]; exact hp)
      rw [bytesOf_length] at this
      have h2 : (plainB 2 x).length = 1 := rfl
      omega
    obtain ⟨i1, i2, i3⟩ := HIN.out hps
    have hs2 : Starts (bytesOf s) p [byteOf x.n] := hs
    rw [starts_one, i1, byteOf_bit (hx.s2 rfl).1] at hs2
    simp at hs2
    have h1 := hx.there
    have h2 := (hx.s2 rfl).2
    have h3 := (hx.s2 rfl).1
    refine ⟨?_, i2, i3⟩
    cases x
    simp at h1 h2 h3 hs2
    simp [h1, h2]
    omega
  · go_enter Try.func128, Try.ntmps128
    go_wp2_with fail
    refine (rnumberS_any r p 32 bad s _ (by omega) hm hp HR0.out).mono ?_
    rintro e w1 ⟨hK1, n, q, b, rfl, hn, hq, hR1, hu, hst⟩
    have HST : Hid (bad = true → b = true) := hst
    clear hst
    have HK1 : Hid (Kp r w w1) := HKA.out.trans hK1
    have hbx : w1.heap[w.heap.size]? = some (.cells #[.bool false, .int .i64 0, .string ⟨#[]⟩] 39 (0, 0)) := Kp.block hK1 (heap_alloc_new w _) (by omega)
    have HBX : Hid (w1.heap[w.heap.size]? = some (.cells #[.bool false, .int .i64 0, .string ⟨#[]⟩] 39 (0, 0))) := hbx
    have HR1 : Hid (w1.heap[r]? = some (rb s q b)) := hR1
    have HU : Hid (∀ x, x ≤ 32 → Starts (bytesOf s) p (vint x) → n = x ∧ q = p + (vint x).length ∧ b = bad) := hu
    clear hu hR1 hK1 HR0 HKA hbx
    have HT : Hid (Calls Try.prog 126 #[.pointer (some ⟨r, 0, none⟩), .int .i64 (n : Int)] w1 fun e w' => Kp r w1 w' ∧ ∃ (t : ByteArray) (q2 : Nat) (b2 : Bool), e = .returned (.string t) ∧ t.size ≤ 32 ∧ q2 ≤ s.size ∧ w'.heap[r]? = some (rb s q2 b2) ∧ (q + n ≤ s.size → t = s.extract q (q + n) ∧ q2 = q + n ∧ b2 = b) ∧ (b = true → b2 = true)) := by
      by_cases hin : q + n ≤ s.size
      · refine (rtake_ok r q n b s w1 hm hin HR1.out).mono ?_
        rintro e w' ⟨hK, rfl, hR⟩
        exact ⟨hK, _, q + n, b, rfl, by rw [ByteArray.size_extract]; omega, hin, hR, fun _ => ⟨rfl, rfl, rfl⟩, id⟩
      · refine (rtake_bad r q (n : Int) b s w1 hm (by omega) (by omega) hq (.inr (by omega)) HR1.out).mono ?_
        rintro e w' ⟨hK, rfl, hR⟩
        exact ⟨hK, _, q, true, rfl, by decide, hq, hR, fun h => absurd h hin, fun _ => rfl⟩
    go_wp2_with fail
    refine HT.out.mono ?_
    rintro e w2 ⟨hK2, t, q2, b2, rfl, ht, hq2, hR2, hok, hst2⟩
    have HST2 : Hid (bad = true → b2 = true) := fun h => hst2 (HST.out h)
    clear hst2
    have HK2 : Hid (Kp r w w2) := HK1.out.trans hK2
    have hbx := Kp.block hK2 HBX.out (by omega)
    obtain ⟨c0, c1, c2, f0, f1, f2⟩ := box_cells hbx
    have HBX2 : Hid (w2.heap[w.heap.size]? = some (.cells #[.bool false, .int .i64 0, .string ⟨#[]⟩] 39 (0, 0))) := hbx
    have HR2 : Hid (w2.heap[r]? = some (rb s q2 b2)) := hR2
    have HOK : Hid _ := hok
    clear hok hR2 hK2 hbx HK1 HBX HT
    go_wp2
    clear c0 c1 c2 f0 f1 f2
    obtain ⟨g0, g1, g2, g3, g4⟩ := box_store (.bool false) (.int .i64 0) (.string t) HBX2.out r (by omega) HK2.out (Nat.le_refl _)
    simp [bodyPost, results, Try.results128, go_sem, g0, g1, g2]
    refine ⟨g4, ⟨false, 0, t⟩, ⟨rfl, rfl, rfl⟩, ⟨rfl, ⟨by show _ ≤ (0 : Int); omega, by show (0 : Int) ≤ _; omega⟩, ht⟩, q2, b2, hq2, by rw [g3]; exact HR2.out, ?_, HST2.out⟩
    intro x hx hs
    have h1 := hx.there
    have h2 := hx.s3 rfl
    have hs2 : Starts (bytesOf s) p (vint x.s.size ++ bytesOf x.s) := hs
    rw [starts_append] at hs2
    obtain ⟨e1, e2, e3⟩ := HU.out x.s.size h2.2 hs2.1
    have hlen := starts_len hs2.2 (by rw [bytesOf_length, ← e2]; exact hq)
    rw [bytesOf_length, bytesOf_length, ← e2, ← e1] at hlen
    obtain ⟨i1, i2, i3⟩ := HOK.out hlen
    have ht2 : t = x.s := by
      apply bytesOf_inj
      rw [i1, bytesOf_extract, show q + n - q = n by omega, e2]
      refine starts_same (B := bytesOf s) (p := p + (vint x.s.size).length) (List.take_prefix _ _) hs2.2 ?_
      rw [List.length_take, List.length_drop, bytesOf_length, bytesOf_length, ← e2]
      omega
    refine ⟨?_, ?_, by rw [i3, e3]⟩
    · rw [ht2]
      cases x
      simp at h1 h2
      simp [h1, h2.1]
    · show q2 = p + (vint x.s.size ++ bytesOf x.s).length
      rw [List.length_append, bytesOf_length, i2, e2, e1, Nat.add_assoc]
end Go.Proofs.Ytjidbonhhpkljaa.Ec

/- The contracts of the code's readPlain, readDelta, valuesOf and countOnes. -/
set_option linter.unusedVariables false
namespace Go.Proofs.Ytjidbonhhpkljaa.Ec
open Go.RowKit Go.Proofs.Ytjidbonhhpkljaa.Pk Go.Proofs.Ytjidbonhhpkljaa.Pm
theorem ones_succ (zs : List Int) (hb : Bits zs) (k : Nat) (hk : k < zs.length) : ((ones (zs.take (k + 1)) : Nat) : Int) = (ones (zs.take k) : Nat) + zs.getD k 0 := by
  rw [List.take_succ_eq_append_getElem hk, getD_get hk]
  unfold ones
  rw [List.filter_append, List.length_append]
  rcases hb _ (List.getElem_mem hk) with h | h <;> simp [h]

end Go.Proofs.Ytjidbonhhpkljaa.Ec

/- The contract of the code's readDict. -/
set_option linter.unusedVariables false
namespace Go.Proofs.Ytjidbonhhpkljaa.Ec
open Go.RowKit Go.Proofs.Ytjidbonhhpkljaa.Pk Go.Proofs.Ytjidbonhhpkljaa.Pm
theorem ISl.below {w w' : World} {v : Value} {zs : List Int} (h : ISl w v zs) (hb : Below w.heap.size w w') : ISl w' v zs := by
  obtain ⟨ao, b, off, cap, rfl, h1, h2, h3⟩ := h
  exact ⟨ao, b, off, cap, rfl, h1, fun h0 => Nat.lt_of_lt_of_le (h2 h0) hb.size, fun j hj => (hb.cell (p := ⟨b, off + j, none⟩) (h2 (by omega))).trans (h3 j hj)⟩

end Go.Proofs.Ytjidbonhhpkljaa.Ec

/- The contracts of the code's readPresent and readColumn. -/
set_option linter.unusedVariables false
namespace Go.Proofs.Ytjidbonhhpkljaa.Ec
open Go.RowKit Go.Proofs.Ytjidbonhhpkljaa.Pk Go.Proofs.Ytjidbonhhpkljaa.Pm
def nullV : Val := ⟨true, 0, ⟨#[]⟩⟩

/-- A column of which some values were put together. -/
structure CSt (k : Int) (zs : List Int) (pres : List Val) (j nx : Nat) (l : List Val) : Prop where
  lv : l.map lev = zs.take j
  th : there l = pres.take nx
  nx_ : nx = ones (zs.take j)
  ok : ∀ x ∈ l, VC k x

theorem ones_mono (zs : List Int) (j : Nat) : ones (zs.take j) ≤ ones zs := by
  unfold ones
  exact ((List.take_sublist j zs).filter _).length_le
theorem there_snoc (l : List Val) (x : Val) : there (l ++ [x]) = if x.null then there l else there l ++ [x] := by
  unfold there
  rw [List.filter_append]
  cases hx : x.null <;> simp [hx]
theorem CSt.null {k : Int} {zs : List Int} {pres : List Val} {j nx : Nat} {l : List Val} (h : CSt k zs pres j nx l) (hb : Bits zs) (hj : j < zs.length) (hz : zs.getD j 0 = 0) : CSt k zs pres (j + 1) nx (l ++ [nullV]) := by
  have h1 := ones_succ zs hb j hj
  rw [hz] at h1
  refine ⟨?_, ?_, ?_, ?_⟩
  · rw [List.map_append, h.lv, List.take_succ_eq_append_getElem hj, ← getD_get hj, hz]; rfl
  · rw [there_snoc]; exact h.th
  · rw [h.nx_]; omega
  · intro x hx
    rcases List.mem_append.1 hx with h2 | h2
    · exact h.ok x h2
    · simp at h2; subst h2; exact .inl ⟨rfl, rfl, rfl⟩
theorem CSt.lt {k : Int} {zs : List Int} {pres : List Val} {j nx : Nat} {l : List Val} (h : CSt k zs pres j nx l) (hb : Bits zs) (hj : j < zs.length) (hz : zs.getD j 0 ≠ 0) (hp : pres.length = ones zs) : nx < pres.length := by
  have h1 := ones_succ zs hb j hj
  have h2 := ones_mono zs (j + 1)
  have h3 := hb _ (List.getElem_mem hj)
  rw [← getD_get hj] at h3
  have h4 := h.nx_
  omega
theorem CSt.one {k : Int} {zs : List Int} {pres : List Val} {j nx : Nat} {l : List Val} (h : CSt k zs pres j nx l) (hb : Bits zs) (hj : j < zs.length) (hz : zs.getD j 0 ≠ 0) (hn : nx < pres.length) (hv : VK k pres[nx]) : CSt k zs pres (j + 1) (nx + 1) (l ++ [pres[nx]]) := by
  have h1 := ones_succ zs hb j hj
  have h3 := hb _ (List.getElem_mem hj)
  rw [← getD_get hj] at h3
  have h4 : zs.getD j 0 = 1 := by omega
  rw [h4] at h1
  refine ⟨?_, ?_, ?_, ?_⟩
  · rw [List.map_append, h.lv, List.take_succ_eq_append_getElem hj, ← getD_get hj, h4]
    congr 1
    simp [lev, hv.there]
  · rw [there_snoc, hv.there, h.th, List.take_succ_eq_append_getElem hn]; rfl
  · rw [h.nx_]; omega
  · intro x hx
    rcases List.mem_append.1 hx with h2 | h2
    · exact h.ok x h2
    · simp at h2; subst h2; exact .inr hv

end Go.Proofs.Ytjidbonhhpkljaa.Ec

/- The contract of ReadWhole at values: what is read of all bytes, or nothing, by the recover at the call. -/
set_option linter.unusedVariables false
namespace Go.Proofs.Ytjidbonhhpkljaa.Ec
open Go.RowKit Go.Proofs.Ytjidbonhhpkljaa.Pk Go.Proofs.Ytjidbonhhpkljaa.Pm
theorem one_frozen {w : World} {g : Nat} {v : Value} {t : TypeId} (h : w.heap[g]? = some (.cells #[v] t (0, 0))) : w.cell? ⟨g, 0, none⟩ = some v ∧ w.frozen? ⟨g, 0, none⟩ = false := by
  constructor
  · simp [World.cell?, h]
  · simp [World.frozen?, h]
theorem one_set {w : World} {g : Nat} {v : Value} (u : Value) {t : TypeId} (h : w.heap[g]? = some (.cells #[v] t (0, 0))) : (w.setCell ⟨g, 0, none⟩ u).heap[g]? = some (.cells #[u] t (0, 0)) := by
  rw [heap_setCell_same w g 0 _ _ _ h]; rfl

end Go.Proofs.Ytjidbonhhpkljaa.Ec

/- What Back needs: bytes of columns are bytes; the contracts of pick, clean and encodings. -/
set_option linter.unusedVariables false
namespace Go.Proofs.Ytjidbonhhpkljaa.Ec
open Go.RowKit Go.Proofs.Ytjidbonhhpkljaa.Pk Go.Proofs.Ytjidbonhhpkljaa.Pm
theorem vint_lt (n : Nat) : ∀ x ∈ vint n, x < 256 := vintF_lt 10 n
theorem plainB_lt (k : Int) (v : Val) : ∀ x ∈ plainB k v, x < 256 := by
  intro x hx
  unfold plainB at hx
  split at hx
  · exact vint_lt _ x hx
  · split at hx
    · simp at hx; rw [hx]; exact byteOf_lt _
    · rcases List.mem_append.1 hx with h | h
      · exact vint_lt _ x h
      · exact bytesOf_lt _ x h
end Go.Proofs.Ytjidbonhhpkljaa.Ec

/- The statement's book of lists of values that came out: what stays true of it while lists are written over and grow. -/
set_option linter.unusedVariables false
namespace Go.Proofs.Ytjidbonhhpkljaa.Ec
open Go.RowKit Go.Proofs.Ytjidbonhhpkljaa.Pk Go.Proofs.Ytjidbonhhpkljaa.Pm
/-- The mark's text. -/
def mk4 : ByteArray := ⟨#[109, 97, 114, 107]⟩
/-- A mark. -/
def mkV (k : Int) : Val := ⟨false, -1 - k, mk4⟩

theorem full_cells {cur : Array Value} {n : Nat} {k : Int} (h : cur.toList.take (n * 3) = vcells (List.replicate n (mkV k))) {j : Nat} (hj : j < n) : cur[j * 3]? = some (.bool false) ∧ cur[j * 3 + 1]? = some (.int .i64 (-1 - k)) ∧ cur[j * 3 + 2]? = some (.string mk4) := by
  obtain ⟨h1, h2, h3⟩ := vcells_at (List.replicate n (mkV k)) j (by simpa using hj)
  rw [← h, List.getElem?_take, if_pos (by omega)] at h1 h2 h3
  simp only [List.getElem_replicate, Array.getElem?_toList] at h1 h2 h3
  exact ⟨h1, h2, h3⟩

/-- A list of numbers that reads as its mark says. -/
def VFull (w : World) (v : Value) (m : Int) : Prop :=
  ∃ ao n cap, v = .slice ao n cap ∧ n ≤ 1000 ∧ (0 < n → ∃ g cur, ao = some ⟨g, 0, none⟩ ∧ w.heap[g]? = some (.cells cur 39 (0, 0)) ∧ ∀ j, j < n → cur[j * 3]? = some (.bool false) ∧ cur[j * 3 + 1]? = some (.int .i64 (-1 - m)) ∧ cur[j * 3 + 2]? = some (.string mk4))

/-- The book, with its entries. -/
structure VkInv (w : World) (base B : Nat) (iv : Value) (es : List (Value × Int)) : Prop where
  blk : w.heap[B]? = some (.cells #[.slice none 0 0, iv, .slice none 0 0, .slice none 0 0] 70 (0, 0))
  own : w.ownsRow base 123 2 iv es.length (ecells es)
  full : ∀ e ∈ es, VFull w e.1 e.2

theorem VFull.other {w w' : World} {v : Value} {m : Int} {row : Option Nat} (h : VFull w v m) (hg : w.grownBy w' row)
    (hne : ∀ g cur, v.ownBlock = some g → w.heap[g]? = some (.cells cur 39 (0, 0)) → row ≠ some g) : VFull w' v m := by
  obtain ⟨ao, n, cap, rfl, hn, hf⟩ := h
  refine ⟨ao, n, cap, rfl, hn, fun h0 => ?_⟩
  obtain ⟨g, cur, rfl, hb, hc⟩ := hf h0
  exact ⟨g, cur, rfl, by rw [hg.block g (lt_of_block hb) (fun h => hne g cur rfl hb h.symm)]; exact hb, hc⟩

theorem VkInv.other {w w' : World} {base B : Nat} {iv : Value} {es : List (Value × Int)} {row : Option Nat} (h : VkInv w base B iv es) (hg : w.grownBy w' row)
    (h3 : ∀ g, row = some g → (∃ cur, w.heap[g]? = some (.cells cur 39 (0, 0))) ∧ ∀ e ∈ es, ∀ ao n cap, e.1 = .slice ao n cap → 0 < n → e.1.ownBlock ≠ some g) : VkInv w' base B iv es := by
  refine ⟨?_, ?_, ?_⟩
  · rw [hg.block B (lt_of_block h.blk) (fun hr => ?_)]
    · exact h.blk
    · obtain ⟨⟨cur, hc⟩, _⟩ := h3 B hr.symm
      exact blk_ne hc h.blk (by decide) rfl
  · refine h.own.kept hg ?_
    by_cases hi : iv.ownBlock = none
    · exact .inl hi
    · refine .inr fun hr => ?_
      obtain ⟨g, hgi⟩ := Option.ne_none_iff_exists'.1 hi
      obtain ⟨cur, hc⟩ := owns_blk h.own hgi
      obtain ⟨⟨cur2, hc2⟩, _⟩ := h3 g (by rw [← hr, hgi])
      exact blk_ne hc hc2 (by decide) rfl
  · intro e he
    obtain ⟨ao, n, cap, h1, hn, hf⟩ := h.full e he
    rw [h1]
    refine ⟨ao, n, cap, rfl, hn, fun h0 => ?_⟩
    obtain ⟨g, cur, rfl, hb, hc⟩ := hf h0
    refine ⟨g, cur, rfl, ?_, hc⟩
    rw [hg.block g (lt_of_block hb) (fun hr => ?_)]
    · exact hb
    · exact (h3 g hr.symm).2 e he _ _ _ h1 h0 (by rw [h1]; rfl)

/-- An entry more: behind 'append' on the book's row and the store. -/
theorem VkInv.push {w w1 : World} {base B : Nat} {iv iv' v : Value} {k : Int} {es : List (Value × Int)} {n : Nat} {xs : List Value} (o : Obj) (h : VkInv w base B iv es) (hv : VFull w v k)
    (hl : w.ownsRow base 39 3 v n xs) (hB : base ≤ B) (hown : w1.ownsRow base 123 2 iv' (es.length + 1) (ecells es ++ [v, .int .i64 k])) (hg : (w.alloc o).grownBy w1 iv.ownBlock) :
    VkInv (w1.setCell ⟨B, 1, none⟩ iv') base B iv' (es ++ [(v, k)]) ∧ (w1.setCell ⟨B, 1, none⟩ iv').ownsRow base 39 3 v n xs := by
  have ha : w.grownBy (w.alloc o) none := World.grownBy_alloc w o none
  have hne : ∀ (b : Nat) (c : Array Value) (t : TypeId), w.heap[b]? = some (.cells c t (0, 0)) → t ≠ 123 → w1.heap[b]? = w.heap[b]? := by
    intro b c t hb ht
    rw [hg.block b (by have := lt_of_block hb; simp; omega) (fun hr => ?_), ha.block b (lt_of_block hb) (by simp)]
    obtain ⟨cur, hc⟩ := owns_blk h.own hr.symm
    exact blk_ne hb hc ht rfl
  have hB1 := hne B _ _ h.blk (by decide)
  rw [h.blk] at hB1
  have hB2 := heap_setCell_same w1 B 1 _ _ iv' hB1
  have hne2 : ∀ (b : Nat) (c : Array Value) (t : TypeId), w.heap[b]? = some (.cells c t (0, 0)) → t ≠ 123 → t ≠ 70 → (w1.setCell ⟨B, 1, none⟩ iv').heap[b]? = w.heap[b]? := by
    intro b c t hb ht ht2
    rw [heap_setCell_other w1 ⟨B, 1, none⟩ b iv' (fun hr => ?_), hne b c t hb ht]
    exact blk_ne hb h.blk ht2 hr
  have hfil : ∀ u m, VFull w u m → VFull (w1.setCell ⟨B, 1, none⟩ iv') u m := by
    rintro u m ⟨ao, n', cap, rfl, hn, hf⟩
    refine ⟨ao, n', cap, rfl, hn, fun h0 => ?_⟩
    obtain ⟨g, cur, rfl, hb, hc⟩ := hf h0
    exact ⟨g, cur, rfl, by rw [hne2 g _ _ hb (by decide) (by decide)]; exact hb, hc⟩
  refine ⟨⟨?_, ?_, ?_⟩, ?_⟩
  · rw [hB2]; rfl
  · rw [List.length_append, List.length_singleton, ← ecells_snoc]
    refine ownsRow_setCell_other hown (fun hr => ?_) _
    obtain ⟨cur, hc⟩ := owns_blk hown hr
    exact blk_ne hc hB1 (by decide) rfl
  · intro e he
    rcases List.mem_append.1 he with h1 | h1
    · exact hfil _ _ (h.full e h1)
    · simp at h1
      subst h1
      exact hfil _ _ hv
  · refine ⟨hl.1, ?_⟩
    rcases hl.2 with h1 | ⟨g, cap, cur, h1, h2, h3, h4⟩
    · exact .inl h1
    · exact .inr ⟨g, cap, cur, h1, h2, by rw [hne2 g _ _ h3 (by decide) (by decide)]; exact h3, h4⟩

theorem VFull.mk {w : World} {base : Nat} {v : Value} {n : Nat} {x : Int} (h : w.ownsRow base 39 3 v n (vcells (List.replicate n (mkV x)))) (hn : n ≤ 1000) : VFull w v x := by
  rcases h.2 with ⟨rfl, rfl⟩ | ⟨g, cap, cur, rfl, _, h3, _, _, _, h7⟩
  · exact ⟨none, 0, 0, rfl, by omega, by omega⟩
  · refine ⟨_, n, cap, rfl, hn, fun h0 => ⟨g, cur, rfl, h3, fun j hj => ?_⟩⟩
    exact full_cells h7 hj

/-- Of the entries those that stand in the row of v are no longer than n, and bear the mark k. -/
def VShares (v : Value) (n : Nat) (k : Int) (es : List (Value × Int)) : Prop := ∀ e ∈ es, ∀ g n' cap', e.1 = .slice (some ⟨g, 0, none⟩) n' cap' → 0 < n' → v.ownBlock = some g → e.2 = k ∧ n' ≤ n

/-- The list grows by one more mark. -/
theorem VkInv.grow {w w1 : World} {base B : Nat} {iv v v' : Value} {k : Int} {es : List (Value × Int)} {n : Nat} (o : Obj) (h : VkInv w base B iv es) (hs : VShares v n k es)
    (hl : w.ownsRow base 39 3 v n (vcells (List.replicate n (mkV k)))) (hown : w1.ownsRow base 39 3 v' (n + 1) (vcells (List.replicate (n + 1) (mkV k))))
    (hg : ((w.alloc o).grownBy w1 none ∧ w1.ownsRow (w.alloc o).heap.size 39 3 v' (n + 1) (vcells (List.replicate (n + 1) (mkV k)))) ∨ (v'.ownBlock = v.ownBlock ∧ (w.alloc o).grownBy w1 v.ownBlock)) :
    VkInv w1 base B iv es ∧ VShares v' (n + 1) k es := by
  have ha := h.other (World.grownBy_alloc w o none) (fun g hg => by cases hg)
  rcases hg with ⟨hg, hnew⟩ | ⟨hv, hg⟩
  · refine ⟨ha.other hg (fun g hg => by cases hg), ?_⟩
    intro e he g n' cap' h1 h0 hvg
    exfalso
    obtain ⟨ao, n2, cap2, h2, _, hf⟩ := ha.full e he
    rw [h1] at h2
    simp only [Value.slice.injEq] at h2
    obtain ⟨rfl, rfl, rfl⟩ := h2
    obtain ⟨g2, cur, hg2, hb, _⟩ := hf h0
    simp only [Option.some.injEq, Addr.mk.injEq, and_true] at hg2
    subst hg2
    have := lt_of_block hb
    have := (hnew.lt g hvg).1
    omega
  · rcases hown.2 with ⟨_, h0⟩ | ⟨g0, cap0, cur0, rfl, _, hb0, _, _, _, ht0⟩
    · omega
    have hv0 : v.ownBlock = some g0 := by rw [← hv]; rfl
    rw [hv0] at hg
    obtain ⟨curA, hcA⟩ := owns_blk (hl.alloc o) hv0
    have hcell : ∀ j, j < n + 1 → cur0[j * 3]? = some (.bool false) ∧ cur0[j * 3 + 1]? = some (.int .i64 (-1 - k)) ∧ cur0[j * 3 + 2]? = some (.string mk4) := fun j hj => full_cells ht0 hj
    refine ⟨⟨?_, ?_, ?_⟩, ?_⟩
    · rw [hg.block B (lt_of_block ha.blk) (fun hr => ?_)]
      · exact ha.blk
      · simp at hr
        subst hr
        exact blk_ne hcA ha.blk (by decide) rfl
    · refine ha.own.kept hg ?_
      by_cases hi : iv.ownBlock = none
      · exact .inl hi
      · refine .inr fun hr => ?_
        obtain ⟨cur, hc⟩ := owns_blk ha.own hr
        exact blk_ne hc hcA (by decide) rfl
    · intro e he
      obtain ⟨ao, n2, cap2, h2, hn2, hf⟩ := ha.full e he
      rw [h2]
      refine ⟨ao, n2, cap2, rfl, hn2, fun hp => ?_⟩
      obtain ⟨g, cur, rfl, hb, hc⟩ := hf hp
      by_cases hgg : g = g0
      · subst hgg
        obtain ⟨hm, hle⟩ := hs e he g n2 cap2 h2 hp hv0
        exact ⟨g, cur0, rfl, hb0, fun j hj => by rw [hm]; exact hcell j (by omega)⟩
      · exact ⟨g, cur, rfl, by rw [hg.block g (lt_of_block hb) (by simp; exact hgg)]; exact hb, hc⟩
    · intro e he g n' cap' h1 hp hvg
      obtain ⟨hm, hle⟩ := hs e he g n' cap' h1 hp (by rw [hv0]; exact hvg)
      exact ⟨hm, by omega⟩
end Go.Proofs.Ytjidbonhhpkljaa.Ec

/- Values as a caller hands them in: the contract of lentValues. -/
set_option linter.unusedVariables false
namespace Go.Proofs.Ytjidbonhhpkljaa.Ec
open Go.RowKit Go.Proofs.Ytjidbonhhpkljaa.Pk Go.Proofs.Ytjidbonhhpkljaa.Pm
theorem vcells_set (L : List Val) : ∀ (j : Nat) (v : Val), j < L.length → (((vcells L).set (j * 3) (.bool v.null)).set (j * 3 + 1) (.int .i64 v.n)).set (j * 3 + 2) (.string v.s) = vcells (L.set j v) := by
  induction L with
  | nil => intro j v h; simp at h
  | cons x r ih =>
    intro j v h
    cases j with
    | zero => simp [vcells_cons]
    | succ j =>
      have := ih j v (by simpa using h)
      rw [List.set_cons_succ, vcells_cons, vcells_cons, ← this]
      rw [show (j + 1) * 3 = j * 3 + 1 + 1 + 1 by omega]
      simp [List.set_cons_succ]

end Go.Proofs.Ytjidbonhhpkljaa.Ec

/- The contract of the book's ownValues: a list is written full of its mark, three more are put behind it, and all four stand in the book. -/
set_option linter.unusedVariables false
namespace Go.Proofs.Ytjidbonhhpkljaa.Ec
open Go.RowKit Go.Proofs.Ytjidbonhhpkljaa.Pk Go.Proofs.Ytjidbonhhpkljaa.Pm
theorem VkInv.cells {w : World} {base B : Nat} {iv : Value} {es : List (Value × Int)} (h : VkInv w base B iv es) : w.cell? ⟨B, 1, none⟩ = some iv ∧ w.frozen? ⟨B, 1, none⟩ = false := by
  have := h.blk
  exact ⟨by simp [World.cell?, this], by simp [World.frozen?, this]⟩

theorem VkInv.cells1 {w w1 : World} {base B : Nat} {iv : Value} {es : List (Value × Int)} (o : Obj) (h : VkInv w base B iv es) (hg : (w.alloc o).grownBy w1 iv.ownBlock) : w1.cell? ⟨B, 1, none⟩ = some iv ∧ w1.frozen? ⟨B, 1, none⟩ = false := by
  have hb : w1.heap[B]? = some (.cells #[.slice none 0 0, iv, .slice none 0 0, .slice none 0 0] 70 (0, 0)) := by
    rw [hg.block B (by have := lt_of_block h.blk; simp; omega) (fun hr => ?_), (World.grownBy_alloc w o none).block B (lt_of_block h.blk) (by simp)]
    · exact h.blk
    · obtain ⟨cur, hc⟩ := owns_blk h.own hr.symm
      exact blk_ne h.blk hc (by decide) rfl
  exact ⟨by simp [World.cell?, hb], by simp [World.frozen?, hb]⟩

theorem set_grown (w : World) (g o : Nat) (v : Value) : w.grownBy (w.setCell ⟨g, o, none⟩ v) (some g) :=
  ⟨rfl, rfl, rfl, by simp, fun k _ hne => heap_setCell_other _ _ _ _ (fun e => hne (by cases e; rfl))⟩
theorem set3_grown (w : World) (g j : Nat) (a b c : Value) : w.grownBy (((w.setCell ⟨g, j * 3, none⟩ a).setCell ⟨g, j * 3 + 1, none⟩ b).setCell ⟨g, j * 3 + 2, none⟩ c) (some g) :=
  ((set_grown w g _ a).trans (set_grown _ g _ b)).trans (set_grown _ g _ c)

/-- What the statement's lists have kept of others. -/
def KeepVals (v : Value) (w w' : World) : Prop := ∀ (g : Nat) (cur : Array Value), w.heap[g]? = some (.cells cur 39 (0, 0)) → v.ownBlock ≠ some g → w'.heap[g]? = some (.cells cur 39 (0, 0))

theorem KeepVals.step {v : Value} {w wr w1 : World} {row : Option Nat} (h : KeepVals v w wr) (hg : wr.grownBy w1 row)
    (hne : ∀ (g : Nat) (cur : Array Value), row = some g → wr.heap[g]? = some (.cells cur 39 (0, 0)) → v.ownBlock = some g ∨ w.heap.size ≤ g) : KeepVals v w w1 := by
  intro g cur hb hv
  have h1 := h g cur hb hv
  rw [hg.block g (lt_of_block h1) (fun hr => ?_)]
  · exact h1
  · rcases hne g cur hr.symm h1 with h2 | h2
    · exact hv h2
    · have := lt_of_block hb
      omega

theorem KeepVals.push {v : Value} {w wr w1 : World} {base B : Nat} {iv : Value} {es : List (Value × Int)} {o : Obj} (h : KeepVals v w wr) (hI : VkInv wr base B iv es) (hg : (wr.alloc o).grownBy w1 iv.ownBlock) (u : Value) :
    KeepVals v w (w1.setCell ⟨B, 1, none⟩ u) := by
  have ha := h.step (World.grownBy_alloc wr o none) (fun g _ hg _ => by cases hg)
  have hIa := hI.other (World.grownBy_alloc wr o none) (fun g hg => by cases hg)
  intro g cur hb hv
  have h1 := ha g cur hb hv
  rw [heap_setCell_other w1 ⟨B, 1, none⟩ g u (fun hr => ?_), hg.block g (lt_of_block h1) (fun hr => ?_)]
  · exact h1
  · obtain ⟨c2, h2⟩ := owns_blk hIa.own hr.symm
    exact blk_ne h1 h2 (by decide) rfl
  · exact blk_ne h1 hIa.blk (by decide) hr

/-- A store into the list. -/
theorem VkInv.store {w : World} {base B : Nat} {iv : Value} {es : List (Value × Int)} {g n cap : Nat} {l : List Val} (h : VkInv w base B iv es) (hown : w.ownsRow base 39 3 (.slice (some ⟨g, 0, none⟩) n cap) n (vcells l))
    (hsh : ∀ e ∈ es, ∀ g' n' cap', e.1 = .slice (some ⟨g', 0, none⟩) n' cap' → 0 < n' → g ≠ g') (j : Nat) (x : Val) (hj : j < l.length) :
    VkInv (((w.setCell ⟨g, j * 3, none⟩ (.bool x.null)).setCell ⟨g, j * 3 + 1, none⟩ (.int .i64 x.n)).setCell ⟨g, j * 3 + 2, none⟩ (.string x.s)) base B iv es ∧
      (((w.setCell ⟨g, j * 3, none⟩ (.bool x.null)).setCell ⟨g, j * 3 + 1, none⟩ (.int .i64 x.n)).setCell ⟨g, j * 3 + 2, none⟩ (.string x.s)).ownsRow base 39 3 (.slice (some ⟨g, 0, none⟩) n cap) n (vcells (l.set j x)) := by
  refine ⟨h.other (set3_grown w g j _ _ _) ?_, ?_⟩
  · intro g' hg'
    simp at hg'
    subst hg'
    refine ⟨owns_blk hown rfl, ?_⟩
    intro e he ao n' cap' h1 h0 hob
    rw [h1] at hob
    cases ao with
    | none => simp [Value.ownBlock] at hob
    | some a =>
      obtain ⟨ao2, n2, cap2, h2, _, hf⟩ := h.full e he
      rw [h1] at h2
      simp only [Value.slice.injEq] at h2
      obtain ⟨rfl, rfl, rfl⟩ := h2
      obtain ⟨g2, cur, hg2, _⟩ := hf h0
      simp only [Option.some.injEq] at hg2
      subst hg2
      simp [Value.ownBlock] at hob
      exact hsh e he g2 n' cap' h1 h0 hob.symm
  · rw [← vcells_set l j x hj]
    exact ((((hown.stored (j * 3) (.bool x.null)).1).stored (j * 3 + 1) (.int .i64 x.n)).1.stored (j * 3 + 2) (.string x.s)).1

end Go.Proofs.Ytjidbonhhpkljaa.Ec

/- Columns as the statements have them, their cells, and the contracts of the tests on them. -/
set_option linter.unusedVariables false
namespace Go.Proofs.Ytjidbonhhpkljaa.Ec
open Go.RowKit Go.Proofs.Ytjidbonhhpkljaa.Pk
/-- A column: a name and a kind. -/
structure Col where
  name : ByteArray
  kind : Int

/-- The cells of columns. -/
def ccells (l : List Col) : List Value := l.flatMap fun c => [.string c.name, .int .i64 c.kind]

/-- A slice of columns, as a walk wants it. -/
structure CRow (w : World) (ao : Option Addr) (b off : Nat) (l : List Col) : Prop where
  addr : 0 < l.length → ao = some ⟨b, off, none⟩
  lt : 0 < l.length → b < w.heap.size
  c0 : ∀ j (h : j < l.length), w.cell? ⟨b, off + j * 2, none⟩ = some (.string l[j].name)
  c1 : ∀ j (h : j < l.length), w.cell? ⟨b, off + j * 2 + 1, none⟩ = some (.int .i64 l[j].kind)

theorem CRow.below {w w' : World} {ao : Option Addr} {b off : Nat} {l : List Col} (h : CRow w ao b off l) (hb : Below w.heap.size w w') : CRow w' ao b off l :=
  ⟨h.addr, fun h0 => Nat.lt_of_lt_of_le (h.lt h0) hb.size,
    fun j hj => (hb.cell (p := ⟨b, off + j * 2, none⟩) (h.lt (by omega))).trans (h.c0 j hj),
    fun j hj => (hb.cell (p := ⟨b, off + j * 2 + 1, none⟩) (h.lt (by omega))).trans (h.c1 j hj)⟩
theorem CRow.take {w : World} {ao : Option Addr} {b off : Nat} {l : List Col} (h : CRow w ao b off l) (n : Nat) : CRow w ao b off (l.take n) := by
  refine ⟨fun h0 => h.addr ?_, fun h0 => h.lt ?_, fun j hj => ?_, fun j hj => ?_⟩
  · simp at h0; omega
  · simp at h0; omega
  · rw [List.getElem_take]; exact h.c0 j (by simp at hj; omega)
  · rw [List.getElem_take]; exact h.c1 j (by simp at hj; omega)

/-- A slice of columns. -/
def CSl (w : World) (v : Value) (l : List Col) : Prop := ∃ ao b off cap, v = .slice ao l.length cap ∧ l.length ≤ cap ∧ CRow w ao b off l
theorem CSl.below {w w' : World} {v : Value} {l : List Col} (h : CSl w v l) (hb : Below w.heap.size w w') : CSl w' v l := by
  obtain ⟨ao, b, off, cap, rfl, hc, h⟩ := h
  exact ⟨ao, b, off, cap, rfl, hc, h.below hb⟩

/-- May a column be? -/
def colOk (c : Col) : Bool := decide ((1 : Int) ≤ (c.name.size : Int)) && decide ((c.name.size : Int) ≤ 16) && isKindB c.kind
/-- Is the column at this place one, and none ahead of it of its name? -/
def GoodAt (l : List Col) (i : Nat) : Prop := ∀ h : i < l.length, colOk l[i] = true ∧ ∀ k (hk : k < i), l[k].name ≠ l[i].name
/-- May columns be? -/
def ColsOk (l : List Col) : Prop := 1 ≤ l.length ∧ l.length ≤ 8 ∧ ∀ i, GoodAt l i

theorem isColumn_any (c : Col) (w : World) :
    Calls Try.prog 120 #[.agg #[.string c.name, .int .i64 c.kind]] w fun e w' => e = .returned (.bool (colOk c)) ∧ Below w.heap.size w w' := by
  have H := isKind_any c.kind
  cases h1 : decide ((1 : Int) ≤ (c.name.size : Int)) <;> cases h2 : decide ((c.name.size : Int) ≤ 16)
  all_goals
    go_enter Try.func120, Try.ntmps120
    go_wp2_with (go_at_call 71; refine (H _).mono ?_; rintro e w' ⟨rfl, rfl⟩)
    all_goals go_ret
    all_goals refine ⟨ret_bool ?_, (Below.refl _ _).alloc (Nat.le_refl _) _⟩
    all_goals simp_all [colOk]
    all_goals try (intros; omega)

set_option maxRecDepth 100000 in
set_option maxHeartbeats 2000000 in
theorem hasName_any (l : List Col) (s : ByteArray) (ao : Option Addr) (b off cap : Nat) (w : World) (hm : l.length ≤ maxLen) (hr : CRow w ao b off l) :
    Calls Try.prog 121 #[.slice ao l.length cap, .string s] w fun e w' => ∃ bb, e = .returned (.bool bb) ∧ (bb = true ↔ ∃ k, ∃ h : k < l.length, l[k].name = s) ∧ Below w.heap.size w w' := by
  unfold maxLen at hm
  have HR : Hid (CRow w ao b off l) := hr
  clear hr
  go_enter Try.func121, Try.ntmps121
  go_wp2_with fail
  go_loopw [9] (fun i wr => ∃ j : Nat, j ≤ l.length ∧ i = .int .i64 j ∧ (∀ t, (ht : t < l.length) → t < j → l[t].name ≠ s) ∧ Below w.heap.size w wr) (fun i _ => l.length - (intOf i).toNat)
  case atStart => exact ⟨0, Nat.zero_le _, rfl, fun t _ h => by omega, Below.refl _ _⟩
  case round =>
    obtain ⟨j, hj, rfl, hall, hbel⟩ := hrel
    have HA : Hid (∀ t, (ht : t < l.length) → t < j → l[t].name ≠ s) := hall
    have HB : Hid (Below w.heap.size w wr) := hbel
    have hsz := hbel.size
    clear hall
    by_cases hlt : j < l.length
    · have hr := HR.out.below hbel
      obtain rfl := hr.addr (by omega)
      have p0 := hr.c0 j hlt
      have p1 := hr.c1 j hlt
      have HX : Hid (l[j].name = s → ∃ k, ∃ h : k < l.length, l[k].name = s) := fun h => ⟨j, hlt, h⟩
      have HY : Hid (l[j].name ≠ s → ∀ t, (ht : t < l.length) → t < j + 1 → l[t].name ≠ s) := fun h t ht h2 => by
        by_cases e2 : t = j
        · subst e2; exact h
        · exact HA.out t ht (by omega)
      clear hr hbel HA HR
      generalize l[j] = x at *
      by_cases hx : x.name = s
      · have HX2 := HX.out hx
        have HX3 : Hid (∃ k, ∃ h : k < l.length, l[k].name = s) := HX2
        have hts : (x.name.toList == s.toList) = true := by rw [hx]; simp
        clear HX HY hx HX2
        go_wp2
        go_ret
        exact ⟨true, rfl, by simp only [true_iff]; exact HX3.out, HB.out.alloc hsz _⟩
      · have HY2 : Hid (∀ t, (ht : t < l.length) → t < j + 1 → l[t].name ≠ s) := HY.out hx
        have hts : (x.name.toList == s.toList) = false := by rw [beq_eq_false_iff_ne]; exact fun h => hx (toList_inj h)
        clear HX HY hx
        go_wp2
        go_roundw
        case rel => exact ⟨j + 1, by omega, by go_num, HY2.out, HB.out.alloc hsz _⟩
        case measure => simp [intOf]; omega
    · have HN : Hid (¬ ∃ k, ∃ h : k < l.length, l[k].name = s) := by
        rintro ⟨k, h, e⟩
        exact HA.out k h (by omega) e
      clear HA hbel
      go_wp2
      go_ret
      exact ⟨false, rfl, by simp only [Bool.false_eq_true, false_iff]; exact HN.out, HB.out⟩

theorem two_cells (w : World) (a b : Value) (t : TypeId) : (w.alloc (.cells #[a, b] t)).cell? ⟨w.heap.size, 0, none⟩ = some a ∧ (w.alloc (.cells #[a, b] t)).cell? ⟨w.heap.size, 1, none⟩ = some b := by
  constructor <;> simp
end Go.Proofs.Ytjidbonhhpkljaa.Ec

/- Which of two values is less: both sides. -/
set_option linter.unusedVariables false
namespace Go.Proofs.Ytjidbonhhpkljaa.Ec
open Go.RowKit Go.Proofs.Ytjidbonhhpkljaa.Pk
/-- How two numbers lie to each other. -/
def ncmp (a b : Int) : Int := if a < b then -1 else if b < a then 1 else 0
/-- How two values of a kind lie to each other. -/
def vcmp (x y : Val) : Int := if x.n < y.n then -1 else if y.n < x.n then 1 else Lib.compareBytes x.s.data.toList y.s.data.toList
theorem vcmp_or (x y : Val) : vcmp x y = if ncmp x.n y.n = 0 then Lib.compareBytes x.s.data.toList y.s.data.toList else ncmp x.n y.n := by
  unfold vcmp ncmp
  by_cases h1 : x.n < y.n
  · rw [if_pos h1, if_pos h1, if_neg (by omega)]
  · rw [if_neg h1, if_neg h1]
    by_cases h2 : y.n < x.n
    · rw [if_pos h2, if_pos h2, if_neg (by omega)]
    · rw [if_neg h2, if_neg h2, if_pos rfl]

theorem cmpCompare_any (a b : Int) (w : World) : Calls Try.prog 154 #[.int .i64 a, .int .i64 b] w fun e w' => e = .returned (.int .i64 (ncmp a b)) ∧ w' = w := by
  unfold ncmp
  go_enter Try.func154, Try.ntmps154
  by_cases h1 : a < b
  · rw [if_pos h1]
    go_wp2
    go_ret
    exact ⟨rfl, rfl⟩
  · rw [if_neg h1]
    by_cases h2 : b < a
    · rw [if_pos h2]
      go_wp2
      go_ret
      exact ⟨rfl, rfl⟩
    · rw [if_neg h2]
      go_wp2
      go_ret
      exact ⟨rfl, rfl⟩

set_option maxRecDepth 100000 in
theorem cmpString_any (a b : ByteArray) (w : World) : Calls Try.prog 159 #[.string a, .string b] w fun e w' => e = .returned (.int .i64 (Lib.compareBytes a.data.toList b.data.toList)) ∧ w' = w := by
  go_enter Try.func159, Try.ntmps159
  go_wp2
  rw [run_callFunc_extern Try.func160 (by kernel_rfl) (by kernel_rfl) (by kernel_rfl) (e := Extern.BytealgCompare.compare) (by kernel_rfl), Lib.run_compareString]
  simp only [Result.andThen]
  rw [Oper.upon_value]
  go_wp2
  go_ret
  exact ⟨rfl, rfl⟩

theorem sCompare_any (a b : ByteArray) (w : World) : Calls Try.prog 155 #[.string a, .string b] w fun e w' => e = .returned (.int .i64 (Lib.compareBytes a.data.toList b.data.toList)) ∧ w' = w := by
  go_enter Try.func155, Try.ntmps155
  go_wp2_with (go_at_call 159; refine (cmpString_any _ _ _).mono ?_; rintro e w' ⟨rfl, rfl⟩)
  go_ret
  exact ⟨rfl, rfl⟩

set_option maxRecDepth 100000 in
set_option maxHeartbeats 1000000 in
theorem cmpOr_any (a b : Int) (g : Nat) (w : World) (h0 : w.cell? ⟨g, 0, none⟩ = some (.int .i64 a)) (h1 : w.cell? ⟨g, 1, none⟩ = some (.int .i64 b)) :
    Calls Try.prog 153 #[.slice (some ⟨g, 0, none⟩) 2 2] w fun e w' => e = .returned (.int .i64 (if a = 0 then b else a)) ∧ w' = w := by
  go_enter Try.func153, Try.ntmps153
  go_wp2_with fail
  go_loopw [8] (fun i wr => ∃ j : Nat, j ≤ 2 ∧ i = .int .i64 (j : Int) ∧ (1 ≤ j → a = 0) ∧ (2 ≤ j → b = 0) ∧ wr = w) (fun i _ => 2 - (intOf i).toNat)
  case atStart => exact ⟨0, by omega, rfl, fun h => by omega, fun h => by omega, rfl⟩
  case round =>
    obtain ⟨j, hj, rfl, ha, hb, rfl⟩ := hrel
    have HA : Hid (1 ≤ j → a = 0) := ha
    have HB : Hid (2 ≤ j → b = 0) := hb
    clear ha hb
    match j, hj with
    | 0, _ =>
      by_cases hz : a = 0
      · have hd : (a != 0) = false := by simp [hz]
        have HZ : Hid (a = 0) := hz
        clear hz
        go_wp2
        go_roundw
        case rel =>
          refine ⟨1, by omega, rfl, fun _ => HZ.out, ?_⟩
          simp
        case measure => simp [intOf]
      · have hd : (a != 0) = true := by simp [hz]
        have HZ : Hid (¬ a = 0) := hz
        clear hz
        go_wp2
        go_ret
        exact ⟨rfl, rfl⟩
    | 1, _ =>
      obtain rfl : a = 0 := HA.out (by omega)
      by_cases hz : b = 0
      · have hd : (b != 0) = false := by simp [hz]
        have HZ : Hid (b = 0) := hz
        clear hz
        go_wp2
        go_roundw
        case rel =>
          refine ⟨2, by omega, rfl, ?_⟩
          simp
          try exact HZ.out
        case measure => simp [intOf]
      · have hd : (b != 0) = true := by simp [hz]
        clear hz
        go_wp2
        go_ret
        exact ⟨rfl, rfl⟩
    | 2, _ =>
      obtain rfl : a = 0 := HA.out (by omega)
      obtain rfl : b = 0 := HB.out (by omega)
      go_wp2
      go_ret
      exact ⟨rfl, rfl⟩
end Go.Proofs.Ytjidbonhhpkljaa.Ec

/- Bounds: the plain functions of both sides. -/
set_option linter.unusedVariables false
namespace Go.Proofs.Ytjidbonhhpkljaa.Ec
open Go.RowKit Go.Proofs.Ytjidbonhhpkljaa.Pk
theorem cmpB_anti : ∀ A B : List UInt8, Lib.compareBytes A B = - Lib.compareBytes B A
  | [], [] => rfl
  | [], _ :: _ => rfl
  | _ :: _, [] => rfl
  | a :: ra, b :: rb => by
    have ih := cmpB_anti ra rb
    simp only [Lib.compareBytes]
    by_cases h1 : a < b
    · rw [if_pos h1, if_neg (by rw [UInt8.lt_iff_toNat_lt] at h1 ⊢; omega), if_pos h1]
    · rw [if_neg h1]
      by_cases h2 : b < a
      · rw [if_pos h2, if_pos h2]; rfl
      · rw [if_neg h2, if_neg h2, if_neg h1, ih]
theorem vcmp_anti (x y : Val) : vcmp x y = - vcmp y x := by
  unfold vcmp
  by_cases h1 : x.n < y.n
  · rw [if_pos h1, if_neg (by omega), if_pos h1]
  · rw [if_neg h1]
    by_cases h2 : y.n < x.n
    · rw [if_pos h2, if_pos h2]; rfl
    · rw [if_neg h2, if_neg h2, if_neg h1]
      exact cmpB_anti _ _
/-- Bounds: whether they are there, the least, the greatest value. -/
structure Bnd where
  there : Bool
  least : Val
  most : Val
/-- No bounds. -/
def noBnd : Bnd := ⟨false, ⟨false, 0, ⟨#[]⟩⟩, ⟨false, 0, ⟨#[]⟩⟩⟩
/-- One value more. -/
def bstep (b : Bnd) (v : Val) : Bnd :=
  if v.null then b
  else ⟨true, if b.there = false ∨ vcmp v b.least < 0 then v else b.least, if b.there = false ∨ 0 < vcmp v b.most then v else b.most⟩
/-- The bounds of a list. -/
def boundsP (l : List Val) : Bnd := l.foldl bstep noBnd

end Go.Proofs.Ytjidbonhhpkljaa.Ec

/- Compare: the program's side. -/
set_option linter.unusedVariables false
namespace Go.Proofs.Ytjidbonhhpkljaa.Ec
open Go.RowKit Go.Proofs.Ytjidbonhhpkljaa.Pk
theorem below_box2 {w : World} (o p : Obj) : Below w.heap.size w ((w.alloc o).alloc p) := ((Below.refl _ _).alloc (Nat.le_refl _) o).alloc (by simp) p

theorem box_four (w : World) (x y : Val) : (fun W : World => W.cell? ⟨w.heap.size, 1, none⟩ = some (.int .i64 x.n) ∧ W.cell? ⟨w.heap.size, 2, none⟩ = some (.string x.s) ∧ W.cell? ⟨w.heap.size + 1, 1, none⟩ = some (.int .i64 y.n) ∧ W.cell? ⟨w.heap.size + 1, 2, none⟩ = some (.string y.s)) ((w.alloc (.cells #[.bool x.null, .int .i64 x.n, .string x.s] 39)).alloc (.cells #[.bool y.null, .int .i64 y.n, .string y.s] 39)) := by
  refine ⟨?_, ?_, ?_, ?_⟩ <;> simp

set_option maxRecDepth 100000 in
set_option maxHeartbeats 4000000 in
theorem compare_any (x y : Val) (w : World) :
    Calls Try.prog 145 #[.agg #[.bool x.null, .int .i64 x.n, .string x.s], .agg #[.bool y.null, .int .i64 y.n, .string y.s]] w fun e w' => e = .returned (.int .i64 (vcmp x y)) ∧ Below w.heap.size w w' := by
  have H1 := cmpCompare_any x.n y.n
  have H2 := sCompare_any x.s y.s
  have H3 : Hid (∀ (W : World) (g : Nat), g = W.heap.size → Calls Try.prog 153 #[.slice (some ⟨g, 0, none⟩) 2 2] ((W.alloc (.cells #[.int .i64 (ncmp x.n y.n), .int .i64 (Lib.compareBytes x.s.data.toList y.s.data.toList)] 3)).drew) fun e w' => e = .returned (.int .i64 (vcmp x y)) ∧ w' = ((W.alloc (.cells #[.int .i64 (ncmp x.n y.n), .int .i64 (Lib.compareBytes x.s.data.toList y.s.data.toList)] 3)).drew)) := fun W g hg => by
    rw [vcmp_or]
    subst hg
    exact cmpOr_any _ _ W.heap.size _ (by simp) (by simp)
  generalize ncmp x.n y.n = c1 at *
  generalize Lib.compareBytes x.s.data.toList y.s.data.toList = c2 at *
  generalize vcmp x y = c3 at *
  go_enter Try.func145, Try.ntmps145
  go_upto_region 1 with fail
  have hb0 : Below w.heap.size w ((w.alloc (.cells #[.bool x.null, .int .i64 x.n, .string x.s] 39)).alloc (.cells #[.bool y.null, .int .i64 y.n, .string y.s] 39)) := below_box2 _ _
  have hS := box_four w x y
  have hg : w.heap.size + 1 < ((w.alloc (.cells #[.bool x.null, .int .i64 x.n, .string x.s] 39)).alloc (.cells #[.bool y.null, .int .i64 y.n, .string y.s] 39)).heap.size := by simp
  generalize (w.alloc (.cells #[.bool x.null, .int .i64 x.n, .string x.s] 39)).alloc (.cells #[.bool y.null, .int .i64 y.n, .string y.s] 39) = W0 at *
  obtain ⟨s1, s2, s3, s4⟩ := hS
  have hg1 : w.heap.size ≠ W0.heap.size := by omega
  have hg2 : w.heap.size + 1 ≠ W0.heap.size := by omega
  generalize w.heap.size + 1 = g2 at *
  go_region_held (fun W => W.cell? ⟨w.heap.size, 1, none⟩ = some (.int .i64 x.n) ∧ W.cell? ⟨w.heap.size, 2, none⟩ = some (.string x.s) ∧ W.cell? ⟨g2, 1, none⟩ = some (.int .i64 y.n) ∧ W.cell? ⟨g2, 2, none⟩ = some (.string y.s)) (go_keep) (first
    | (go_at_call 154; refine (H1 _).mono ?_; rintro e w1 ⟨rfl, hw⟩; rw [hw]; clear hw w1)
    | (go_at_call 155; refine (H2 _).mono ?_; rintro e w1 ⟨rfl, hw⟩; rw [hw]; clear hw w1)
    | (go_at_call 153; refine (H3.out _ _ rfl).mono ?_; rintro e w1 ⟨rfl, hw⟩; rw [hw]; clear hw w1))
  all_goals go_wp2_with fail
  all_goals go_ret
  all_goals exact ⟨rfl, (hb0.alloc hb0.size _).drew⟩
end Go.Proofs.Ytjidbonhhpkljaa.Ec

/- Bounds of a list of values: the program's side. -/
set_option linter.unusedVariables false
namespace Go.Proofs.Ytjidbonhhpkljaa.Ec
open Go.RowKit Go.Proofs.Ytjidbonhhpkljaa.Pk Go.Proofs.Ytjidbonhhpkljaa.Pm
theorem box_set_grown (w : World) (g o : Nat) (v : Value) : w.grownBy (w.setCell ⟨g, o, none⟩ v) (some g) :=
  ⟨rfl, rfl, rfl, by simp, fun k _ hne => heap_setCell_other _ _ _ _ (fun e => hne (by cases e; rfl))⟩
theorem below_set {n : Nat} {w w1 : World} (h : Below n w w1) (hs : n ≤ w1.heap.size) {g : Nat} (hg : n ≤ g) (o : Nat) (v : Value) : Below n w (w1.setCell ⟨g, o, none⟩ v) :=
  h.grown (box_set_grown w1 g o v) hs (by intro g' hg'; simp at hg'; omega)

theorem below_put {n : Nat} {w w1 : World} (h : Below n w w1) (hn : n ≤ w.heap.size) {g : Nat} (hg : n ≤ g) (o : Nat) (v : Value) : Below n w (w1.setCell ⟨g, o, none⟩ v) :=
  below_set h (Nat.le_trans hn h.size) hg o v
theorem alloc_at (w : World) (o : Obj) : (w.alloc o).heap[w.heap.size]? = some o := by
  show (w.heap.push o)[w.heap.size]? = some o
  simp
theorem alloc_old {w : World} {k : Nat} {x : Option Obj} (o : Obj) (h : k < w.heap.size) (hx : w.heap[k]? = x) : (w.alloc o).heap[k]? = x :=
  (((Below.refl w.heap.size w).alloc (Nat.le_refl _) o).block k h).trans hx

theorem alloc_at2 (w : World) (o p : Obj) : ((w.alloc o).alloc p).heap[w.heap.size + 1]? = some p := by
  have := alloc_at (w.alloc o) p
  rwa [show (w.alloc o).heap.size = w.heap.size + 1 by simp] at this

/-- The cells of bounds. -/
def bcell (b : Bnd) : Array Value := #[.bool b.there, .bool b.least.null, .int .i64 b.least.n, .string b.least.s, .bool b.most.null, .int .i64 b.most.n, .string b.most.s]
/-- Bounds in one piece. -/
def bval (b : Bnd) : Value := .agg #[.bool b.there, .bool b.least.null, .int .i64 b.least.n, .string b.least.s, .bool b.most.null, .int .i64 b.most.n, .string b.most.s]

/-- Where boundsOf stands: the answer's box, the box of the bounds so far, the box of a value. -/
structure BSt (w W : World) (gv : Nat) (x : Val) (b : Bnd) : Prop where
  box : W.heap[w.heap.size + 1]? = some (.cells (bcell b) 154 (0, 0))
  res : W.heap[w.heap.size]? = some (.cells (bcell noBnd) 154 (0, 0))
  one : W.heap[gv]? = some (.cells #[.bool x.null, .int .i64 x.n, .string x.s] 39 (0, 0))
  far : w.heap.size + 1 < gv
  bel : Below w.heap.size w W

theorem BSt.lt {w W : World} {gv : Nat} {x : Val} {b : Bnd} (h : BSt w W gv x b) : gv < W.heap.size := lt_of_block h.one
theorem BSt.below {w W W1 : World} {gv : Nat} {x : Val} {b : Bnd} (h : BSt w W gv x b) (hb : Below W.heap.size W W1) : BSt w W1 gv x b :=
  ⟨(hb.block _ (lt_of_block h.box)).trans h.box, (hb.block _ (lt_of_block h.res)).trans h.res, (hb.block _ (lt_of_block h.one)).trans h.one, h.far, h.bel.trans (hb.mono h.bel.size)⟩
theorem BSt.least {w W : World} {gv : Nat} {x : Val} {b : Bnd} (h : BSt w W gv x b) :
    BSt w (((W.setCell ⟨w.heap.size + 1, 1, none⟩ (.bool x.null)).setCell ⟨w.heap.size + 1, 2, none⟩ (.int .i64 x.n)).setCell ⟨w.heap.size + 1, 3, none⟩ (.string x.s)) gv x ⟨b.there, x, b.most⟩ := by
  have h1 := heap_setCell_same W (w.heap.size + 1) 1 _ _ (.bool x.null) h.box
  have h2 := heap_setCell_same _ (w.heap.size + 1) 2 _ _ (.int .i64 x.n) h1
  have h3 := heap_setCell_same _ (w.heap.size + 1) 3 _ _ (.string x.s) h2
  have hs := h.bel.size
  have hf := h.far
  refine ⟨h3, ?_, ?_, h.far, ?_⟩
  · rw [heap_setCell_other _ _ _ _ (by simp), heap_setCell_other _ _ _ _ (by simp), heap_setCell_other _ _ _ _ (by simp)]; exact h.res
  · rw [heap_setCell_other _ _ _ _ (by simp; omega), heap_setCell_other _ _ _ _ (by simp; omega), heap_setCell_other _ _ _ _ (by simp; omega)]; exact h.one
  · exact below_set (below_set (below_set h.bel hs (by omega) _ _) (by simpa using hs) (by omega) _ _) (by simpa using hs) (by omega) _ _
theorem BSt.most {w W : World} {gv : Nat} {x : Val} {b : Bnd} (h : BSt w W gv x b) :
    BSt w (((W.setCell ⟨w.heap.size + 1, 4, none⟩ (.bool x.null)).setCell ⟨w.heap.size + 1, 5, none⟩ (.int .i64 x.n)).setCell ⟨w.heap.size + 1, 6, none⟩ (.string x.s)) gv x ⟨b.there, b.least, x⟩ := by
  have h1 := heap_setCell_same W (w.heap.size + 1) 4 _ _ (.bool x.null) h.box
  have h2 := heap_setCell_same _ (w.heap.size + 1) 5 _ _ (.int .i64 x.n) h1
  have h3 := heap_setCell_same _ (w.heap.size + 1) 6 _ _ (.string x.s) h2
  have hs := h.bel.size
  have hf := h.far
  refine ⟨h3, ?_, ?_, h.far, ?_⟩
  · rw [heap_setCell_other _ _ _ _ (by simp), heap_setCell_other _ _ _ _ (by simp), heap_setCell_other _ _ _ _ (by simp)]; exact h.res
  · rw [heap_setCell_other _ _ _ _ (by simp; omega), heap_setCell_other _ _ _ _ (by simp; omega), heap_setCell_other _ _ _ _ (by simp; omega)]; exact h.one
  · exact below_set (below_set (below_set h.bel hs (by omega) _ _) (by simpa using hs) (by omega) _ _) (by simpa using hs) (by omega) _ _
theorem BSt.set {w W : World} {gv : Nat} {x : Val} {b : Bnd} (h : BSt w W gv x b) : BSt w (W.setCell ⟨w.heap.size + 1, 0, none⟩ (.bool true)) gv x ⟨true, b.least, b.most⟩ := by
  have h1 := heap_setCell_same W (w.heap.size + 1) 0 _ _ (.bool true) h.box
  have hs := h.bel.size
  have hf := h.far
  refine ⟨h1, ?_, ?_, h.far, ?_⟩
  · rw [heap_setCell_other _ _ _ _ (by simp)]; exact h.res
  · rw [heap_setCell_other _ _ _ _ (by simp; omega)]; exact h.one
  · exact below_set h.bel hs (by omega) _ _

theorem val_cells {w : World} {g : Nat} {a b c : Value} {t : TypeId} (h : w.heap[g]? = some (.cells #[a, b, c] t (0, 0))) :
    w.cell? ⟨g, 0, none⟩ = some a ∧ w.cell? ⟨g, 1, none⟩ = some b ∧ w.cell? ⟨g, 2, none⟩ = some c := by
  refine ⟨?_, ?_, ?_⟩ <;> simp [World.cell?, h]
end Go.Proofs.Ytjidbonhhpkljaa.Ec

/- May columns be: both sides. -/
set_option linter.unusedVariables false
namespace Go.Proofs.Ytjidbonhhpkljaa.Ec
open Go.RowKit Go.Proofs.Ytjidbonhhpkljaa.Pk
theorem good_step {l : List Col} {j : Nat} (hA : ∀ i, i < j → GoodAt l i) (hj : GoodAt l j) : ∀ i, i < j + 1 → GoodAt l i := by
  intro i hi
  by_cases e : i = j
  · rw [e]; exact hj
  · exact hA i (by omega)
theorem cols_all {l : List Col} {j : Nat} (h0 : 1 ≤ l.length) (h8 : l.length ≤ 8) (hA : ∀ i, i < j → GoodAt l i) (hj : ¬ j < l.length) : ColsOk l :=
  ⟨h0, h8, fun i h => hA i (by omega) h⟩

set_option maxRecDepth 100000 in
set_option maxHeartbeats 4000000 in
theorem areColumns_any (l : List Col) (cv : Value) (w : World) (hm : l.length ≤ maxLen) (hcs : CSl w cv l) :
    Calls Try.prog 89 #[cv] w fun e w' => ∃ bb, e = .returned (.bool bb) ∧ (bb = true ↔ ColsOk l) ∧ Below w.heap.size w w' := by
  obtain ⟨ao, b, off, cap, rfl, hcap, hr⟩ := hcs
  unfold maxLen at hm
  by_cases h0 : 1 ≤ l.length ∧ l.length ≤ 8
  · obtain ⟨h0, h8⟩ := h0
    have HR : Hid (CRow w ao b off l) := hr
    obtain rfl := hr.addr (by omega)
    clear hr
    have d1 : decide ((l.length : Int) < 1) = false := by simp; omega
    have d2 : decide (8 < (l.length : Int)) = false := by simp; omega
    go_enter Try.func89, Try.ntmps89
    go_wp2_with fail
    go_loopw [15] (fun i wr => ∃ j : Nat, j ≤ l.length ∧ i = .int .i64 j ∧ (∀ i, i < j → GoodAt l i) ∧ Below w.heap.size w wr) (fun i _ => l.length - (intOf i).toNat)
    case atStart => exact ⟨0, Nat.zero_le _, rfl, fun t h => by omega, Below.refl _ _⟩
    case round =>
      obtain ⟨j, hj, rfl, hall, hbel⟩ := hrel
      have HA : Hid (∀ i, i < j → GoodAt l i) := hall
      have HB : Hid (Below w.heap.size w wr) := hbel
      have hsz := hbel.size
      clear hall
      by_cases hlt : j < l.length
      · have hr := HR.out.below hbel
        have p0 := hr.c0 j hlt
        have p1 := hr.c1 j hlt
        have HN : Hid (∀ W, Below wr.heap.size wr W → ∀ cp, Calls Try.prog 121 #[.slice (some ⟨b, off, none⟩) j cp, .string l[j].name] W fun e w' => ∃ bb, e = .returned (.bool bb) ∧ (bb = true ↔ ∃ k, ∃ h : k < j, l[k].name = l[j].name) ∧ Below W.heap.size W w') := fun W hW cp => by
          have := hasName_any (l.take j) l[j].name (some ⟨b, off, none⟩) b off cp W (by simp; unfold maxLen; omega) ((hr.below hW).take j)
          have e1 : (l.take j).length = j := by simp; omega
          have hq : Value.slice (some ⟨b, off, none⟩) j cp = .slice (some ⟨b, off, none⟩) (l.take j).length cp := by rw [e1]
          rw [hq]
          refine this.mono ?_
          rintro e w' ⟨bb, rfl, hbb, hb⟩
          refine ⟨bb, rfl, hbb.trans ?_, hb⟩
          constructor
          · rintro ⟨k, h, e⟩
            rw [List.getElem_take] at e
            exact ⟨k, by simp at h; omega, e⟩
          · rintro ⟨k, h, e⟩
            refine ⟨k, by simp; omega, ?_⟩
            rw [List.getElem_take]
            exact e
        have HC := fun W => isColumn_any l[j] W
        have HX : Hid (colOk l[j] = false → ¬ ColsOk l) := fun h hc => by
          have := (hc.2.2 j hlt).1
          rw [h] at this; cases this
        have HX2 : Hid ((∃ k, ∃ h : k < j, l[k].name = l[j].name) → ¬ ColsOk l) := by
          rintro ⟨k, h, e⟩ hc
          exact (hc.2.2 j hlt).2 k h e
        have HY : Hid (colOk l[j] = true → (¬ ∃ k, ∃ h : k < j, l[k].name = l[j].name) → ∀ i, i < j + 1 → GoodAt l i) := fun h1 h2 => good_step HA.out (fun _ => ⟨h1, fun k hk e => h2 ⟨k, hk, e⟩⟩)
        clear hr hbel HA HR
        have HNP : Hid (∀ P : Prop, P = (∃ k, ∃ h : k < j, l[k].name = l[j].name) → True) := fun _ _ => trivial
        clear HNP
        generalize hP : (∃ k, ∃ h : k < j, l[k].name = l[j].name) = P at *
        clear hP
        generalize l[j] = x at *
        go_upto_region 6 with fail
        have q := two_cells wr (.string x.name) (.int .i64 x.kind) 104
        have hg : wr.heap.size < (wr.alloc (.cells #[.string x.name, .int .i64 x.kind] 104)).heap.size := by simp
        have hb0 : Below wr.heap.size wr (wr.alloc (.cells #[.string x.name, .int .i64 x.kind] 104)) := (Below.refl _ _).alloc (Nat.le_refl _) _
        generalize wr.alloc (.cells #[.string x.name, .int .i64 x.kind] 104) = W0 at *
        generalize hgw : wr.heap.size = g at *
        have HGW : Hid (wr.heap.size = g) := hgw
        clear hgw
        obtain ⟨q0, q1⟩ := q
        go_cut [30] from 16 to 31 (fun v30 wx => ∃ bb, v30 = .bool bb ∧ (bb = false → ∀ i, i < j + 1 → GoodAt l i) ∧ (bb = true → ¬ ColsOk l) ∧ Below g wr wx)
        case first =>
          cases hc : colOk x
          · have HX3 : Hid (¬ ColsOk l) := HX.out hc
            rw [hc] at HC
            clear HX HX2 HY hc HN
            first
              | go_region_with (go_at_call 120; refine (HC _).mono ?_; rintro e w1 ⟨rfl, hb1⟩)
              | fail
            all_goals
              have hb2 : Below W0.heap.size W0 w1 := ((Below.refl W0.heap.size W0).drew).trans hb1
              have HBX : Hid (Below g wr w1) := hb0.trans (hb2.mono (Nat.le_of_lt hg))
              clear hb1 hb2
              go_wp2_with fail
              go_meet
              exact ⟨true, rfl, (fun h => by cases h), fun _ => HX3.out, HBX.out⟩
          · have HY2 : Hid (¬ P → ∀ i, i < j + 1 → GoodAt l i) := HY.out hc
            rw [hc] at HC
            have c0 : (0 : Int) ≤ (j : Int) := by omega
            have c1 : (j : Int) ≤ (cap : Int) := by omega
            have c2 : j ≤ cap := by omega
            clear HX HY hc
            first
              | go_region_with (first
                  | (go_at_call 120; refine (HC _).mono ?_; rintro e w1 ⟨rfl, hb1⟩; have hb2 : Below W0.heap.size W0 w1 := ((Below.refl W0.heap.size W0).drew).trans hb1; have hbx : Below g wr w1 := hb0.trans (hb2.mono (Nat.le_of_lt hg)); have qn := (hb2.cell (p := ⟨g, 0, none⟩) hg).trans q0; clear hb1 hb2)
                  | (go_at_call 121; refine (HN.out _ hbx _).mono ?_; rintro e w2 ⟨bb, rfl, hbb, hb3⟩))
              | fail
            all_goals
              have HBX : Hid (Below g wr w2) := hbx.trans (hb3.mono (by have := hbx.size; rw [HGW.out] at this; exact this))
              have HBB : Hid (bb = true ↔ P) := hbb
              clear hb3 hbb hbx
              go_wp2_with fail
              go_meet
              refine ⟨bb, rfl, fun h => HY2.out (fun hp => ?_), fun h => HX2.out (HBB.out.1 h), HBX.out⟩
              rw [HBB.out.2 hp] at h
              cases h
        case rest =>
          rename World => wx
          obtain ⟨bb, rfl, hgood, hbad, hbx⟩ := hcut
          have HBX : Hid (Below w.heap.size w wx) := HB.out.trans (hbx.mono hsz)
          cases bb
          · have HG : Hid (∀ i, i < j + 1 → GoodAt l i) := hgood rfl
            clear hgood hbad hbx HX HX2 HY HN HC
            go_wp2
            go_roundw
            case rel => exact ⟨j + 1, by omega, by go_num, HG.out, HBX.out⟩
            case measure => simp [intOf]; omega
          · have HX3 : Hid (¬ ColsOk l) := hbad rfl
            clear hgood hbad hbx HX HX2 HY HN HC
            go_wp2
            go_ret
            exact ⟨false, rfl, by simp only [Bool.false_eq_true, false_iff]; exact HX3.out, HBX.out⟩
      · have HP : Hid (ColsOk l) := cols_all h0 h8 HA.out hlt
        clear HA hbel
        go_wp2
        go_ret
        exact ⟨true, rfl, by simp only [true_iff]; exact HP.out, HB.out⟩
  · have hN : ¬ ColsOk l := fun h => h0 ⟨h.1, h.2.1⟩
    have HN : Hid (¬ ColsOk l) := hN
    clear hr hN
    by_cases hz : l.length < 1
    · have d1 : decide ((l.length : Int) < 1) = true := by simp; omega
      go_enter Try.func89, Try.ntmps89
      go_wp2
      all_goals go_ret
      all_goals exact ⟨false, rfl, by simp only [Bool.false_eq_true, false_iff]; exact HN.out, Below.refl _ _⟩
    · have d1 : decide ((l.length : Int) < 1) = false := by simp; omega
      have d2 : decide (8 < (l.length : Int)) = true := by simp; omega
      go_enter Try.func89, Try.ntmps89
      go_wp2
      all_goals go_ret
      all_goals exact ⟨false, rfl, by simp only [Bool.false_eq_true, false_iff]; exact HN.out, Below.refl _ _⟩
end Go.Proofs.Ytjidbonhhpkljaa.Ec

/- May a row be: the program's side. -/
set_option linter.unusedVariables false
namespace Go.Proofs.Ytjidbonhhpkljaa.Ec
open Go.RowKit Go.Proofs.Ytjidbonhhpkljaa.Pk
/-- May a row be, of columns? -/
def RowOk (row : List Val) (cs : List Col) : Prop := row.length = cs.length ∧ ∀ i, (h1 : i < row.length) → (h2 : i < cs.length) → mayB row[i] cs[i].kind = true

end Go.Proofs.Ytjidbonhhpkljaa.Ec

/- May a table be: the program's side. -/
set_option linter.unusedVariables false
namespace Go.Proofs.Ytjidbonhhpkljaa.Ec
open Go.RowKit Go.Proofs.Ytjidbonhhpkljaa.Pk
/-- A slice of rows, as a walk wants it. -/
structure RRow (w : World) (ao : Option Addr) (b off : Nat) (l : List (List Val)) : Prop where
  addr : 0 < l.length → ao = some ⟨b, off, none⟩
  lt : 0 < l.length → b < w.heap.size
  c : ∀ j (h : j < l.length), ∃ v, w.cell? ⟨b, off + j, none⟩ = some v ∧ VSl w v l[j]
theorem RRow.below {w w' : World} {ao : Option Addr} {b off : Nat} {l : List (List Val)} (h : RRow w ao b off l) (hb : Below w.heap.size w w') : RRow w' ao b off l :=
  ⟨h.addr, fun h0 => Nat.lt_of_lt_of_le (h.lt h0) hb.size, fun j hj => by
    obtain ⟨v, h1, h2⟩ := h.c j hj
    exact ⟨v, (hb.cell (p := ⟨b, off + j, none⟩) (h.lt (by omega))).trans h1, h2.below hb⟩⟩
/-- A slice of rows. -/
def RSl (w : World) (v : Value) (l : List (List Val)) : Prop := ∃ ao b off cap, v = .slice ao l.length cap ∧ l.length ≤ cap ∧ RRow w ao b off l
theorem RSl.below {w w' : World} {v : Value} {l : List (List Val)} (h : RSl w v l) (hb : Below w.heap.size w w') : RSl w' v l := by
  obtain ⟨ao, b, off, cap, rfl, hc, h⟩ := h
  exact ⟨ao, b, off, cap, rfl, hc, h.below hb⟩

/-- May a table be? -/
def TableOk (cs : List Col) (rows : List (List Val)) : Prop := ColsOk cs ∧ rows.length ≤ 2000 ∧ ∀ i, (h : i < rows.length) → RowOk rows[i] cs

end Go.Proofs.Ytjidbonhhpkljaa.Ec

/- The values of a column: the program's side. -/
set_option linter.unusedVariables false
namespace Go.Proofs.Ytjidbonhhpkljaa.Ec
open Go.RowKit Go.Proofs.Ytjidbonhhpkljaa.Pk Go.Proofs.Ytjidbonhhpkljaa.Pm
/-- The values of a column, by its place. -/
def colVals (rows : List (List Val)) (pl : Nat) : List Val := rows.map fun r => r.getD pl ⟨false, 0, ⟨#[]⟩⟩

end Go.Proofs.Ytjidbonhhpkljaa.Ec
