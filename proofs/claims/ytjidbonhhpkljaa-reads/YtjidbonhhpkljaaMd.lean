/- What the proof stands on: RdBounds, RdClone, RdTake, RdSeq, RdColsP, WrLessR, WrPart. -/
import Derived.Test.YtjidbonhhpkljaaMc
import Derived.Deep.CutRange

/- The bounds in a footer, read: the contract of readBounds. -/
set_option linter.unusedVariables false
namespace Go.Proofs.Ytjidbonhhpkljaa.Ec
open Go.RowKit Go.Proofs.Ytjidbonhhpkljaa.Pk Go.Proofs.Ytjidbonhhpkljaa.Pm
/-- May bounds be, of a kind? -/
def BOk (k : Int) (b : Bnd) : Prop := b = noBnd ∨ (b.there = true ∧ VK k b.least ∧ VK k b.most ∧ ¬ 0 < vcmp b.least b.most)
def bcells (b : Bnd) : Array Value := #[.bool b.there, .bool b.least.null, .int .i64 b.least.n, .string b.least.s, .bool b.most.null, .int .i64 b.most.n, .string b.most.s]
theorem Kp.puts {r g : Nat} {w : World} (hg : w.heap.size ≤ g) : ∀ (vs : List Value) (o : Nat) (w1 : World), Kp r w w1 → Kp r w (w1.setCells g o vs)
  | [], _, _, h => h
  | v :: t, o, w1, h => Kp.puts hg t (o + 1) _ (h.grown (box_set_grown w1 g o v) (fun g' e => by cases e; exact hg))
theorem seven_of {w : World} {g : Nat} {b : Bnd} {t : TypeId} (h : w.heap[g]? = some (.cells (bcells b) t (0, 0))) : (w.cell? ⟨g, 0, none⟩ = some (.bool b.there) ∧ w.cell? ⟨g, 1, none⟩ = some (.bool b.least.null) ∧ w.cell? ⟨g, 2, none⟩ = some (.int .i64 b.least.n) ∧ w.cell? ⟨g, 3, none⟩ = some (.string b.least.s) ∧ w.cell? ⟨g, 4, none⟩ = some (.bool b.most.null) ∧ w.cell? ⟨g, 5, none⟩ = some (.int .i64 b.most.n) ∧ w.cell? ⟨g, 6, none⟩ = some (.string b.most.s)) ∧ ∀ j, w.frozen? ⟨g, j, none⟩ = false := by
  unfold bcells at h
  refine ⟨⟨?_, ?_, ?_, ?_, ?_, ?_, ?_⟩, fun j => by simp [World.frozen?, h]⟩ <;> simp [World.cell?, h]
def BRead (w : World) (r p : Nat) (s : ByteArray) (k : Int) (e : Ending) (w' : World) : Prop :=
  Kp r w w' ∧ ((∃ b : Bnd, e = .returned (bval b) ∧ BOk k b ∧ Starts (bytesOf s) p (boundB k b) ∧ p + (boundB k b).length ≤ s.size ∧ w'.heap[r]? = some (rdr s (p + (boundB k b).length))) ∨
      (∃ q, e = .panicked (badAt q) ∧ ∀ b : Bnd, BOk k b → ¬ Starts (bytesOf s) p (boundB k b)))

set_option maxRecDepth 100000 in
set_option maxHeartbeats 8000000 in
theorem readBounds_any (k : Int) (hk : k = 1 ∨ k = 2 ∨ k = 3) (r p : Nat) (s : ByteArray) (w : World) (hm : s.size ≤ maxLen) (hp : p ≤ s.size) (h : w.heap[r]? = some (rdr s p)) :
    Calls Try.prog 148 #[.pointer (some ⟨r, 0, none⟩), .int .i64 k] w (BRead w r p s k) := by
  have hrl : r < w.heap.size := lt_of_block h
  have HR0 : Hid ((w.alloc (.cells (bcells noBnd) 154)).heap[r]? = some (rdr s p)) := by
    show _ = _
    rw [Below.heap_alloc _ _ r hrl]; exact h
  have HKA : Hid (Kp r w (w.alloc (.cells (bcells noBnd) 154))) := (Kp.refl r w).alloc _
  have HLEN : Hid (∀ p, p ≤ s.size → ∀ xs, Starts (bytesOf s) p xs → p + xs.length ≤ s.size) := fun p hp xs hs => by have := starts_len hs (by rw [bytesOf_length]; exact hp); rwa [bytesOf_length] at this
  clear h
  go_enter Try.func148, Try.ntmps148
  go_wp2_with fail
  refine (bit_any r p s _ hm hp HR0.out).mono ?_
  rintro e w1 ⟨hK1, ⟨n, rfl, hb, hs1, hR1, hl1⟩ | ⟨q, rfl, hno⟩⟩
  rotate_left
  · have HNO : Hid (∀ b : Bnd, BOk k b → ¬ Starts (bytesOf s) p (boundB k b)) := fun b hb hs => by
      rcases hb with rfl | ⟨ht, -⟩
      · exact hno 0 (.inl rfl) hs
      · unfold boundB at hs
        rw [if_pos ht] at hs
        exact hno 1 (.inr rfl) (starts_append.1 hs).1
    have HK1 : Hid (Kp r w w1) := HKA.out.trans hK1
    clear hno hK1
    go_wp2
    exact ⟨rfl, HK1.out, .inr ⟨q, rfl, HNO.out⟩⟩
  · have HK1 : Hid (Kp r w w1) := HKA.out.trans hK1
    have HBX : Hid (w1.heap[w.heap.size]? = some (.cells (bcells noBnd) 154 (0, 0))) := Kp.block hK1 (heap_alloc_new w _) (by omega)
    have HR1 : Hid (w1.heap[r]? = some (rdr s (p + 1))) := hR1
    have HS1 : Hid (Starts (bytesOf s) p [n.toNat]) := hs1
    clear hs1 hR1 hK1 HR0 HKA
    rcases hb with rfl | rfl
    · have HX1 : Hid (w1.there w.heap.size 0 (bcells noBnd).size) := row_there HBX.out
      have HX2 : Hid ((w1.setCells w.heap.size 0 (bcells noBnd).toList).rangeAt w.heap.size 0 (bcells noBnd).toList) := World.rangeAt_setCells_same _ _ _ _ HX1.out
      obtain ⟨⟨c0, c1, c2, c3, c4, c5, c6⟩, cf⟩ := seven_of HBX.out
      have f0 := cf 0
      have f1 := cf 1
      have f2 := cf 2
      have f3 := cf 3
      have f4 := cf 4
      have f5 := cf 5
      have f6 := cf 6
      have HFIN : Hid (BRead w r p s k (.returned (.agg (bcells noBnd).toList.toArray)) (w1.setCells w.heap.size 0 (bcells noBnd).toList)) := ⟨Kp.puts (Nat.le_refl _) _ _ _ HK1.out, .inl ⟨noBnd, rfl, .inl rfl, HS1.out, hl1, (block_setCells (by omega) _ _ _).trans HR1.out⟩⟩
      go_wp2
      exact post_cell Try.results148 rfl rfl HX2.out Try.underlying154 rfl (by kernel_rfl) HFIN.out
    · have HS1' : Hid (Starts (bytesOf s) p [1]) := HS1.out
      clear HS1
      go_upto_region 3 with fail
      have HP1 : Hid (∀ W, W.heap[r]? = some (rdr s (p + 1)) → Calls Try.prog 142 #[.pointer (some ⟨r, 0, none⟩), .int .i64 k] W fun e w' => Kp r W w' ∧ ((∃ v : Val, e = .returned (.agg #[.bool v.null, .int .i64 v.n, .string v.s]) ∧ VK k v ∧ Starts (bytesOf s) (p + 1) (plainB k v) ∧ p + 1 + (plainB k v).length ≤ s.size ∧ w'.heap[r]? = some (rdr s (p + 1 + (plainB k v).length))) ∨ (∃ q, e = .panicked (badAt q) ∧ ∀ v : Val, VK k v → ¬ Starts (bytesOf s) (p + 1) (plainB k v)))) := fun W hW => readPlain1_any k hk r (p + 1) s W hm hl1 hW
      go_wp2_with fail
      refine (HP1.out _ HR1.out).mono ?_
      rintro e w2 ⟨hK2, ⟨x, rfl, hx, hs2, hl2, hR2⟩ | ⟨q, rfl, hno⟩⟩
      rotate_left
      · have HNO : Hid (∀ b : Bnd, BOk k b → ¬ Starts (bytesOf s) p (boundB k b)) := fun b hb hs => by
          rcases hb with rfl | ⟨ht, h1, -⟩
          · have := starts_same HS1'.out (show Starts (bytesOf s) p [0] from hs) rfl
            simp at this
          · unfold boundB at hs
            rw [if_pos ht] at hs
            exact hno _ h1 (starts_append.1 (starts_append.1 hs).2).1
        have HK2 : Hid (Kp r w w2) := HK1.out.trans hK2
        clear hno hK2
        go_wp2
        exact ⟨rfl, HK2.out, .inr ⟨q, rfl, HNO.out⟩⟩
      · have HX : Hid (VK k x) := hx
        have HS2 : Hid (Starts (bytesOf s) (p + 1) (plainB k x)) := hs2
        obtain ⟨p2, hp2⟩ : ∃ p2, p2 = p + 1 + (plainB k x).length := ⟨_, rfl⟩
        have HP2 : Hid (p2 = p + 1 + (plainB k x).length) := hp2
        rw [← hp2] at hl2 hR2
        have HK2 : Hid (Kp r w w2) := HK1.out.trans hK2
        have HBX2 : Hid (w2.heap[w.heap.size]? = some (.cells (bcells noBnd) 154 (0, 0))) := Kp.block hK2 HBX.out (by omega)
        have hsz2 : w.heap.size < w2.heap.size := lt_of_block HBX2.out
        have HRA : Hid ((w2.alloc (.cells #[.bool x.null, .int .i64 x.n, .string x.s] 39)).heap[r]? = some (rdr s p2)) := by
          show _ = _
          rw [Below.heap_alloc _ _ r (by omega)]; exact hR2
        have HPY : Hid (∀ W, W.heap[r]? = some (rdr s p2) → Calls Try.prog 142 #[.pointer (some ⟨r, 0, none⟩), .int .i64 k] W fun e w' => Kp r W w' ∧ ((∃ v : Val, e = .returned (.agg #[.bool v.null, .int .i64 v.n, .string v.s]) ∧ VK k v ∧ Starts (bytesOf s) p2 (plainB k v) ∧ p2 + (plainB k v).length ≤ s.size ∧ w'.heap[r]? = some (rdr s (p2 + (plainB k v).length))) ∨ (∃ q, e = .panicked (badAt q) ∧ ∀ v : Val, VK k v → ¬ Starts (bytesOf s) p2 (plainB k v)))) := fun W hW => readPlain1_any k hk r p2 s W hm hl2 hW
        clear hx hs2 hp2 hK2 hR2 HP1 HR1 HBX HK1
        go_upto_region 4 with fail
        go_wp2_with fail
        refine (HPY.out _ HRA.out).mono ?_
        rintro e w3 ⟨hK3, ⟨y, rfl, hy, hs3, hl3, hR3⟩ | ⟨q, rfl, hno⟩⟩
        rotate_left
        · have HNO : Hid (∀ b : Bnd, BOk k b → ¬ Starts (bytesOf s) p (boundB k b)) := fun b hb hs => by
            rcases hb with rfl | ⟨ht, h1, h2, -⟩
            · have := starts_same HS1'.out (show Starts (bytesOf s) p [0] from hs) rfl
              simp at this
            · unfold boundB at hs
              rw [if_pos ht] at hs
              obtain ⟨ha, hb⟩ := starts_append.1 (starts_append.1 hs).2
              have := plain_one hk h1 HX.out ha HS2.out
              rw [this] at hb
              refine hno _ h2 ?_
              rw [HP2.out]
              exact hb
          have HK3 : Hid (Kp r w w3) := (HK2.out.alloc _).trans hK3
          clear hno hK3
          go_wp2
          exact ⟨rfl, HK3.out, .inr ⟨q, rfl, HNO.out⟩⟩
        · have HY : Hid (VK k y) := hy
          have HS3 : Hid (Starts (bytesOf s) p2 (plainB k y)) := hs3
          have HR3 : Hid (w3.heap[r]? = some (rdr s (p2 + (plainB k y).length))) := hR3
          have HK3 : Hid (Kp r w w3) := (HK2.out.alloc _).trans hK3
          have HBX3 : Hid (w3.heap[w.heap.size]? = some (.cells (bcells noBnd) 154 (0, 0))) := Kp.block hK3 (alloc_old _ (by omega) HBX2.out) (by omega)
          have HXB : Hid (w3.heap[w2.heap.size]? = some (.cells #[.bool x.null, .int .i64 x.n, .string x.s] 39 (0, 0))) := Kp.block hK3 (alloc_at w2 _) (by omega)
          have HUNI : Hid (∀ b : Bnd, BOk k b → Starts (bytesOf s) p (boundB k b) → b = ⟨true, x, y⟩) := fun b hb hs => by
            rcases hb with rfl | ⟨ht, h1, h2, -⟩
            · have := starts_same HS1'.out (show Starts (bytesOf s) p [0] from hs) rfl
              simp at this
            · unfold boundB at hs
              rw [if_pos ht] at hs
              obtain ⟨ha, hb⟩ := starts_append.1 (starts_append.1 hs).2
              have e1 := plain_one hk h1 HX.out ha HS2.out
              rw [e1, show p + [1].length + (plainB k x).length = p2 from HP2.out.symm] at hb
              have e2 := plain_one hk h2 HY.out hb HS3.out
              obtain ⟨bt, bl, bm⟩ := b
              simp only at ht e1 e2
              subst ht e1 e2
              rfl
          have HSB : Hid (Starts (bytesOf s) p (boundB k ⟨true, x, y⟩)) := by
            show Starts _ _ ([1] ++ (plainB k x ++ plainB k y))
            refine starts_append.2 ⟨HS1'.out, starts_append.2 ⟨HS2.out, ?_⟩⟩
            rw [show p + [1].length + (plainB k x).length = p2 from HP2.out.symm]
            exact HS3.out
          have hsz3 : w2.heap.size < w3.heap.size := lt_of_block HXB.out
          have HCM : Hid (∀ W, Calls Try.prog 145 #[.agg #[.bool x.null, .int .i64 x.n, .string x.s], .agg #[.bool y.null, .int .i64 y.n, .string y.s]] W fun e w' => e = .returned (.int .i64 (vcmp x y)) ∧ Below W.heap.size W w') := fun W => compare_any x y W
          clear hy hs3 hR3 hK3 HPY HRA HK2 HBX2
          go_upto_region 5 with fail
          have HK4 : Hid (Kp r w (w3.alloc (.cells #[.bool y.null, .int .i64 y.n, .string y.s] 39))) := HK3.out.alloc _
          have HR4 : Hid ((w3.alloc (.cells #[.bool y.null, .int .i64 y.n, .string y.s] 39)).heap[r]? = some (rdr s (p2 + (plainB k y).length))) := alloc_old _ (by omega) HR3.out
          have HB4 : Hid ((w3.alloc (.cells #[.bool y.null, .int .i64 y.n, .string y.s] 39)).heap[w.heap.size]? = some (.cells (bcells noBnd) 154 (0, 0))) := alloc_old _ (by omega) HBX3.out
          have HX4 : Hid ((w3.alloc (.cells #[.bool y.null, .int .i64 y.n, .string y.s] 39)).heap[w2.heap.size]? = some (.cells #[.bool x.null, .int .i64 x.n, .string x.s] 39 (0, 0))) := alloc_old _ (by omega) HXB.out
          have HY4 : Hid ((w3.alloc (.cells #[.bool y.null, .int .i64 y.n, .string y.s] 39)).heap[w3.heap.size]? = some (.cells #[.bool y.null, .int .i64 y.n, .string y.s] 39 (0, 0))) := alloc_at w3 _
          clear HK3 HR3 HBX3 HXB
          generalize w3.alloc (.cells #[.bool y.null, .int .i64 y.n, .string y.s] 39) = w4 at *
          generalize w2.heap.size = gx at *
          generalize w3.heap.size = gy at *
          obtain ⟨x0, x1, x2⟩ := val_cells HX4.out
          obtain ⟨y0, y1, y2⟩ := val_cells HY4.out
          have HGU : Hid (∀ W, W.heap[r]? = some (rdr s (p2 + (plainB k y).length)) → Calls Try.prog 84 #[.pointer (some ⟨r, 0, none⟩)] W fun e w' => e = .panicked (badAt (p2 + (plainB k y).length)) ∧ Kp r W w') := fun W hW => (giveUp_any r _ s W hW).mono (fun e w' ⟨h1, h2⟩ => ⟨h1, by subst h2; exact Kp.refl r _⟩)
          obtain ⟨c, hc⟩ : ∃ c, c = vcmp x y := ⟨_, rfl⟩
          rw [← hc] at HCM
          have HC : Hid (c = vcmp x y) := hc
          clear hc
          by_cases hpos : 0 < c
          · go_upto_region 6 with (go_at_call 145; refine (HCM.out _).mono ?_; rintro e w5 ⟨rfl, hb5⟩; have HX5 : Hid (w5.heap[gx]? = some (.cells #[.bool x.null, .int .i64 x.n, .string x.s] 39 (0, 0))) := (hb5.block gx (lt_of_block HX4.out)).trans HX4.out; have HY5 : Hid (w5.heap[gy]? = some (.cells #[.bool y.null, .int .i64 y.n, .string y.s] 39 (0, 0))) := (hb5.block gy (lt_of_block HY4.out)).trans HY4.out; have HB5 : Hid (w5.heap[w.heap.size]? = some (.cells (bcells noBnd) 154 (0, 0))) := (hb5.block _ (lt_of_block HB4.out)).trans HB4.out; have HR5 : Hid (w5.heap[r]? = some (rdr s (p2 + (plainB k y).length))) := (hb5.block _ (lt_of_block HR4.out)).trans HR4.out; have HK5 : Hid (Kp r w w5) := HK4.out.trans (Kp.of_below hb5); clear x0 x1 x2 y0 y1 y2 hb5; obtain ⟨x0, x1, x2⟩ := val_cells HX5.out; obtain ⟨y0, y1, y2⟩ := val_cells HY5.out)
            go_wp2_with fail
            refine (HGU.out _ HR5.out).mono ?_
            rintro e w6 ⟨rfl, hK6⟩
            have HNO : Hid (∀ b : Bnd, BOk k b → ¬ Starts (bytesOf s) p (boundB k b)) := fun b hb hs => by
              have he := HUNI.out b hb hs
              subst he
              rcases hb with h0 | ⟨-, -, -, h3⟩
              · simp [noBnd] at h0
              · exact h3 (by rw [HC.out] at hpos; exact hpos)
            have HK6 : Hid (Kp r w w6) := HK5.out.trans hK6
            clear hK6 x0 x1 x2 y0 y1 y2
            go_wp2
            exact ⟨rfl, HK6.out, .inr ⟨_, rfl, HNO.out⟩⟩
          · go_upto_region 7 with (go_at_call 145; refine (HCM.out _).mono ?_; rintro e w5 ⟨rfl, hb5⟩; have HX5 : Hid (w5.heap[gx]? = some (.cells #[.bool x.null, .int .i64 x.n, .string x.s] 39 (0, 0))) := (hb5.block gx (lt_of_block HX4.out)).trans HX4.out; have HY5 : Hid (w5.heap[gy]? = some (.cells #[.bool y.null, .int .i64 y.n, .string y.s] 39 (0, 0))) := (hb5.block gy (lt_of_block HY4.out)).trans HY4.out; have HB5 : Hid (w5.heap[w.heap.size]? = some (.cells (bcells noBnd) 154 (0, 0))) := (hb5.block _ (lt_of_block HB4.out)).trans HB4.out; have HR5 : Hid (w5.heap[r]? = some (rdr s (p2 + (plainB k y).length))) := (hb5.block _ (lt_of_block HR4.out)).trans HR4.out; have HK5 : Hid (Kp r w w5) := HK4.out.trans (Kp.of_below hb5); clear x0 x1 x2 y0 y1 y2 hb5; obtain ⟨x0, x1, x2⟩ := val_cells HX5.out; obtain ⟨y0, y1, y2⟩ := val_cells HY5.out)
            obtain ⟨⟨c0, c1, c2, c3, c4, c5, c6⟩, cf⟩ := seven_of HB5.out
            have f0 := cf 0
            have f1 := cf 1
            have f2 := cf 2
            have f3 := cf 3
            have f4 := cf 4
            have f5 := cf 5
            have f6 := cf 6
            have HT : Hid (w5.there w.heap.size 0 (bcells ⟨true, x, y⟩).size) := (show w5.there w.heap.size 0 7 from row_there HB5.out)
            have HX2 : Hid ((w5.setCells w.heap.size 0 (bcells ⟨true, x, y⟩).toList).rangeAt w.heap.size 0 (bcells ⟨true, x, y⟩).toList) := World.rangeAt_setCells_same _ _ _ _ HT.out
            have HLB : Hid (p + (boundB k ⟨true, x, y⟩).length = p2 + (plainB k y).length) := by
              show p + ([1] ++ (plainB k x ++ plainB k y)).length = _
              have := HP2.out
              simp only [List.length_append, List.length_singleton]
              omega
            have HFIN : Hid (BRead w r p s k (.returned (.agg (bcells ⟨true, x, y⟩).toList.toArray)) (w5.setCells w.heap.size 0 (bcells ⟨true, x, y⟩).toList)) := ⟨Kp.puts (Nat.le_refl _) _ _ _ HK5.out, .inl ⟨⟨true, x, y⟩, rfl, .inr ⟨rfl, HX.out, HY.out, by rw [← HC.out]; omega⟩, HSB.out, by rw [HLB.out]; exact hl3, (block_setCells (by omega) _ _ _).trans (by rw [HLB.out]; exact HR5.out)⟩⟩
            clear HT
            go_wp2
            exact post_cell Try.results148 rfl rfl HX2.out Try.underlying154 rfl (by kernel_rfl) HFIN.out
end Go.Proofs.Ytjidbonhhpkljaa.Ec

/- Long texts, copied. -/
set_option linter.unusedVariables false
namespace Go.Proofs.Ytjidbonhhpkljaa.Ec
open Go.RowKit Go.Proofs.Ytjidbonhhpkljaa.Pk Go.Proofs.Ytjidbonhhpkljaa.Pm
set_option maxRecDepth 100000 in
set_option maxHeartbeats 2000000 in
/-- A long text, copied. -/
theorem scloneL_any (s : ByteArray) (w : World) (hs : s.size ≤ 65536) : Calls Try.prog 135 #[.string s] w fun e w' => e = .returned (.string s) ∧ Below w.heap.size w w' := by
  by_cases h0 : s.size = 0
  · obtain rfl : s = ⟨#[]⟩ := ByteArray.ext (Array.eq_empty_of_size_eq_zero h0)
    go_enter Try.func135, Try.ntmps135
    go_wp2
    go_ret
    exact ⟨rfl, Below.refl _ _⟩
  · obtain ⟨i0, hi, hz0, hz1, hz2⟩ := info_parts Try.info5
    have hone : (Try.prog.info? 5).map (·.size) = some 1 := by rw [hi]; simp [hz1]
    have hcell : Try.prog.cellsOf 5 = 1 := by simp [Program.cellsOf, hi, hz1]
    obtain ⟨M, hM⟩ : ∃ M, M = madeCells (Value.int .u8 0).cells (((s.size : Nat) : Int).toNat * i0.size) := ⟨_, rfl⟩
    have hMs : M.size = s.size := by rw [hM, size_madeCells, hz1]; simp
    have hmk : ∀ W : World, (Instr.makeSlice 44 (.int .i64 (s.size : Int)) (.int .i64 (s.size : Int))).run Try.prog W = .ok (.slice (some ⟨W.heap.size, 0, none⟩) s.size s.size) (W.alloc (.cells M 5)) := fun W => by
      have h := run_make (P := Try.prog) W 44 5 i0 (.int .u8 0) Try.underlying44 hi hz0 .i64 .i64 (s.size : Int) (s.size : Int) (by omega) (by omega) (by rw [hz2]; omega) (by omega)
      rw [← hM] at h
      simpa using h
    clear hM
    have hcp := Lib.run_copy_row_string (P := Try.prog) (w.alloc (.cells M 5)) 44 9 3 5 w.heap.size 0 s.size s.size s M 5 Try.underlying44 hone (heap_alloc_new w _) (Nat.le_refl _) (by omega)
    obtain ⟨Y, hY⟩ : ∃ Y, Y = (M.toList.take 0 ++ Lib.byteCells s.data.toList ++ M.toList.drop (0 + s.size)).toArray := ⟨_, rfl⟩
    rw [← hY] at hcp
    have hYl : Y.toList = Lib.byteCells s.data.toList := by
      rw [hY, List.toList_toArray, List.take_zero, List.nil_append, List.drop_of_length_le (by rw [Array.length_toList]; omega), List.append_nil]
    have hYs : Y.size = s.size := by rw [← Array.length_toList, hYl, Lib.byteCells_length, ← Lib.size_eq]
    have hgY : ((w.alloc (.cells M 5)).setRow w.heap.size Y).heap[w.heap.size]? = some (.cells Y 5 (0, 0)) := setRow_heap _ _ M _ 5 (0, 0) (heap_alloc_new w _)
    have hne : s.data.toList ≠ [] := fun e => h0 (by rw [Lib.size_eq, e]; rfl)
    have hUS := Lib.run_unsafeString_row (P := Try.prog) ((w.alloc (.cells M 5)).setRow w.heap.size Y) 205 3 9 5 Try.underlying205 hcell w.heap.size Y.size (by unfold World.shape?; rw [hgY]) s.data.toList hne (by rw [← Lib.size_eq]; omega) (by rw [← Lib.size_eq]; omega)
      (fun j x hx => Lib.cells_of_row hgY Y.size j _ (by rw [List.take_of_length_le (by rw [Array.length_toList]; exact Nat.le_refl _), hYl]; simp [Lib.byteCells, hx]))
    rw [← Lib.size_eq] at hUS
    clear hY
    go_enter Try.func135, Try.ntmps135
    go_wp2
    go_ret
    have hb1 : Below w.heap.size w (w.alloc (.cells M 5)) := (Below.refl _ w).alloc (Nat.le_refl _) _
    have hb2 : Below w.heap.size (w.alloc (.cells M 5)) ((w.alloc (.cells M 5)).setRow w.heap.size Y) := ⟨rfl, rfl, rfl, by simp, fun k hk => setRow_other _ _ _ _ (by omega)⟩
    exact ⟨rfl, Lib.below_freeze (hb1.trans hb2) (p := ⟨w.heap.size, 0, none⟩) (Nat.le_refl _) _⟩

set_option maxRecDepth 100000 in
set_option maxHeartbeats 1000000 in
theorem cloneL_any (s : ByteArray) (w : World) (hs : s.size ≤ 65536) : Calls Try.prog 101 #[.string s] w fun e w' => e = .returned (.string s) ∧ Below w.heap.size w w' := by
  go_enter Try.func101, Try.ntmps101
  go_wp2_with fail
  refine (scloneL_any s _ hs).mono ?_
  rintro e w' ⟨rfl, hb⟩
  go_wp2
  go_ret
  exact ⟨rfl, hb⟩

end Go.Proofs.Ytjidbonhhpkljaa.Ec

/- Bytes and texts taken by a reader: one contract each. -/
set_option linter.unusedVariables false
namespace Go.Proofs.Ytjidbonhhpkljaa.Ec
open Go.RowKit Go.Proofs.Ytjidbonhhpkljaa.Pk Go.Proofs.Ytjidbonhhpkljaa.Pm
theorem byteS_any (r p : Nat) (s : ByteArray) (w : World) (hm : s.size ≤ maxLen) (hp : p ≤ s.size) (h : w.heap[r]? = some (rdr s p)) :
    Calls Try.prog 83 #[.pointer (some ⟨r, 0, none⟩)] w fun e w' => Kp r w w' ∧ ((∃ b : Nat, e = .returned (.int .u8 (b : Int)) ∧ b < 256 ∧ Starts (bytesOf s) p [b] ∧ p + 1 ≤ s.size ∧ w'.heap[r]? = some (rdr s (p + 1))) ∨
      (∃ q, e = .panicked (badAt q) ∧ ∀ b : Nat, ¬ Starts (bytesOf s) p [b])) := by
  by_cases hin : p < s.size
  · refine (byte_ok r p s w hm hin h).mono ?_
    rintro e w' ⟨rfl, n, rfl⟩
    exact ⟨(Kp.refl r w).set 1 _ n, .inl ⟨_, rfl, s[p].toNat_lt, starts_one.2 (byte_at s p hin), hin, rdr_set h n⟩⟩
  · refine (byte_bad r p s w hm hin hp h).mono ?_
    rintro e w' ⟨rfl, n, rfl⟩
    refine ⟨(Kp.refl r w).drewN n, .inr ⟨_, rfl, fun b hb => ?_⟩⟩
    have := starts_len hb (by rw [bytesOf_length]; exact hp)
    rw [bytesOf_length] at this
    simp at this
    omega
theorem takeS_any (r p c : Nat) (s : ByteArray) (w : World) (hm : s.size ≤ maxLen) (hp : p ≤ s.size) (hc : c ≤ 2147483648) (h : w.heap[r]? = some (rdr s p)) :
    Calls Try.prog 119 #[.pointer (some ⟨r, 0, none⟩), .int .i64 (c : Int)] w fun e w' => Kp r w w' ∧ ((∃ x : ByteArray, e = .returned (.string x) ∧ x.size = c ∧ Starts (bytesOf s) p (bytesOf x) ∧ p + c ≤ s.size ∧ w'.heap[r]? = some (rdr s (p + c))) ∨
      (∃ q, e = .panicked (badAt q) ∧ ∀ xs : List Nat, xs.length = c → ¬ Starts (bytesOf s) p xs)) := by
  by_cases hin : p + c ≤ s.size
  · refine (takeN_ok r p c s w hm hin h).mono ?_
    rintro e w' ⟨rfl, n, rfl⟩
    refine ⟨(Kp.refl r w).set 1 _ n, .inl ⟨_, rfl, by rw [ByteArray.size_extract]; omega, ?_, hin, rdr_set h n⟩⟩
    rw [bytesOf_extract]
    exact List.take_prefix _ _
  · refine (takeN_bad r p c s w hm hc hin hp h).mono ?_
    rintro e w' ⟨rfl, n, rfl⟩
    refine ⟨(Kp.refl r w).drewN n, .inr ⟨_, rfl, fun xs hx hb => ?_⟩⟩
    have := starts_len hb (by rw [bytesOf_length]; exact hp)
    rw [bytesOf_length] at this
    omega
end Go.Proofs.Ytjidbonhhpkljaa.Ec

/- Two readers beside one another: lists that are read from two texts at once. -/
set_option linter.unusedVariables false
namespace Go.Proofs.Ytjidbonhhpkljaa.Ec
open Go.RowKit Go.Proofs.Ytjidbonhhpkljaa.Pk Go.Proofs.Ytjidbonhhpkljaa.Pm
theorem flatMap_congr2 {α β : Type} {f g : α → List β} {l : List α} (h : ∀ x ∈ l, f x = g x) : l.flatMap f = l.flatMap g := by
  induction l with
  | nil => rfl
  | cons x r ih => rw [List.flatMap_cons, List.flatMap_cons, h x (by simp), ih (fun y hy => h y (by simp [hy]))]
/-- Each of a list, by its place. -/
def AllI {α : Type} (ok : Nat → α → Prop) (l : List α) : Prop := ∀ i (h : i < l.length), ok i l[i]
theorem AllI.snoc {α : Type} {ok : Nat → α → Prop} {l : List α} {x : α} (h : AllI ok l) (hx : ok l.length x) : AllI ok (l ++ [x]) := by
  intro i hi
  rcases Nat.lt_or_ge i l.length with h1 | h1
  · rw [List.getElem_append_left h1]; exact h i h1
  · have : i = l.length := by simp at hi; omega
    subst this
    simpa using hx
theorem AllI.at {α : Type} {ok : Nat → α → Prop} {l r : List α} {x : α} (h : AllI ok (l ++ x :: r)) : ok l.length x := by
  have := h l.length (by simp)
  simpa using this
/-- So much of a list has been read from two texts. -/
structure Q2 {α : Type} (E G : List α → List Nat) (ok : Nat → α → Prop) (B : List Nat) (p : Nat) (C : List Nat) (q cn : Nat) (l : List α) : Prop where
  le : l.length ≤ cn
  oks : AllI ok l
  st : Starts B p (E l)
  sc : Starts C q (G l)
  uni : ∀ L : List α, L.length = cn → AllI ok L → Starts B p (E L) → Starts C q (G L) → ∃ m, L = l ++ m
theorem Q2.zero {α : Type} {E G : List α → List Nat} {ok : Nat → α → Prop} {B C : List Nat} {p q cn : Nat} (h0 : E [] = []) (h1 : G [] = []) : Q2 E G ok B p C q cn [] :=
  ⟨Nat.zero_le _, fun i hi => by simp at hi, by rw [h0]; exact starts_nil _ _, by rw [h1]; exact starts_nil _ _, fun L _ _ _ _ => ⟨L, rfl⟩⟩
theorem Q2.next {α : Type} {E G : List α → List Nat} {ok : Nat → α → Prop} {e g : List α → α → List Nat} {B C : List Nat} {p q cn : Nat} {l : List α} (h : Q2 E G ok B p C q cn l) (hE : ∀ l x, E (l ++ [x]) = E l ++ e l x) (hG : ∀ l x, G (l ++ [x]) = G l ++ g l x) (hlt : l.length < cn)
    (L : List α) (hL : L.length = cn) (hok : AllI ok L) (hs : Starts B p (E L)) (hc : Starts C q (G L)) : ∃ x m, L = (l ++ [x]) ++ m ∧ ok l.length x ∧ Starts B (p + (E l).length) (e l x) ∧ Starts C (q + (G l).length) (g l x) := by
  obtain ⟨m, rfl⟩ := h.uni L hL hok hs hc
  cases m with
  | nil => simp at hL; omega
  | cons x r =>
    obtain ⟨t, ht⟩ := snoc_pre hE (l ++ [x]) r
    obtain ⟨t', ht'⟩ := snoc_pre hG (l ++ [x]) r
    refine ⟨x, r, by simp, hok.at, ?_, ?_⟩
    · rw [show l ++ x :: r = l ++ [x] ++ r by simp, ht, hE, List.append_assoc, starts_append, starts_append] at hs
      exact hs.2.1
    · rw [show l ++ x :: r = l ++ [x] ++ r by simp, ht', hG, List.append_assoc, starts_append, starts_append] at hc
      exact hc.2.1
theorem Q2.more {α : Type} {E G : List α → List Nat} {ok : Nat → α → Prop} {e g : List α → α → List Nat} {B C : List Nat} {p q cn : Nat} {l : List α} (h : Q2 E G ok B p C q cn l) (hE : ∀ l x, E (l ++ [x]) = E l ++ e l x) (hG : ∀ l x, G (l ++ [x]) = G l ++ g l x) (hlt : l.length < cn)
    {x : α} (hx : ok l.length x) (hs : Starts B (p + (E l).length) (e l x)) (hc : Starts C (q + (G l).length) (g l x)) (hu : ∀ y, ok l.length y → Starts B (p + (E l).length) (e l y) → Starts C (q + (G l).length) (g l y) → y = x) : Q2 E G ok B p C q cn (l ++ [x]) := by
  refine ⟨by simp; omega, h.oks.snoc hx, by rw [hE, starts_append]; exact ⟨h.st, hs⟩, by rw [hG, starts_append]; exact ⟨h.sc, hc⟩, ?_⟩
  intro L hL hok hsL hcL
  obtain ⟨y, m, h1, h2, h3, h4⟩ := h.next hE hG hlt L hL hok hsL hcL
  rw [hu y h2 h3 h4] at h1
  exact ⟨m, h1⟩
theorem Q2.fail {α : Type} {E G : List α → List Nat} {ok : Nat → α → Prop} {e g : List α → α → List Nat} {B C : List Nat} {p q cn : Nat} {l : List α} (h : Q2 E G ok B p C q cn l) (hE : ∀ l x, E (l ++ [x]) = E l ++ e l x) (hG : ∀ l x, G (l ++ [x]) = G l ++ g l x) (hlt : l.length < cn)
    (hu : ∀ y, ok l.length y → Starts B (p + (E l).length) (e l y) → ¬ Starts C (q + (G l).length) (g l y)) (L : List α) (hL : L.length = cn) (hok : AllI ok L) (hs : Starts B p (E L)) : ¬ Starts C q (G L) := by
  intro hc
  obtain ⟨y, m, h1, h2, h3, h4⟩ := h.next hE hG hlt L hL hok hs hc
  exact hu y h2 h3 h4
theorem Q2.done {α : Type} {E G : List α → List Nat} {ok : Nat → α → Prop} {B C : List Nat} {p q cn : Nat} {l : List α} (h : Q2 E G ok B p C q cn l) (hl : ¬ l.length < cn) :
    l.length = cn ∧ (∀ L : List α, L.length = cn → AllI ok L → Starts B p (E L) → Starts C q (G L) → L = l) := by
  have hlen : l.length = cn := by have := h.le; omega
  refine ⟨hlen, ?_⟩
  intro L hL hb hs hc
  obtain ⟨m, rfl⟩ := h.uni L hL hb hs hc
  rw [List.length_append] at hL
  have : m = [] := List.length_eq_zero_iff.1 (by omega)
  rw [this]; simp

/-- But for two readers' blocks all that was there has stayed. -/
structure Kp2 (r q : Nat) (w w' : World) : Prop where
  os : w'.os = w.os
  tape : w'.tape = w.tape
  output : w'.output = w.output
  size : w.heap.size ≤ w'.heap.size
  block : ∀ i, i < w.heap.size → i ≠ r → i ≠ q → w'.heap[i]? = w.heap[i]?
theorem Kp2.refl (r q : Nat) (w : World) : Kp2 r q w w := ⟨rfl, rfl, rfl, Nat.le_refl _, fun _ _ _ _ => rfl⟩
theorem Kp2.trans {r q : Nat} {w w1 w2 : World} (h : Kp2 r q w w1) (k : Kp2 r q w1 w2) : Kp2 r q w w2 :=
  ⟨k.os.trans h.os, k.tape.trans h.tape, k.output.trans h.output, Nat.le_trans h.size k.size, fun i hi h1 h2 => (k.block i (Nat.lt_of_lt_of_le hi h.size) h1 h2).trans (h.block i hi h1 h2)⟩
theorem Kp2.of_left {r q : Nat} {w w1 : World} (h : Kp r w w1) : Kp2 r q w w1 := ⟨h.os, h.tape, h.output, h.size, fun i hi h1 _ => World.grownBy.block h i hi (fun e => h1 (by cases e; rfl))⟩
theorem Kp2.of_right {r q : Nat} {w w1 : World} (h : Kp q w w1) : Kp2 r q w w1 := ⟨h.os, h.tape, h.output, h.size, fun i hi _ h1 => World.grownBy.block h i hi (fun e => h1 (by cases e; rfl))⟩
theorem Kp2.of_below {r q : Nat} {w w1 : World} (h : Below w.heap.size w w1) : Kp2 r q w w1 := ⟨h.os, h.tape, h.output, h.size, fun i hi _ _ => h.block i hi⟩
theorem Kp2.alloc {r q : Nat} {w w1 : World} (h : Kp2 r q w w1) (o : Obj) : Kp2 r q w (w1.alloc o) := h.trans (Kp2.of_left (Kp.alloc (Kp.refl r w1) o))
theorem Kp2.grown {r q : Nat} {w w1 w2 : World} {row : Option Nat} (h : Kp2 r q w w1) (k : w1.grownBy w2 row) (hr : ∀ g, row = some g → w.heap.size ≤ g) : Kp2 r q w w2 :=
  ⟨k.os.trans h.os, k.tape.trans h.tape, k.output.trans h.output, Nat.le_trans h.size k.size, fun i hi h1 h2 => (k.block i (Nat.lt_of_lt_of_le hi h.size) (fun e => by have := hr i e.symm; omega)).trans (h.block i hi h1 h2)⟩
theorem Kp2.puts {r q g : Nat} {w : World} (hg : w.heap.size ≤ g) : ∀ (vs : List Value) (o : Nat) (w1 : World), Kp2 r q w w1 → Kp2 r q w (w1.setCells g o vs)
  | [], _, _, h => h
  | v :: t, o, w1, h => Kp2.puts hg t (o + 1) _ (h.grown (box_set_grown w1 g o v) (fun g' e => by cases e; exact hg))
theorem Kp2.keep {r q : Nat} {w w1 : World} (k : Kp2 r q w w1) {i : Nat} {o : Obj} (h : w.heap[i]? = some o) (h1 : i ≠ r) (h2 : i ≠ q) : w1.heap[i]? = some o := by
  rw [k.block i (lt_of_block h) h1 h2]; exact h
theorem Kp2.below {r q : Nat} {w w1 : World} (h : Kp2 r q w w1) {n : Nat} (hn : n ≤ w.heap.size) (hr : n ≤ r) (hq : n ≤ q) : Below n w w1 := ⟨h.os, h.tape, h.output, h.size, fun i hi => h.block i (by omega) (by omega) (by omega)⟩
theorem Kp2.own {r q : Nat} {w w1 : World} {base e size n : Nat} {v : Value} {xs : List Value} (k : Kp2 r q w w1) (h : w.ownsRow base e size v n xs) (hr : r < base) (hq : q < base) : w1.ownsRow base e size v n xs := by
  refine ⟨h.1, ?_⟩
  rcases h.2 with hn | ⟨g, cap, cur, rfl, hbg, hgb, hx⟩
  · exact .inl hn
  · refine .inr ⟨g, cap, cur, rfl, hbg, ?_, hx⟩
    rw [k.block g (lt_of_block hgb) (by omega) (by omega)]
    exact hgb

/-- The footer's words on a chunk, and on the chunks of a band. -/
def ckB (cs : List Col) (l : List Chk) (c : Chk) : List Nat := vint c.text.size ++ boundB (cs.getD l.length ⟨⟨#[]⟩, 0⟩).kind c.bnd
def cksB (cs : List Col) (l : List Chk) : List Nat := partsB cs l l.length
theorem cksB_snoc (cs : List Col) (l : List Chk) (c : Chk) : cksB cs (l ++ [c]) = cksB cs l ++ ckB cs l c := by
  unfold cksB
  rw [List.length_append, List.length_singleton, partsB_succ]
  have h1 : partsB cs (l ++ [c]) l.length = partsB cs l l.length := by
    unfold partsB
    refine flatMap_congr2 (fun i hi => ?_)
    have hi := List.mem_range.1 hi
    unfold partB
    rw [List.getD_eq_getElem?_getD, List.getElem?_append_left hi, ← List.getD_eq_getElem?_getD]
  have h2 : partB cs (l ++ [c]) l.length = ckB cs l c := by
    unfold partB ckB
    rw [List.getD_eq_getElem?_getD (l := l ++ [c]), List.getElem?_append_right (Nat.le_refl _)]
    simp
  rw [h1, h2]
structure CkOk (cs : List Col) (i : Nat) (c : Chk) : Prop where
  n : c.text.size < 2147483648
  b : BOk (cs.getD i ⟨⟨#[]⟩, 0⟩).kind c.bnd
structure BdGood (cs : List Col) (b : Bd) : Prop where
  lo : 1 ≤ b.rows
  hi : b.rows ≤ 100
  len : b.chunks.length = cs.length
  each : AllI (CkOk cs) b.chunks
theorem bound_one {k : Int} (hk : k = 1 ∨ k = 2 ∨ k = 3) {B : List Nat} {p : Nat} {b b' : Bnd} (h : BOk k b) (h' : BOk k b') (hs : Starts B p (boundB k b)) (hs' : Starts B p (boundB k b')) : b = b' := by
  have two : ∀ {b b' : Bnd}, b = noBnd → b'.there = true → Starts B p (boundB k b) → Starts B p (boundB k b') → False := by
    rintro b b' rfl ht hs hs'
    unfold boundB at hs'
    rw [if_pos ht] at hs'
    have := starts_same (show Starts B p [0] from hs) (starts_append.1 hs').1 rfl
    simp at this
  rcases h with h | ⟨h1, h2, h3, h4⟩ <;> rcases h' with h' | ⟨h1', h2', h3', h4'⟩
  · rw [h, h']
  · exact (two h h1' hs hs').elim
  · exact (two h' h1 hs' hs).elim
  · unfold boundB at hs hs'
    rw [if_pos h1] at hs
    rw [if_pos h1'] at hs'
    obtain ⟨a1, a2⟩ := starts_append.1 (starts_append.1 hs).2
    obtain ⟨c1, c2⟩ := starts_append.1 (starts_append.1 hs').2
    have e1 := plain_one hk h2 h2' a1 c1
    rw [e1] at a2
    have e2 := plain_one hk h3 h3' a2 c2
    obtain ⟨t, u, v⟩ := b
    obtain ⟨t', u', v'⟩ := b'
    simp only at h1 h1' e1 e2
    rw [h1, h1', e1, e2]
theorem ck_one {cs : List Col} {l : List Chk} (hk : (cs.getD l.length ⟨⟨#[]⟩, 0⟩).kind = 1 ∨ (cs.getD l.length ⟨⟨#[]⟩, 0⟩).kind = 2 ∨ (cs.getD l.length ⟨⟨#[]⟩, 0⟩).kind = 3) {B C : List Nat} {p q : Nat} {x y : Chk} (hx : CkOk cs l.length x) (hy : CkOk cs l.length y) (hs : Starts B p (ckB cs l x)) (hs' : Starts B p (ckB cs l y)) (hc : Starts C q (bytesOf x.text)) (hc' : Starts C q (bytesOf y.text)) : y = x := by
  unfold ckB at hs hs'
  obtain ⟨a1, a2⟩ := starts_append.1 hs
  obtain ⟨b1, b2⟩ := starts_append.1 hs'
  have e := vint_one (by have := hy.n; omega) (by have := hx.n; omega) b1 a1
  rw [e] at b2
  have e2 := bound_one hk hy.b hx.b b2 a2
  have e3 := bytesOf_inj (starts_same hc' hc (by rw [bytesOf_length, bytesOf_length, e]))
  obtain ⟨t, u⟩ := x
  obtain ⟨t', u'⟩ := y
  simp only at e2 e3
  rw [e2, e3]
/-- A row of columns of its own is a slice of columns. -/
theorem CSl.of_owns {w : World} {base : Nat} {v : Value} {l : List Col} (h : w.ownsRow base 104 2 v l.length (ccells l)) : CSl w v l := by
  rcases h.2 with ⟨rfl, h0⟩ | ⟨g, cap, cur, rfl, hbg, hgb, hnc, hcm, hcs, htake⟩
  · have : l = [] := List.eq_nil_of_length_eq_zero h0
    subst this
    exact ⟨none, 0, 0, 0, rfl, Nat.le_refl _, ⟨fun h => by simp at h, fun h => by simp at h, fun j h => by simp at h, fun j h => by simp at h⟩⟩
  · have hc := h.cells (g := g) rfl
    refine ⟨some ⟨g, 0, none⟩, g, 0, cap, rfl, hnc, ⟨fun _ => rfl, fun _ => (h.lt g rfl).2, fun j hj => ?_, fun j hj => ?_⟩⟩
    · have := hc _ _ (flat_at (fun c : Col => [Value.string c.name, Value.int .i64 c.kind]) 2 (fun _ => rfl) l j hj 0 _ rfl)
      simpa [Addr.add_lit] using this
    · have := hc _ _ (flat_at (fun c : Col => [Value.string c.name, Value.int .i64 c.kind]) 2 (fun _ => rfl) l j hj 1 _ rfl)
      simpa [Addr.add_lit] using this
/-- The sum of the bands' rows. -/
def rowsN (bs : List Bd) : Nat := (bs.map fun b => b.rows).sum
theorem rowsN_snoc (bs : List Bd) (b : Bd) : rowsN (bs ++ [b]) = rowsN bs + b.rows := by simp [rowsN]
theorem rowsN_take (bs : List Bd) (k : Nat) (h : k < bs.length) : rowsN (bs.take (k + 1)) = rowsN (bs.take k) + bs[k].rows := by
  rw [List.take_succ_eq_append_getElem h, rowsN_snoc]
theorem rowsN_le (bs : List Bd) (h : ∀ b ∈ bs, b.rows ≤ 100) : rowsN bs ≤ bs.length * 100 := by
  induction bs with
  | nil => simp [rowsN]
  | cons b r ih =>
    have h1 := h b (by simp)
    have h2 := ih (fun x hx => h x (by simp [hx]))
    simp [rowsN] at h2 ⊢
    omega
theorem rowsN_ge (bs : List Bd) (h : ∀ b ∈ bs, 1 ≤ b.rows) : bs.length ≤ rowsN bs := by
  induction bs with
  | nil => simp [rowsN]
  | cons b r ih =>
    have h1 := h b (by simp)
    have h2 := ih (fun x hx => h x (by simp [hx]))
    simp [rowsN] at h2 ⊢
    omega
end Go.Proofs.Ytjidbonhhpkljaa.Ec

/- The columns in a footer as bytes: one way to read them. -/
set_option linter.unusedVariables false
namespace Go.Proofs.Ytjidbonhhpkljaa.Ec
open Go.RowKit Go.Proofs.Ytjidbonhhpkljaa.Pk Go.Proofs.Ytjidbonhhpkljaa.Pm
/-- A column with its encoding, as bytes. -/
def pcB (y : Col × Int) : List Nat := vint y.1.name.size ++ (bytesOf y.1.name ++ [byteOf y.1.kind, byteOf y.2])
def pcsB (l : List (Col × Int)) : List Nat := l.flatMap pcB
theorem pcsB_snoc (l : List (Col × Int)) (y : Col × Int) : pcsB (l ++ [y]) = pcsB l ++ pcB y := by
  unfold pcsB
  rw [List.flatMap_append, List.flatMap_singleton]
theorem pcB_pos (y : Col × Int) : 1 ≤ (pcB y).length := by unfold pcB; simp; omega
theorem pcsB_len (l : List (Col × Int)) : l.length ≤ (pcsB l).length := by
  induction l with
  | nil => simp
  | cons y r ih =>
    have := pcB_pos y
    unfold pcsB at ih ⊢
    rw [List.flatMap_cons, List.length_append, List.length_cons]
    omega
/-- What a reader can come up with. -/
structure PcOk (y : Col × Int) : Prop where
  n : y.1.name.size < 2147483648
  k0 : 0 ≤ y.1.kind
  k1 : y.1.kind < 256
  e0 : 0 ≤ y.2
  e1 : y.2 < 256
theorem byteOf_in {x : Int} (h0 : 0 ≤ x) (h1 : x < 256) : (byteOf x : Int) = x := by unfold byteOf; omega
theorem pc_name {B : List Nat} {p v : Nat} {y : Col × Int} (hy : PcOk y) (hv : v < 2147483648) (hs : Starts B p (vint v)) (h : Starts B p (pcB y)) : y.1.name.size = v := by
  unfold pcB at h
  exact vint_one (by have := hy.n; omega) (by omega) (starts_append.1 h).1 hs
theorem pc_text {B : List Nat} {p v : Nat} {x : ByteArray} {y : Col × Int} (hy : PcOk y) (hv : v < 2147483648) (hs : Starts B p (vint v)) (hx : x.size = v) (hs2 : Starts B (p + (vint v).length) (bytesOf x)) (h : Starts B p (pcB y)) : y.1.name = x ∧ Starts B (p + (vint v).length + v) [byteOf y.1.kind, byteOf y.2] := by
  have h1 := pc_name hy hv hs h
  unfold pcB at h
  obtain ⟨h2, h3⟩ := starts_append.1 (starts_append.1 h).2
  rw [h1] at h2 h3
  have := bytesOf_inj (starts_same h2 hs2 (by rw [bytesOf_length, bytesOf_length, h1, hx]))
  rw [bytesOf_length, h1] at h3
  exact ⟨this, h3⟩
theorem pc_one {B : List Nat} {p v kd en : Nat} {x : ByteArray} {y : Col × Int} (hy : PcOk y) (hv : v < 2147483648) (hs : Starts B p (vint v)) (hx : x.size = v) (hs2 : Starts B (p + (vint v).length) (bytesOf x)) (hs3 : Starts B (p + (vint v).length + v) [kd]) (hs4 : Starts B (p + (vint v).length + v + 1) [en]) (h : Starts B p (pcB y)) : y = (⟨x, (kd : Int)⟩, (en : Int)) := by
  obtain ⟨h1, h2⟩ := pc_text hy hv hs hx hs2 h
  obtain ⟨h3, h4⟩ := starts_cons.1 h2
  have e1 : byteOf y.1.kind = kd := by have := h3.symm.trans (starts_one.1 hs3); simpa using this
  have e2 : byteOf y.2 = en := by have := (starts_one.1 h4).symm.trans (starts_one.1 hs4); simpa using this
  have g1 := byteOf_in hy.k0 hy.k1
  have g2 := byteOf_in hy.e0 hy.e1
  obtain ⟨⟨nm, kk⟩, ee⟩ := y
  simp only at h1 e1 e2 g1 g2
  rw [e1] at g1
  rw [e2] at g2
  rw [h1, g1, g2]
theorem pc_starts {B : List Nat} {p v kd en : Nat} {x : ByteArray} (hs : Starts B p (vint v)) (hx : x.size = v) (hs2 : Starts B (p + (vint v).length) (bytesOf x)) (hs3 : Starts B (p + (vint v).length + v) [kd]) (hs4 : Starts B (p + (vint v).length + v + 1) [en]) (h1 : kd < 256) (h2 : en < 256) : Starts B p (pcB (⟨x, (kd : Int)⟩, (en : Int))) ∧ (pcB (⟨x, (kd : Int)⟩, (en : Int))).length = (vint v).length + v + 1 + 1 := by
  have e1 : byteOf (kd : Int) = kd := by unfold byteOf; omega
  have e2 : byteOf (en : Int) = en := by unfold byteOf; omega
  unfold pcB
  simp only [e1, e2, hx]
  refine ⟨starts_append.2 ⟨hs, starts_append.2 ⟨hs2, ?_⟩⟩, by simp [bytesOf_length, hx]; omega⟩
  rw [bytesOf_length, hx]
  exact starts_cons.2 ⟨starts_one.1 hs3, hs4⟩
/-- May columns with encodings be? -/
def PlOk (l : List (Col × Int)) : Prop := ColsOk (l.map Prod.fst) ∧ EncsOk (l.map Prod.fst) (l.map Prod.snd)
theorem PlOk.each {l : List (Col × Int)} (h : PlOk l) : (∀ y ∈ l, PcOk y) ∧ l.length < 2147483648 := by
  obtain ⟨⟨h1, h2, h3⟩, h4, h5⟩ := h
  refine ⟨fun y hy => ?_, by simp at h2; omega⟩
  obtain ⟨i, hi, rfl⟩ := List.getElem_of_mem hy
  have g := (h3 i (by simpa using hi)).1
  have g2 := h5 i (by simpa using hi)
  simp only [List.getElem_map, colOk, isKindB, Bool.and_eq_true, decide_eq_true_eq] at g
  rw [show (l.map Prod.snd).getD i 0 = l[i].2 by simp [hi]] at g2
  simp only [List.getElem_map, hasEncB, isKindB, Bool.or_eq_true, Bool.and_eq_true, decide_eq_true_eq, beq_iff_eq] at g2
  exact ⟨by omega, by omega, by omega, by omega, by omega⟩
def plB (l : List (Col × Int)) : List Nat := vint l.length ++ pcsB l
end Go.Proofs.Ytjidbonhhpkljaa.Ec

/- Which of two values is less: the document's side. -/
set_option linter.unusedVariables false
namespace Go.Proofs.Ytjidbonhhpkljaa.Ec
open Go.RowKit Go.Proofs.Ytjidbonhhpkljaa.Pk
theorem cmpB_step {A B : List UInt8} {k : Nat} (h1 : k < A.length) (h2 : k < B.length) : Lib.compareBytes (A.drop k) (B.drop k) = if A[k] < B[k] then -1 else if B[k] < A[k] then 1 else Lib.compareBytes (A.drop (k + 1)) (B.drop (k + 1)) := by
  rw [List.drop_eq_getElem_cons h1, List.drop_eq_getElem_cons h2]
  rfl
theorem cmpB_end {A B : List UInt8} {k : Nat} (hk1 : k ≤ A.length) (hk2 : k ≤ B.length) (h : ¬ (k < A.length ∧ k < B.length)) : (Lib.compareBytes (A.drop k) (B.drop k) < 0) ↔ A.length < B.length := by
  by_cases h1 : k < A.length
  · have h2 : B.length ≤ k := by omega
    rw [List.drop_eq_nil_of_le h2, List.drop_eq_getElem_cons h1]
    simp only [Lib.compareBytes]
    omega
  · rw [List.drop_eq_nil_of_le (by omega : A.length ≤ k)]
    by_cases h2 : k < B.length
    · rw [List.drop_eq_getElem_cons h2]
      simp only [Lib.compareBytes]
      omega
    · rw [List.drop_eq_nil_of_le (by omega : B.length ≤ k)]
      simp only [Lib.compareBytes]
      omega
theorem data_len (s : ByteArray) : s.data.toList.length = s.size := by rw [Array.length_toList]; rfl
theorem data_get (s : ByteArray) (k : Nat) (h : k < s.size) (h' : k < s.data.toList.length) : s.data.toList[k] = s[k] := by rw [Array.getElem_toList]; rfl

set_option maxRecDepth 100000 in
set_option maxHeartbeats 4000000 in
theorem less_any (x y : Val) (w : World) (hx : x.s.size ≤ maxLen) (hy : y.s.size ≤ maxLen) :
    Calls Try.prog 86 #[.agg #[.bool x.null, .int .i64 x.n, .string x.s], .agg #[.bool y.null, .int .i64 y.n, .string y.s]] w fun e w' => e = .returned (.bool (decide (vcmp x y < 0))) ∧ Below w.heap.size w w' := by
  unfold maxLen at hx hy
  have hb0 : Below w.heap.size w ((w.alloc (.cells #[.bool x.null, .int .i64 x.n, .string x.s] 39)).alloc (.cells #[.bool y.null, .int .i64 y.n, .string y.s] 39)) := below_box2 _ _
  by_cases hn : x.n = y.n
  · have hd : (x.n != y.n) = false := by simp [hn]
    have HV : Hid (vcmp x y = Lib.compareBytes (x.s.data.toList.drop 0) (y.s.data.toList.drop 0)) := by
      show vcmp x y = _
      unfold vcmp
      rw [if_neg (by omega), if_neg (by omega), List.drop_zero, List.drop_zero]
    clear hn
    go_enter Try.func86, Try.ntmps86
    go_upto_region 1 with fail
    have hS := box_four w x y
    generalize (w.alloc (.cells #[.bool x.null, .int .i64 x.n, .string x.s] 39)).alloc (.cells #[.bool y.null, .int .i64 y.n, .string y.s] 39) = W0 at *
    obtain ⟨s1, s2, s3, s4⟩ := hS
    have HB0 : Hid (Below w.heap.size w W0) := hb0
    clear hb0
    generalize w.heap.size + 1 = g2 at *
    generalize hg1 : w.heap.size = g1 at *
    have HG : Hid (w.heap.size = g1) := hg1
    clear hg1
    go_wp2_with fail
    go_loopw [5] (fun i wr => ∃ k : Nat, k ≤ x.s.size ∧ k ≤ y.s.size ∧ i = .int .i64 (k : Int) ∧ vcmp x y = Lib.compareBytes (x.s.data.toList.drop k) (y.s.data.toList.drop k) ∧ ∃ n, wr = W0.drewN n) (fun i _ => x.s.size - (intOf i).toNat)
    case atStart => exact ⟨0, Nat.zero_le _, Nat.zero_le _, rfl, HV.out, 0, rfl⟩
    case round =>
      rename World => wr
      obtain ⟨k, hk1, hk2, rfl, hv, n, hwr⟩ := hrel
      have HV1 : Hid (vcmp x y = Lib.compareBytes (x.s.data.toList.drop k) (y.s.data.toList.drop k)) := hv
      have HW : Hid (wr = W0.drewN n) := hwr
      have t2 : wr.cell? ⟨g1, 2, none⟩ = some (.string x.s) := by rw [hwr]; exact s2
      have t4 : wr.cell? ⟨g2, 2, none⟩ = some (.string y.s) := by rw [hwr]; exact s4
      have HB : Hid (Below w.heap.size w wr) := by
        show Below w.heap.size w wr
        rw [HG.out, hwr]
        exact below_drewN HB0.out n
      clear hv hwr HV
      by_cases hlt : k < x.s.size ∧ k < y.s.size
      · obtain ⟨l1, l2⟩ := hlt
        have hl1 : (k : Int) < (x.s.size : Int) := by omega
        have hl2 : (k : Int) < (y.s.size : Int) := by omega
        have hd1 : decide ((k : Int) < (x.s.size : Int)) = true := by simp; omega
        have hd2 : decide ((k : Int) < (y.s.size : Int)) = true := by simp; omega
        have HST : Hid (vcmp x y = if x.s[k] < y.s[k] then -1 else if y.s[k] < x.s[k] then 1 else Lib.compareBytes (x.s.data.toList.drop (k + 1)) (y.s.data.toList.drop (k + 1))) := by
          show vcmp x y = _
          rw [HV1.out, cmpB_step (by rw [data_len]; exact l1) (by rw [data_len]; exact l2), data_get x.s k l1, data_get y.s k l2]
        clear HV1
        by_cases hab : x.s[k] = y.s[k]
        · have he : (((x.s[k].toNat : Nat) : Int) != ((y.s[k].toNat : Nat) : Int)) = false := by rw [hab]; simp
          have HV2 : Hid (vcmp x y = Lib.compareBytes (x.s.data.toList.drop (k + 1)) (y.s.data.toList.drop (k + 1))) := by
            show vcmp x y = _
            rw [HST.out, hab, if_neg (by rw [UInt8.lt_iff_toNat_lt]; omega), if_neg (by rw [UInt8.lt_iff_toNat_lt]; omega)]
          clear HST hab
          go_wp2_with fail
          go_quiet (fail)
          go_wp2
          go_roundw
          case rel => exact ⟨k + 1, by omega, by omega, by go_num, HV2.out, n + nq, by rw [HW.out]; exact World.drewN_drewN _ _ _⟩
          case measure => simp [intOf]; omega
        · have hab2 : x.s[k].toNat ≠ y.s[k].toNat := fun h => hab (UInt8.toNat_inj.1 h)
          have he : (((x.s[k].toNat : Nat) : Int) != ((y.s[k].toNat : Nat) : Int)) = true := by simp; omega
          have HV2 : Hid (vcmp x y < 0 ↔ ((x.s[k].toNat : Nat) : Int) < ((y.s[k].toNat : Nat) : Int)) := by
            show _ ↔ _
            rw [HST.out]
            by_cases h1 : x.s[k] < y.s[k]
            · rw [if_pos h1]
              rw [UInt8.lt_iff_toNat_lt] at h1
              constructor <;> intro _ <;> omega
            · rw [if_neg h1]
              rw [UInt8.lt_iff_toNat_lt] at h1
              rw [if_pos (by rw [UInt8.lt_iff_toNat_lt]; omega)]
              constructor <;> intro _ <;> omega
          clear HST hab
          go_wp2_with fail
          go_quiet (fail)
          go_wp2_with fail
          go_quiet (fail)
          go_wp2
          go_ret
          refine ⟨ret_bool ?_, below_drewN (below_drewN HB.out _) _⟩
          rw [Bool.eq_iff_iff]
          simp only [decide_eq_true_eq]
          rw [HV2.out]
          omega
      · have HV2 : Hid (vcmp x y < 0 ↔ (x.s.size : Int) < (y.s.size : Int)) := by
          show _ ↔ _
          rw [HV1.out, cmpB_end (by rw [data_len]; exact hk1) (by rw [data_len]; exact hk2) (by rw [data_len, data_len]; exact hlt), data_len, data_len]
          omega
        clear HV1
        by_cases l1 : k < x.s.size
        · have hd1 : decide (k < x.s.size) = true := by simp; omega
          have hd2 : decide (k < y.s.size) = false := by simp; omega
          clear hlt l1
          go_wp2
          go_ret
          refine ⟨ret_bool ?_, HB.out⟩
          rw [Bool.eq_iff_iff]
          simp only [decide_eq_true_eq]
          rw [HV2.out]
          omega
        · have hd1 : decide (k < x.s.size) = false := by simp; omega
          clear hlt l1
          go_wp2
          go_ret
          refine ⟨ret_bool ?_, HB.out⟩
          rw [Bool.eq_iff_iff]
          simp only [decide_eq_true_eq]
          rw [HV2.out]
          omega
  · have hd : (x.n != y.n) = true := by simp [hn]
    have HV : Hid (vcmp x y < 0 ↔ x.n < y.n) := by
      show _ ↔ _
      unfold vcmp
      by_cases h1 : x.n < y.n
      · rw [if_pos h1]; constructor <;> intro _ <;> omega
      · rw [if_neg h1, if_pos (by omega)]; constructor <;> intro _ <;> omega
    have HB0 : Hid _ := hb0
    clear hn hb0
    go_enter Try.func86, Try.ntmps86
    go_wp2
    go_ret
    refine ⟨ret_bool ?_, HB0.out⟩
    rw [Bool.eq_iff_iff]
    simp only [decide_eq_true_eq]
    exact HV.out.symm
end Go.Proofs.Ytjidbonhhpkljaa.Ec

/- A column's values as a chunk with its bounds: the document's side. -/
set_option linter.unusedVariables false
namespace Go.Proofs.Ytjidbonhhpkljaa.Ec
open Go.RowKit Go.Proofs.Ytjidbonhhpkljaa.Pk Go.Proofs.Ytjidbonhhpkljaa.Pm
/-- The cells of the document's part. -/
def pcell (c : Chk) : Array Value := #[.int .i64 (c.text.size : Int), .bool c.bnd.there, .bool c.bnd.least.null, .int .i64 c.bnd.least.n, .string c.bnd.least.s, .bool c.bnd.most.null, .int .i64 c.bnd.most.n, .string c.bnd.most.s, .string c.text]
/-- No part. -/
def noPart : Array Value := #[.int .i64 0, .bool false, .bool false, .int .i64 0, .string ⟨#[]⟩, .bool false, .int .i64 0, .string ⟨#[]⟩, .string ⟨#[]⟩]

/-- Where part stands. -/
structure PSt (w W : World) (g : Nat) (c : Chk) : Prop where
  box : W.heap[g]? = some (.cells (pcell c) 101 (0, 0))
  res : W.heap[w.heap.size]? = some (.cells noPart 101 (0, 0))
  far : w.heap.size < g
  bel : Below w.heap.size w W
theorem PSt.below {w W W1 : World} {g : Nat} {c : Chk} (h : PSt w W g c) (hb : Below W.heap.size W W1) : PSt w W1 g c :=
  ⟨(hb.block _ (lt_of_block h.box)).trans h.box, (hb.block _ (lt_of_block h.res)).trans h.res, h.far, h.bel.trans (hb.mono h.bel.size)⟩
theorem PSt.put {w W : World} {g : Nat} {c c' : Chk} (h : PSt w W g c) {W' : World} (hb : W'.heap[g]? = some (.cells (pcell c') 101 (0, 0))) (hr : W'.heap[w.heap.size]? = W.heap[w.heap.size]?) (hB : Below w.heap.size w W') : PSt w W' g c' :=
  ⟨hb, hr.trans h.res, h.far, hB⟩
theorem PSt.set {w W : World} {g : Nat} {s : ByteArray} {b : Bnd} (h : PSt w W g ⟨s, b⟩) : PSt w (W.setCell ⟨g, 1, none⟩ (.bool true)) g ⟨s, ⟨true, b.least, b.most⟩⟩ := by
  have hf := h.far
  refine h.put (heap_setCell_same W g 1 _ _ (.bool true) h.box) (heap_setCell_other _ _ _ _ (by simp; omega)) (below_set h.bel h.bel.size (by omega) _ _)
theorem PSt.least {w W : World} {g : Nat} {s : ByteArray} {b : Bnd} (h : PSt w W g ⟨s, b⟩) (x : Val) :
    PSt w (((W.setCell ⟨g, 2, none⟩ (.bool x.null)).setCell ⟨g, 3, none⟩ (.int .i64 x.n)).setCell ⟨g, 4, none⟩ (.string x.s)) g ⟨s, ⟨b.there, x, b.most⟩⟩ := by
  have hf := h.far
  have h1 := heap_setCell_same W g 2 _ _ (.bool x.null) h.box
  have h2 := heap_setCell_same _ g 3 _ _ (.int .i64 x.n) h1
  have h3 := heap_setCell_same _ g 4 _ _ (.string x.s) h2
  have hs := h.bel.size
  refine h.put h3 ?_ ?_
  · rw [heap_setCell_other _ _ _ _ (by simp; omega), heap_setCell_other _ _ _ _ (by simp; omega), heap_setCell_other _ _ _ _ (by simp; omega)]
  · exact below_set (below_set (below_set h.bel hs (by omega) _ _) (by simpa using hs) (by omega) _ _) (by simpa using hs) (by omega) _ _
theorem PSt.most {w W : World} {g : Nat} {s : ByteArray} {b : Bnd} (h : PSt w W g ⟨s, b⟩) (x : Val) :
    PSt w (((W.setCell ⟨g, 5, none⟩ (.bool x.null)).setCell ⟨g, 6, none⟩ (.int .i64 x.n)).setCell ⟨g, 7, none⟩ (.string x.s)) g ⟨s, ⟨b.there, b.least, x⟩⟩ := by
  have hf := h.far
  have h1 := heap_setCell_same W g 5 _ _ (.bool x.null) h.box
  have h2 := heap_setCell_same _ g 6 _ _ (.int .i64 x.n) h1
  have h3 := heap_setCell_same _ g 7 _ _ (.string x.s) h2
  have hs := h.bel.size
  refine h.put h3 ?_ ?_
  · rw [heap_setCell_other _ _ _ _ (by simp; omega), heap_setCell_other _ _ _ _ (by simp; omega), heap_setCell_other _ _ _ _ (by simp; omega)]
  · exact below_set (below_set (below_set h.bel hs (by omega) _ _) (by simpa using hs) (by omega) _ _) (by simpa using hs) (by omega) _ _

end Go.Proofs.Ytjidbonhhpkljaa.Ec
