/- The contract of the code's readRuns. -/
import Derived.Test.YtjidbonhhpkljaaDcVarint
import Derived.Test.YtjidbonhhpkljaaEcPacked
set_option linter.unusedVariables false
namespace Go.Proofs.Ytjidbonhhpkljaa.Ec
open Go.RowKit Go.Proofs.Ytjidbonhhpkljaa.Pk Go.Proofs.Ytjidbonhhpkljaa.Pm

theorem own_int {w : World} {base g n cap : Nat} {zs : List Int} (h : w.ownsRow base 3 1 (.slice (some ⟨g, 0, none⟩) n cap) n (icells zs)) (hl : zs.length = n) (j : Nat) (hj : j < n) : w.cell? ⟨g, j, none⟩ = some (.int .i64 (zs.getD j 0)) := by
  subst hl
  obtain ⟨ao, b, off, c, h1, h2, h3, h4⟩ := ISl.of_owns h
  simp only [Value.slice.injEq] at h1
  obtain ⟨e1, _, _⟩ := h1
  have h5 := h2 (by omega)
  rw [h5] at e1
  simp only [Option.some.injEq, Addr.mk.injEq] at e1
  have := h4 j hj
  rw [← e1.1, ← e1.2.1, Nat.zero_add] at this
  exact this

theorem getLast_getD {zs : List Int} (h : 0 < zs.length) : zs.getLast? = some (zs.getD (zs.length - 1) 0) := by
  rw [List.getLast?_eq_getElem?, List.getD, List.getElem?_eq_getElem (by omega)]
  rfl
theorem rep_snoc (zs : List Int) (m : Nat) (b : Int) : icells (zs ++ List.replicate m b) ++ [.int .i64 b] = icells (zs ++ List.replicate (m + 1) b) := by
  rw [icells_snoc, List.append_assoc, List.replicate_succ']

set_option maxRecDepth 100000 in
set_option maxHeartbeats 8000000 in
theorem readRuns_any (s : ByteArray) (r p cn : Nat) (w : World) (hm : s.size ≤ maxLen) (hcn : cn ≤ 100) (hp : p ≤ s.size) (h : w.heap[r]? = some (rdr s p)) :
    Calls Try.prog 79 #[.pointer (some ⟨r, 0, none⟩), .int .i64 cn] w fun e w' => Kp r w w' ∧
      ((∃ (zs : List Int) (v : Value), e = .returned v ∧ zs.length = cn ∧ Bits zs ∧ Starts (bytesOf s) p (runsB zs) ∧ (∀ L : List Int, L.length = cn → Bits L → Starts (bytesOf s) p (runsB L) → L = zs) ∧ p + (runsB zs).length ≤ s.size ∧
        w'.heap[r]? = some (rdr s (p + (runsB zs).length)) ∧ w'.ownsRow w.heap.size 3 1 v zs.length (icells zs)) ∨
       (∃ q, e = .panicked (badAt q) ∧ ∀ L : List Int, L.length = cn → Bits L → ¬ Starts (bytesOf s) p (runsB L))) := by
  obtain ⟨i0, hi, hz0, hz1, hz2⟩ := info_parts Try.info3
  have hrl : r < w.heap.size := lt_of_block h
  have HR : Hid (w.heap[r]? = some (rdr s p)) := h
  clear h
  go_enter Try.func79, Try.ntmps79
  go_wp2_with (at_make; refine wpList_make_own _ rfl _ _ 22 rfl w.heap.size 3 i0 (.int .i64 0) 1 Try.underlying22 hi hz0 hz1 .i64 .i64 _ cn rfl rfl rfl (by rw [hz2]; omega) (by unfold maxLen; omega) (Nat.le_refl _) ?_; intro w0 hown0 hgrow0)
  have HK0 : Hid (Kp r w w0) := (Kp.refl r w).grown hgrow0 (by simp)
  have HR0 : Hid (w0.heap[r]? = some (rdr s p)) := by show _ = _; rw [hgrow0.block r hrl (by simp)]; exact HR.out
  clear HR hgrow0
  go_loopw [5] (fun lv wr => ∃ (zs : List Int) (R : List Nat), lv = .slice (some ⟨w.heap.size, 0, none⟩) zs.length cn ∧ RSt (bytesOf s) p cn zs R ∧ p + R.length ≤ s.size ∧ wr.heap[r]? = some (rdr s (p + R.length)) ∧
      wr.ownsRow w.heap.size 3 1 (.slice (some ⟨w.heap.size, 0, none⟩) zs.length cn) zs.length (icells zs) ∧ Kp r w wr) (fun lv _ => match lv with | .slice _ n _ => cn - n | _ => 0)
  case atStart => exact ⟨[], [], rfl, RSt.zero _ _ _, by simpa using hp, by simpa using HR0.out, hown0, HK0.out⟩
  case round =>
    clear hown0 HK0 HR0
    obtain ⟨zs, R, rfl, hS, hpl, hR, hown, hK⟩ := hrel
    have HS : Hid (RSt (bytesOf s) p cn zs R) := hS
    have HRR : Hid (wr.heap[r]? = some (rdr s (p + R.length))) := hR
    have HK : Hid (Kp r w wr) := hK
    have HO : Hid (wr.ownsRow w.heap.size 3 1 (.slice (some ⟨w.heap.size, 0, none⟩) zs.length cn) zs.length (icells zs)) := hown
    have hsz : w.heap.size ≤ wr.heap.size := hK.size
    have hle := hS.le
    clear hS hR hK hown
    by_cases hlt : zs.length < cn
    · go_wp2_with fail
      refine (number_rd r (p + R.length) s _ hm hpl HRR.out).mono ?_
      rintro e w1 ⟨hK1, ⟨n, rfl, hn, hs1, hl1, hR1⟩ | ⟨q, rfl, hno⟩⟩
      · have HK1 : Hid (Kp r w w1) := HK.out.trans hK1
        have HO1 : Hid (w1.ownsRow w.heap.size 3 1 (.slice (some ⟨w.heap.size, 0, none⟩) zs.length cn) zs.length (icells zs)) := hK1.own HO.out hrl
        have HS1 : Hid (Starts (bytesOf s) (p + R.length) (vint n)) := hs1
        have HR1 : Hid (w1.heap[r]? = some (rdr s (p + R.length + (vint n).length))) := hR1
        have HN : Hid (n < 2147483648) := hn
        clear hK1 hs1 hR1 hn HO HK HRR
        go_wp2_with fail
        refine (bit_any r (p + R.length + (vint n).length) s _ hm hl1 HR1.out).mono ?_
        rintro e w2 ⟨hK2, ⟨b, rfl, hb, hs2, hR2, hl2⟩ | ⟨q, rfl, hno⟩⟩
        · have HK2 : Hid (Kp r w w2) := HK1.out.trans hK2
          have HO2 : Hid (w2.ownsRow w.heap.size 3 1 (.slice (some ⟨w.heap.size, 0, none⟩) zs.length cn) zs.length (icells zs)) := hK2.own HO1.out hrl
          have HS2 : Hid (Starts (bytesOf s) (p + R.length + (vint n).length) [b.toNat]) := hs2
          have HR2 : Hid (w2.heap[r]? = some (rdr s (p + R.length + (vint n).length + 1))) := hR2
          have HB : Hid (b = 0 ∨ b = 1) := hb
          clear hK2 hs2 hR2 HK1 HO1 HR1 hb
          by_cases hbad : n = 0 ∨ cn - zs.length < n
          · have HNO : Hid (∀ L : List Int, L.length = cn → Bits L → ¬ Starts (bytesOf s) p (runsB L)) := by
              intro L hL hb hs
              obtain ⟨n', b', m, g1, g2, g3, g4, g5, g6, g7, g8⟩ := HS.out.next hlt L hL hb hs
              have := vint_one (by omega) (by have := HN.out; omega) g5 HS1.out
              omega
            go_wp2_with (go_at_call 84; refine (giveUp_any r _ s _ HR2.out).mono ?_; rintro e w' ⟨rfl, rfl⟩)
            all_goals exact ⟨rfl, HK2.out, .inr ⟨_, rfl, HNO.out⟩⟩
          · have hn0 : n ≠ 0 := by omega
            have hnle : n + zs.length ≤ cn := by omega
            have hnz : ((n : Int) == 0) = false := by simp; omega
            clear hbad
            by_cases hsame : 0 < zs.length ∧ zs.getD (zs.length - 1) 0 = b
            · have HNO : Hid (∀ L : List Int, L.length = cn → Bits L → ¬ Starts (bytesOf s) p (runsB L)) := by
                intro L hL hb hs
                obtain ⟨n', b', m, g1, g2, g3, g4, g5, g6, g7, g8⟩ := HS.out.next hlt L hL hb hs
                have e1 := vint_one (by omega) (by have := HN.out; omega) g5 HS1.out
                subst e1
                have e2 : b' = b := by
                  have h1 := HS2.out
                  rw [starts_one] at g6 h1
                  rw [g6] at h1
                  simp at h1
                  have := HB.out
                  omega
                rw [getLast_getD hsame.1, hsame.2, e2] at g4
                rcases g4 with g4 | g4
                · rw [g4] at hsame; simp at hsame
                · exact g4 rfl
              obtain ⟨k, hk⟩ : ∃ k, zs.length = k + 1 := ⟨zs.length - 1, by omega⟩
              have hcl := own_int HO2.out rfl k (by omega)
              have hgl : zs.getD k 0 = b := by rw [← hsame.2, hk]; rfl
              rw [hgl] at hcl
              clear hsame hgl
              have e0 : decide ((cn : Int) - (zs.length : Int) < (n : Int)) = false := by simp; omega
              have e1 : wrap64 ((cn : Int) - (zs.length : Int)) = (cn : Int) - (zs.length : Int) := by unfold wrap64; omega
              have e2 : wrap64 ((zs.length : Int) - 1) = (k : Int) := by unfold wrap64; omega
              have e3 : (k : Int) < (zs.length : Int) := by omega
              go_wp2_with (go_at_call 84; refine (giveUp_any r _ s _ HR2.out).mono ?_; rintro e w' ⟨rfl, rfl⟩)
              exact ⟨rfl, HK2.out, .inr ⟨_, rfl, HNO.out⟩⟩
            · have HL : Hid (zs = [] ∨ zs.getLast? ≠ some b) := by
                by_cases h0 : 0 < zs.length
                · right
                  rw [getLast_getD h0]
                  intro e
                  simp only [Option.some.injEq] at e
                  exact hsame ⟨h0, e⟩
                · left
                  exact List.length_eq_zero_iff.1 (by omega)
              have HMORE : Hid (RSt (bytesOf s) p cn (zs ++ List.replicate n b) (R ++ (vint n ++ [b.toNat]))) := HS.out.more hn0 (by omega) (by have := HN.out; omega) HB.out HL.out HS1.out HS2.out hcn hlt
              have e0 : decide ((cn : Int) - (zs.length : Int) < (n : Int)) = false := by simp; omega
              have e1 : wrap64 ((cn : Int) - (zs.length : Int)) = (cn : Int) - (zs.length : Int) := by unfold wrap64; omega
              have hn100 : n ≤ 100 := by omega
              clear hl1
              by_cases h0 : 0 < zs.length
              · have hcl := own_int HO2.out rfl (zs.length - 1) (by omega)
                have hgl : zs.getD (zs.length - 1) 0 ≠ b := fun e => hsame ⟨h0, e⟩
                generalize zs.getD (zs.length - 1) 0 = y at *
                have e4 : (y == b) = false := by simp; exact hgl
                clear hsame hgl
                go_wp2_with fail
                go_loopw [5, 46] (fun lv i wq => ∃ m : Nat, m ≤ n ∧ i = .int .i64 (m : Int) ∧ lv = .slice (some ⟨w.heap.size, 0, none⟩) (zs.length + m) cn ∧ wq.heap[r]? = some (rdr s (p + R.length + (vint n).length + 1)) ∧
                    wq.ownsRow w.heap.size 3 1 (.slice (some ⟨w.heap.size, 0, none⟩) (zs.length + m) cn) (zs.length + m) (icells (zs ++ List.replicate m b)) ∧ Kp r w wq) (fun _ i _ => n - (intOf i).toNat)
                case atStart => exact ⟨0, Nat.zero_le _, rfl, rfl, HR2.out, by simpa using HO2.out, HK2.out⟩
                case round =>
                  clear HR2 HO2 HK2
                  obtain ⟨m, hmn, rfl, rfl, hRq, hownq, hKq⟩ := hrel
                  have HRQ : Hid (wr.heap[r]? = some (rdr s (p + R.length + (vint n).length + 1))) := hRq
                  have HKQ : Hid (Kp r w wr) := hKq
                  have hszq := hKq.size
                  clear hRq hKq
                  by_cases hlm : m < n
                  · go_wp2_with (at_builtin; refine wpList_append_fits _ rfl _ _ 22 rfl w.heap.size 3 i0 1 Try.underlying22 hi hz1 w.heap.size (zs.length + m) cn _ rfl (hownq.alloc _) ⟨wr.heap.size, 0, none⟩ 1 1 [.int .i64 b] rfl rfl (by exact one_at _ _ _) ?c2 (by omega) ?_)
                    case c2 => intro u hu; simp at hu; subst hu; rfl
                    intro w3 hown3 hgrow3
                    have HK3 : Hid (Kp r w w3) := (HKQ.out.alloc _).grown hgrow3 (by intro g hg; simp at hg; omega)
                    have HR3 : Hid (w3.heap[r]? = some (rdr s (p + R.length + (vint n).length + 1))) := by
                      show _ = _
                      rw [hgrow3.block r (by simp; omega) (by simp; omega), Below.heap_alloc wr _ r (by omega)]
                      exact HRQ.out
                    rw [rep_snoc] at hown3
                    clear hownq hgrow3 HKQ HRQ
                    go_wp2
                    go_roundw
                    case rel => exact ⟨m + 1, by omega, by go_num, by first | rfl | (rw [Nat.add_assoc]), HR3.out, by rw [← Nat.add_assoc]; exact hown3, HK3.out⟩
                    case measure => simp [intOf]; omega
                  · obtain rfl : m = n := by omega
                    go_wp2
                    go_roundw
                    case rel => exact ⟨zs ++ List.replicate m b, R ++ (vint m ++ [b.toNat]), by simp, HMORE.out, by simp; omega, by rw [show p + (R ++ (vint m ++ [b.toNat])).length = p + R.length + (vint m).length + 1 by simp; omega]; exact HRQ.out, by simpa using hownq, HKQ.out⟩
                    case measure => simp; omega
              · obtain rfl : zs = [] := List.length_eq_zero_iff.1 (by omega)
                have hnc : n ≤ cn := by simpa using hnle
                have e6 : decide (cn < n) = false := by simp; omega
                have e7 : decide ((cn : Int) < (n : Int)) = false := by simp; omega
                have hc0 : 0 < cn := by simpa using hlt
                clear hsame h0 e0 e1 hnle hle hlt
                go_wp2_with fail
                go_loopw [5, 46] (fun lv i wq => ∃ m : Nat, m ≤ n ∧ i = .int .i64 (m : Int) ∧ lv = .slice (some ⟨w.heap.size, 0, none⟩) m cn ∧ wq.heap[r]? = some (rdr s (p + R.length + (vint n).length + 1)) ∧
                    wq.ownsRow w.heap.size 3 1 (.slice (some ⟨w.heap.size, 0, none⟩) m cn) m (icells (List.replicate m b)) ∧ Kp r w wq) (fun _ i _ => n - (intOf i).toNat)
                case atStart => exact ⟨0, Nat.zero_le _, rfl, rfl, HR2.out, HO2.out, HK2.out⟩
                case round =>
                  clear HR2 HO2 HK2
                  obtain ⟨m, hmn, rfl, rfl, hRq, hownq, hKq⟩ := hrel
                  have HRQ : Hid (wr.heap[r]? = some (rdr s (p + R.length + (vint n).length + 1))) := hRq
                  have HKQ : Hid (Kp r w wr) := hKq
                  have hszq := hKq.size
                  clear hRq hKq
                  by_cases hlm : m < n
                  · go_wp2_with (at_builtin; refine wpList_append_fits _ rfl _ _ 22 rfl w.heap.size 3 i0 1 Try.underlying22 hi hz1 w.heap.size m cn _ rfl (hownq.alloc _) ⟨wr.heap.size, 0, none⟩ 1 1 [.int .i64 b] rfl rfl (by exact one_at _ _ _) ?c2 (by omega) ?_)
                    case c2 => intro u hu; simp at hu; subst hu; rfl
                    intro w3 hown3 hgrow3
                    have HK3 : Hid (Kp r w w3) := (HKQ.out.alloc _).grown hgrow3 (by intro g hg; simp at hg; omega)
                    have HR3 : Hid (w3.heap[r]? = some (rdr s (p + R.length + (vint n).length + 1))) := by
                      show _ = _
                      rw [hgrow3.block r (by simp; omega) (by simp; omega), Below.heap_alloc wr _ r (by omega)]
                      exact HRQ.out
                    rw [show icells (List.replicate m b) ++ [.int .i64 b] = icells (List.replicate (m + 1) b) from rep_snoc [] m b] at hown3
                    clear hownq hgrow3 HKQ HRQ
                    go_wp2
                    go_roundw
                    case rel => exact ⟨m + 1, by omega, by go_num, rfl, HR3.out, hown3, HK3.out⟩
                    case measure => simp [intOf]; omega
                  · obtain rfl : m = n := by omega
                    go_wp2
                    go_roundw
                    case rel => exact ⟨List.replicate m b, R ++ (vint m ++ [b.toNat]), by simp, by simpa using HMORE.out, by simp; omega, by rw [show p + (R ++ (vint m ++ [b.toNat])).length = p + R.length + (vint m).length + 1 by simp; omega]; exact HRQ.out, by simpa using hownq, HKQ.out⟩
                    case measure => simp; omega
        · have HNO : Hid (∀ L : List Int, L.length = cn → Bits L → ¬ Starts (bytesOf s) p (runsB L)) := by
            intro L hL hb hs
            obtain ⟨n', b', m, g1, g2, g3, g4, g5, g6, g7, g8⟩ := HS.out.next hlt L hL hb hs
            have e1 := vint_one (by omega) (by have := HN.out; omega) g5 HS1.out
            subst e1
            exact hno b' g3 g6
          have HK2 : Hid (Kp r w w2) := HK1.out.trans hK2
          clear hno hK2 HK1 HO1
          go_wp2
          exact ⟨rfl, HK2.out, .inr ⟨q, rfl, HNO.out⟩⟩
      · have HNO : Hid (∀ L : List Int, L.length = cn → Bits L → ¬ Starts (bytesOf s) p (runsB L)) := by
          intro L hL hb hs
          obtain ⟨n', b', m, g1, g2, g3, g4, g5, g6, g7, g8⟩ := HS.out.next hlt L hL hb hs
          exact hno n' (by omega) g5
        have HK1 : Hid (Kp r w w1) := HK.out.trans hK1
        clear hno hK1 HK HO
        go_wp2
        exact ⟨rfl, HK1.out, .inr ⟨q, rfl, HNO.out⟩⟩
    · obtain ⟨d1, d2, d3⟩ := HS.out.done hlt
      have HD : Hid (runsB zs = R) := d2
      have HU : Hid (∀ L : List Int, L.length = cn → Bits L → Starts (bytesOf s) p (runsB L) → L = zs) := d3
      have hST : Starts (bytesOf s) p R := HS.out.st
      have HST : Hid (Starts (bytesOf s) p R) := hST
      clear d2 d3 hST
      go_wp2
      go_ret
      exact ⟨HK.out, .inl ⟨zs, _, rfl, d1, HS.out.bits, by rw [HD.out]; exact HST.out, HU.out, by rw [HD.out]; exact hpl, by rw [HD.out]; exact HRR.out, HO.out⟩⟩
end Go.Proofs.Ytjidbonhhpkljaa.Ec
