/- What the proof stands on: DcRunsC, PkPackR, PkPackC, PkRead, DcDictP, DcListC, WrColumnOf, WrEncs, WrOpts, WrFile, WrCopy, WrLendA. -/
import Derived.Test.YtjidbonhhpkljaaMd
import Derived.Deep.MidRow

/- The contract of the code's readRuns. -/
set_option linter.unusedVariables false
namespace Go.Proofs.Ytjidbonhhpkljaa.Ec
open Go.RowKit Go.Proofs.Ytjidbonhhpkljaa.Pk Go.Proofs.Ytjidbonhhpkljaa.Pm

theorem own_int {w : World} {base g n cap : Nat} {zs : List Int} (h : w.ownsRow base 3 1 (.slice (some ⟨g, 0, none⟩) n cap) n (icells zs)) (hl : zs.length = n) (j : Nat) (hj : j < n) : w.cell? ⟨g, j, none⟩ = some (.int .i64 (zs.getD j 0)) := by
  subst hl
  obtain ⟨ao, b, off, c, h1, h2, h3, h4⟩ := ISl.of_owns h
  simp only [Value.slice.injEq] at h1
  obtain ⟨e1, _, _⟩ := h1
  have h5 := h2 (by omega)
  rw [h5] at e1
  simp only [Option.some.injEq, Addr.mk.injEq] at e1
  have := h4 j hj
  rw [← e1.1, ← e1.2.1, Nat.zero_add] at this
  exact this

theorem getLast_getD {zs : List Int} (h : 0 < zs.length) : zs.getLast? = some (zs.getD (zs.length - 1) 0) := by
  rw [List.getLast?_eq_getElem?, List.getD, List.getElem?_eq_getElem (by omega)]
  rfl
theorem rep_snoc (zs : List Int) (m : Nat) (b : Int) : icells (zs ++ List.replicate m b) ++ [.int .i64 b] = icells (zs ++ List.replicate (m + 1) b) := by
  rw [icells_snoc, List.append_assoc, List.replicate_succ']

set_option maxRecDepth 100000 in
set_option maxHeartbeats 8000000 in
theorem readRuns_any (s : ByteArray) (r p cn : Nat) (w : World) (hm : s.size ≤ maxLen) (hcn : cn ≤ 100) (hp : p ≤ s.size) (h : w.heap[r]? = some (rdr s p)) :
    Calls Try.prog 79 #[.pointer (some ⟨r, 0, none⟩), .int .i64 cn] w fun e w' => Kp r w w' ∧
      ((∃ (zs : List Int) (v : Value), e = .returned v ∧ zs.length = cn ∧ Bits zs ∧ Starts (bytesOf s) p (runsB zs) ∧ (∀ L : List Int, L.length = cn → Bits L → Starts (bytesOf s) p (runsB L) → L = zs) ∧ p + (runsB zs).length ≤ s.size ∧
        w'.heap[r]? = some (rdr s (p + (runsB zs).length)) ∧ w'.ownsRow w.heap.size 3 1 v zs.length (icells zs)) ∨
       (∃ q, e = .panicked (badAt q) ∧ ∀ L : List Int, L.length = cn → Bits L → ¬ Starts (bytesOf s) p (runsB L))) := by
  obtain ⟨i0, hi, hz0, hz1, hz2⟩ := info_parts Try.info3
  have hrl : r < w.heap.size := lt_of_block h
  have HR : Hid (w.heap[r]? = some (rdr s p)) := h
  clear h
  go_enter Try.func79, Try.ntmps79
  go_wp2_with (at_make; refine wpList_make_own _ rfl _ _ 22 rfl w.heap.size 3 i0 (.int .i64 0) 1 Try.underlying22 hi hz0 hz1 .i64 .i64 _ cn rfl rfl rfl (by rw [hz2]; omega) (by unfold maxLen; omega) (Nat.le_refl _) ?_; intro w0 hown0 hgrow0)
  have HK0 : Hid (Kp r w w0) := (Kp.refl r w).grown hgrow0 (by simp)
  have HR0 : Hid (w0.heap[r]? = some (rdr s p)) := by show _ = _; rw [hgrow0.block r hrl (by simp)]; exact HR.out
  clear HR hgrow0
  go_loopw [5] (fun lv wr => ∃ (zs : List Int) (R : List Nat), lv = .slice (some ⟨w.heap.size, 0, none⟩) zs.length cn ∧ RSt (bytesOf s) p cn zs R ∧ p + R.length ≤ s.size ∧ wr.heap[r]? = some (rdr s (p + R.length)) ∧
      wr.ownsRow w.heap.size 3 1 (.slice (some ⟨w.heap.size, 0, none⟩) zs.length cn) zs.length (icells zs) ∧ Kp r w wr) (fun lv _ => match lv with | .slice _ n _ => cn - n | _ => 0)
  case atStart => exact ⟨[], [], rfl, RSt.zero _ _ _, by simpa using hp, by simpa using HR0.out, hown0, HK0.out⟩
  case round =>
    clear hown0 HK0 HR0
    obtain ⟨zs, R, rfl, hS, hpl, hR, hown, hK⟩ := hrel
    have HS : Hid (RSt (bytesOf s) p cn zs R) := hS
    have HRR : Hid (wr.heap[r]? = some (rdr s (p + R.length))) := hR
    have HK : Hid (Kp r w wr) := hK
    have HO : Hid (wr.ownsRow w.heap.size 3 1 (.slice (some ⟨w.heap.size, 0, none⟩) zs.length cn) zs.length (icells zs)) := hown
    have hsz : w.heap.size ≤ wr.heap.size := hK.size
    have hle := hS.le
    clear hS hR hK hown
    by_cases hlt : zs.length < cn
    · go_wp2_with fail
      refine (number_rd r (p + R.length) s _ hm hpl HRR.out).mono ?_
      rintro e w1 ⟨hK1, ⟨n, rfl, hn, hs1, hl1, hR1⟩ | ⟨q, rfl, hno⟩⟩
      · have HK1 : Hid (Kp r w w1) := HK.out.trans hK1
        have HO1 : Hid (w1.ownsRow w.heap.size 3 1 (.slice (some ⟨w.heap.size, 0, none⟩) zs.length cn) zs.length (icells zs)) := hK1.own HO.out hrl
        have HS1 : Hid (Starts (bytesOf s) (p + R.length) (vint n)) := hs1
        have HR1 : Hid (w1.heap[r]? = some (rdr s (p + R.length + (vint n).length))) := hR1
        have HN : Hid (n < 2147483648) := hn
        clear hK1 hs1 hR1 hn HO HK HRR
        go_wp2_with fail
        refine (bit_any r (p + R.length + (vint n).length) s _ hm hl1 HR1.out).mono ?_
        rintro e w2 ⟨hK2, ⟨b, rfl, hb, hs2, hR2, hl2⟩ | ⟨q, rfl, hno⟩⟩
        · have HK2 : Hid (Kp r w w2) := HK1.out.trans hK2
          have HO2 : Hid (w2.ownsRow w.heap.size 3 1 (.slice (some ⟨w.heap.size, 0, none⟩) zs.length cn) zs.length (icells zs)) := hK2.own HO1.out hrl
          have HS2 : Hid (Starts (bytesOf s) (p + R.length + (vint n).length) [b.toNat]) := hs2
          have HR2 : Hid (w2.heap[r]? = some (rdr s (p + R.length + (vint n).length + 1))) := hR2
          have HB : Hid (b = 0 ∨ b = 1) := hb
          clear hK2 hs2 hR2 HK1 HO1 HR1 hb
          by_cases hbad : n = 0 ∨ cn - zs.length < n
          · have HNO : Hid (∀ L : List Int, L.length = cn → Bits L → ¬ Starts (bytesOf s) p (runsB L)) := by
              intro L hL hb hs
              obtain ⟨n', b', m, g1, g2, g3, g4, g5, g6, g7, g8⟩ := HS.out.next hlt L hL hb hs
              have := vint_one (by omega) (by have := HN.out; omega) g5 HS1.out
              omega
            go_wp2_with (go_at_call 84; refine (giveUp_any r _ s _ HR2.out).mono ?_; rintro e w' ⟨rfl, rfl⟩)
            all_goals exact ⟨rfl, HK2.out, .inr ⟨_, rfl, HNO.out⟩⟩
          · have hn0 : n ≠ 0 := by omega
            have hnle : n + zs.length ≤ cn := by omega
            have hnz : ((n : Int) == 0) = false := by simp; omega
            clear hbad
            by_cases hsame : 0 < zs.length ∧ zs.getD (zs.length - 1) 0 = b
            · have HNO : Hid (∀ L : List Int, L.length = cn → Bits L → ¬ Starts (bytesOf s) p (runsB L)) := by
                intro L hL hb hs
                obtain ⟨n', b', m, g1, g2, g3, g4, g5, g6, g7, g8⟩ := HS.out.next hlt L hL hb hs
                have e1 := vint_one (by omega) (by have := HN.out; omega) g5 HS1.out
                subst e1
                have e2 : b' = b := by
                  have h1 := HS2.out
                  rw [starts_one] at g6 h1
                  rw [g6] at h1
                  simp at h1
                  have := HB.out
                  omega
                rw [getLast_getD hsame.1, hsame.2, e2] at g4
                rcases g4 with g4 | g4
                · rw [g4] at hsame; simp at hsame
                · exact g4 rfl
              obtain ⟨k, hk⟩ : ∃ k, zs.length = k + 1 := ⟨zs.length - 1, by omega⟩
              have hcl := own_int HO2.out rfl k (by omega)
              have hgl : zs.getD k 0 = b := by rw [← hsame.2, hk]; rfl
              rw [hgl] at hcl
              clear hsame hgl
              have e0 : decide ((cn : Int) - (zs.length : Int) < (n : Int)) = false := by simp; omega
              have e1 : wrap64 ((cn : Int) - (zs.length : Int)) = (cn : Int) - (zs.length : Int) := by unfold wrap64; omega
              have e2 : wrap64 ((zs.length : Int) - 1) = (k : Int) := by unfold wrap64; omega
              have e3 : (k : Int) < (zs.length : Int) := by omega
              go_wp2_with (go_at_call 84; refine (giveUp_any r _ s _ HR2.out).mono ?_; rintro e w' ⟨rfl, rfl⟩)
              exact ⟨rfl, HK2.out, .inr ⟨_, rfl, HNO.out⟩⟩
            · have HL : Hid (zs = [] ∨ zs.getLast? ≠ some b) := by
                by_cases h0 : 0 < zs.length
                · right
                  rw [getLast_getD h0]
                  intro e
                  simp only [Option.some.injEq] at e
                  exact hsame ⟨h0, e⟩
                · left
                  exact List.length_eq_zero_iff.1 (by omega)
              have HMORE : Hid (RSt (bytesOf s) p cn (zs ++ List.replicate n b) (R ++ (vint n ++ [b.toNat]))) := HS.out.more hn0 (by omega) (by have := HN.out; omega) HB.out HL.out HS1.out HS2.out hcn hlt
              have e0 : decide ((cn : Int) - (zs.length : Int) < (n : Int)) = false := by simp; omega
              have e1 : wrap64 ((cn : Int) - (zs.length : Int)) = (cn : Int) - (zs.length : Int) := by unfold wrap64; omega
              have hn100 : n ≤ 100 := by omega
              clear hl1
              by_cases h0 : 0 < zs.length
              · have hcl := own_int HO2.out rfl (zs.length - 1) (by omega)
                have hgl : zs.getD (zs.length - 1) 0 ≠ b := fun e => hsame ⟨h0, e⟩
                generalize zs.getD (zs.length - 1) 0 = y at *
                have e4 : (y == b) = false := by simp; exact hgl
                clear hsame hgl
                go_wp2_with fail
                go_loopw [5, 46] (fun lv i wq => ∃ m : Nat, m ≤ n ∧ i = .int .i64 (m : Int) ∧ lv = .slice (some ⟨w.heap.size, 0, none⟩) (zs.length + m) cn ∧ wq.heap[r]? = some (rdr s (p + R.length + (vint n).length + 1)) ∧
                    wq.ownsRow w.heap.size 3 1 (.slice (some ⟨w.heap.size, 0, none⟩) (zs.length + m) cn) (zs.length + m) (icells (zs ++ List.replicate m b)) ∧ Kp r w wq) (fun _ i _ => n - (intOf i).toNat)
                case atStart => exact ⟨0, Nat.zero_le _, rfl, rfl, HR2.out, by simpa using HO2.out, HK2.out⟩
                case round =>
                  clear HR2 HO2 HK2
                  obtain ⟨m, hmn, rfl, rfl, hRq, hownq, hKq⟩ := hrel
                  have HRQ : Hid (wr.heap[r]? = some (rdr s (p + R.length + (vint n).length + 1))) := hRq
                  have HKQ : Hid (Kp r w wr) := hKq
                  have hszq := hKq.size
                  clear hRq hKq
                  by_cases hlm : m < n
                  · go_wp2_with (at_builtin; refine wpList_append_fits _ rfl _ _ 22 rfl w.heap.size 3 i0 1 Try.underlying22 hi hz1 w.heap.size (zs.length + m) cn _ rfl (hownq.alloc _) ⟨wr.heap.size, 0, none⟩ 1 1 [.int .i64 b] rfl rfl (by exact one_at _ _ _) ?c2 (by omega) ?_)
                    case c2 => intro u hu; simp at hu; subst hu; rfl
                    intro w3 hown3 hgrow3
                    have HK3 : Hid (Kp r w w3) := (HKQ.out.alloc _).grown hgrow3 (by intro g hg; simp at hg; omega)
                    have HR3 : Hid (w3.heap[r]? = some (rdr s (p + R.length + (vint n).length + 1))) := by
                      show _ = _
                      rw [hgrow3.block r (by simp; omega) (by simp; omega), Below.heap_alloc wr _ r (by omega)]
                      exact HRQ.out
                    rw [rep_snoc] at hown3
                    clear hownq hgrow3 HKQ HRQ
                    go_wp2
                    go_roundw
                    case rel => exact ⟨m + 1, by omega, by go_num, by first | rfl | (rw [Nat.add_assoc]), HR3.out, by rw [← Nat.add_assoc]; exact hown3, HK3.out⟩
                    case measure => simp [intOf]; omega
                  · obtain rfl : m = n := by omega
                    go_wp2
                    go_roundw
                    case rel => exact ⟨zs ++ List.replicate m b, R ++ (vint m ++ [b.toNat]), by simp, HMORE.out, by simp; omega, by rw [show p + (R ++ (vint m ++ [b.toNat])).length = p + R.length + (vint m).length + 1 by simp; omega]; exact HRQ.out, by simpa using hownq, HKQ.out⟩
                    case measure => simp; omega
              · obtain rfl : zs = [] := List.length_eq_zero_iff.1 (by omega)
                have hnc : n ≤ cn := by simpa using hnle
                have e6 : decide (cn < n) = false := by simp; omega
                have e7 : decide ((cn : Int) < (n : Int)) = false := by simp; omega
                have hc0 : 0 < cn := by simpa using hlt
                clear hsame h0 e0 e1 hnle hle hlt
                go_wp2_with fail
                go_loopw [5, 46] (fun lv i wq => ∃ m : Nat, m ≤ n ∧ i = .int .i64 (m : Int) ∧ lv = .slice (some ⟨w.heap.size, 0, none⟩) m cn ∧ wq.heap[r]? = some (rdr s (p + R.length + (vint n).length + 1)) ∧
                    wq.ownsRow w.heap.size 3 1 (.slice (some ⟨w.heap.size, 0, none⟩) m cn) m (icells (List.replicate m b)) ∧ Kp r w wq) (fun _ i _ => n - (intOf i).toNat)
                case atStart => exact ⟨0, Nat.zero_le _, rfl, rfl, HR2.out, HO2.out, HK2.out⟩
                case round =>
                  clear HR2 HO2 HK2
                  obtain ⟨m, hmn, rfl, rfl, hRq, hownq, hKq⟩ := hrel
                  have HRQ : Hid (wr.heap[r]? = some (rdr s (p + R.length + (vint n).length + 1))) := hRq
                  have HKQ : Hid (Kp r w wr) := hKq
                  have hszq := hKq.size
                  clear hRq hKq
                  by_cases hlm : m < n
                  · go_wp2_with (at_builtin; refine wpList_append_fits _ rfl _ _ 22 rfl w.heap.size 3 i0 1 Try.underlying22 hi hz1 w.heap.size m cn _ rfl (hownq.alloc _) ⟨wr.heap.size, 0, none⟩ 1 1 [.int .i64 b] rfl rfl (by exact one_at _ _ _) ?c2 (by omega) ?_)
                    case c2 => intro u hu; simp at hu; subst hu; rfl
                    intro w3 hown3 hgrow3
                    have HK3 : Hid (Kp r w w3) := (HKQ.out.alloc _).grown hgrow3 (by intro g hg; simp at hg; omega)
                    have HR3 : Hid (w3.heap[r]? = some (rdr s (p + R.length + (vint n).length + 1))) := by
                      show _ = _
                      rw [hgrow3.block r (by simp; omega) (by simp; omega), Below.heap_alloc wr _ r (by omega)]
                      exact HRQ.out
                    rw [show icells (List.replicate m b) ++ [.int .i64 b] = icells (List.replicate (m + 1) b) from rep_snoc [] m b] at hown3
                    clear hownq hgrow3 HKQ HRQ
                    go_wp2
                    go_roundw
                    case rel => exact ⟨m + 1, by omega, by go_num, rfl, HR3.out, hown3, HK3.out⟩
                    case measure => simp [intOf]; omega
                  · obtain rfl : m = n := by omega
                    go_wp2
                    go_roundw
                    case rel => exact ⟨List.replicate m b, R ++ (vint m ++ [b.toNat]), by simp, by simpa using HMORE.out, by simp; omega, by rw [show p + (R ++ (vint m ++ [b.toNat])).length = p + R.length + (vint m).length + 1 by simp; omega]; exact HRQ.out, by simpa using hownq, HKQ.out⟩
                    case measure => simp; omega
        · have HNO : Hid (∀ L : List Int, L.length = cn → Bits L → ¬ Starts (bytesOf s) p (runsB L)) := by
            intro L hL hb hs
            obtain ⟨n', b', m, g1, g2, g3, g4, g5, g6, g7, g8⟩ := HS.out.next hlt L hL hb hs
            have e1 := vint_one (by omega) (by have := HN.out; omega) g5 HS1.out
            subst e1
            exact hno b' g3 g6
          have HK2 : Hid (Kp r w w2) := HK1.out.trans hK2
          clear hno hK2 HK1 HO1
          go_wp2
          exact ⟨rfl, HK2.out, .inr ⟨q, rfl, HNO.out⟩⟩
      · have HNO : Hid (∀ L : List Int, L.length = cn → Bits L → ¬ Starts (bytesOf s) p (runsB L)) := by
          intro L hL hb hs
          obtain ⟨n', b', m, g1, g2, g3, g4, g5, g6, g7, g8⟩ := HS.out.next hlt L hL hb hs
          exact hno n' (by omega) g5
        have HK1 : Hid (Kp r w w1) := HK.out.trans hK1
        clear hno hK1 HK HO
        go_wp2
        exact ⟨rfl, HK1.out, .inr ⟨q, rfl, HNO.out⟩⟩
    · obtain ⟨d1, d2, d3⟩ := HS.out.done hlt
      have HD : Hid (runsB zs = R) := d2
      have HU : Hid (∀ L : List Int, L.length = cn → Bits L → Starts (bytesOf s) p (runsB L) → L = zs) := d3
      have hST : Starts (bytesOf s) p R := HS.out.st
      have HST : Hid (Starts (bytesOf s) p R) := hST
      clear d2 d3 hST
      go_wp2
      go_ret
      exact ⟨HK.out, .inl ⟨zs, _, rfl, d1, HS.out.bits, by rw [HD.out]; exact HST.out, HU.out, by rw [HD.out]; exact hpl, by rw [HD.out]; exact HRR.out, HO.out⟩⟩
end Go.Proofs.Ytjidbonhhpkljaa.Ec

/- The contract of the document's Pack. -/
set_option linter.unusedVariables false
namespace Go.Proofs.Ytjidbonhhpkljaa.Pk
open Go.RowKit Go.Proofs.Ytjidbonhhpkljaa.Pm

set_option maxRecDepth 100000 in
set_option maxHeartbeats 2000000 in
theorem rPack_any (zs : List Int) (wd : Int) (ao : Option Addr) (b off cap : Nat) (w : World) (hm : zs.length ≤ maxLen)
    (hs : 0 < zs.length → ao = some ⟨b, off, none⟩) (hb : 0 < zs.length → b < w.heap.size) (hc : ∀ j, j < zs.length → w.cell? ⟨b, off + j, none⟩ = some (.int .i64 (zs.getD j 0))) :
    Calls Try.prog 10 #[.slice ao zs.length cap, .int .i64 wd] w fun e w' => e = .returned (.tuple #[.string (packOf zs wd).1, .int .i64 (packOf zs wd).2]) ∧ Below w.heap.size w w' := by
  unfold maxLen at hm
  by_cases h1 : 100 < zs.length
  · rw [packOf_long h1]
    go_enter Try.func10, Try.ntmps10
    go_wp2
    all_goals go_ret2
    all_goals exact ⟨rfl, Below.refl _ _⟩
  by_cases h2 : wd < 0 ∨ 16 < wd
  · rw [packOf_wide h1 h2]
    rcases h2 with h2 | h2
    all_goals
      go_enter Try.func10, Try.ntmps10
      go_wp2
      all_goals go_ret2
      all_goals exact ⟨rfl, Below.refl _ _⟩
  have h3 : 0 ≤ wd := by omega
  have h4 : wd ≤ 16 := by omega
  clear h2
  obtain ⟨wn, rfl⟩ := Int.eq_ofNat_of_zero_le h3
  have hwn : wn ≤ 16 := by omega
  have hp0 := pw_pos wn
  have hp1 := pw_16 wn (by omega)
  go_enter Try.func10, Try.ntmps10
  go_wp2_with fail
  go_loopw [6] (fun i wr => ∃ k : Nat, k ≤ zs.length ∧ i = .int .i64 k ∧ (∀ j, j < k → (hj : j < zs.length) → 0 ≤ zs[j] ∧ zs[j] < pw wn) ∧ ∃ n, wr = w.drewN n) (fun i _ => zs.length - (intOf i).toNat)
  case atStart => exact ⟨0, Nat.zero_le _, rfl, fun j hj => by omega, 0, rfl⟩
  case round =>
    obtain ⟨k, hk, rfl, hall, n, hwr⟩ := hrel
    have HW : Hid (wr = w.drewN n) := hwr
    clear hwr
    have HA : Hid (∀ j, j < k → (hj : j < zs.length) → 0 ≤ zs[j] ∧ zs[j] < pw wn) := hall
    clear hall
    by_cases hlt : k < zs.length
    · obtain rfl := hs (by omega)
      have hcx := hc k hlt
      rw [getD_get hlt, show w.cell? ⟨b, off + k, none⟩ = wr.cell? ⟨b, off + k, none⟩ from by rw [HW.out]; rfl] at hcx
      have HX : Hid ((zs[k] < 0 ∨ pw wn ≤ zs[k]) → packOf zs (wn : Int) = (ByteArray.empty, 1)) := fun h => packOf_bad h1 (by omega) (fitsW_bad hlt h)
      have HY : Hid (¬ (zs[k] < 0 ∨ pw wn ≤ zs[k]) → ∀ j, j < k + 1 → (hj : j < zs.length) → 0 ≤ zs[j] ∧ zs[j] < pw wn) := by
        intro h j hj hjl
        by_cases e : j = k
        · subst e; omega
        · exact HA.out j (by omega) hjl
      clear hc hs hb HA
      generalize zs[k] = z at *
      by_cases hz : z < 0
      · have hzd : decide (z < 0) = true := by simpa using hz
        have HX2 := HX.out (.inl hz)
        have HX3 : Hid (packOf zs (wn : Int) = (ByteArray.empty, 1)) := HX2
        clear HX HX2 HY
        go_wp2_with fail
        go_quiet (fail)
        go_wp2
        go_ret2
        rw [HX3.out, HW.out]
        exact ⟨rfl, below_drewN (below_drewN (Below.refl _ _) _) _⟩
      · have hzd : decide (z < 0) = false := by simpa using hz
        by_cases hz2 : pw wn ≤ z
        · have HX3 : Hid (packOf zs (wn : Int) = (ByteArray.empty, 1)) := HX.out (.inr hz2)
          clear HX HY
          go_wp2_with fail
          go_quiet ((go_at_call 34; exact Calls.quiet_of_same (power_nat wn hwn _)))
          go_wp2
          go_ret2
          rw [HX3.out]
          rw [HW.out]
          exact ⟨rfl, below_drewN (below_drewN (Below.refl _ _) _) _⟩
        · have HY2 : Hid (∀ j, j < k + 1 → (hj : j < zs.length) → 0 ≤ zs[j] ∧ zs[j] < pw wn) := HY.out (by omega)
          clear HX HY
          go_wp2_with fail
          go_quiet ((go_at_call 34; exact Calls.quiet_of_same (power_nat wn hwn _)))
          go_wp2
          go_roundw
          case rel => exact ⟨k + 1, by omega, by go_num, HY2.out, n + nq, by rw [HW.out]; exact World.drewN_drewN _ _ _⟩
          case measure => simp [intOf]; omega
    · have hkl : k = zs.length := by omega
      subst hkl
      have hf : fitsW wn zs = true := fitsW_all fun j hj => HA.out j hj hj
      have HP : Hid (packOf zs (wn : Int) = (strOf (packBytes wn (zs.map Int.toNat)), 0)) := packOf_ok h1 (by omega) hf
      clear HA
      have HF : Hid (fitsW wn zs = true) := hf
      clear hf
      go_wp2_with (go_at_call 35; refine (bits_ints zs wn ao b off cap _ (by omega) h1 HF.out hs (by rw [HW.out]; exact hb) (by rw [HW.out]; exact hc)).mono ?_; rintro e w' ⟨rfl, hbel⟩)
      go_ret2
      rw [HP.out]
      rw [HW.out] at hbel
      exact ⟨rfl, (below_drewN (Below.refl _ _) n).trans hbel⟩
end Go.Proofs.Ytjidbonhhpkljaa.Pk

/- The contract of the code's Pack: the document's answer. -/
set_option linter.unusedVariables false
namespace Go.Proofs.Ytjidbonhhpkljaa.Pk
open Go.RowKit Go.Proofs.Ytjidbonhhpkljaa.Pm

theorem wrap_pow (wn : Nat) (h : wn ≤ 16) : wrap64 ((2 : Int) ^ wn) = pw wn := by
  have h0 := pw_pos wn
  have h1 := pw_16 wn h
  have e : (2 : Int) ^ wn = pw wn := by unfold pw; push_cast; rfl
  rw [e]; unfold wrap64; omega

set_option maxRecDepth 100000 in
set_option maxHeartbeats 2000000 in
theorem cPack_any (zs : List Int) (wd : Int) (ao : Option Addr) (b off cap : Nat) (w : World) (hm : zs.length ≤ maxLen)
    (hs : 0 < zs.length → ao = some ⟨b, off, none⟩) (hb : 0 < zs.length → b < w.heap.size) (hc : ∀ j, j < zs.length → w.cell? ⟨b, off + j, none⟩ = some (.int .i64 (zs.getD j 0))) :
    Calls Try.prog 12 #[.slice ao zs.length cap, .int .i64 wd] w fun e w' => e = .returned (.tuple #[.string (packOf zs wd).1, .int .i64 (packOf zs wd).2]) ∧ Below w.heap.size w w' := by
  unfold maxLen at hm
  by_cases h1 : 100 < zs.length
  · rw [packOf_long h1]
    have H := checkPacking_any (zs.length : Int) wd
    rw [show packE (zs.length : Int) wd = 6 from by simp [packE]; omega] at H
    go_enter Try.func12, Try.ntmps12
    go_wp2_with (go_at_call 36; refine (H _).mono ?_; rintro e w' ⟨rfl, rfl⟩)
    all_goals go_ret2
    all_goals exact ⟨rfl, Below.refl _ _⟩
  by_cases h2 : wd < 0 ∨ 16 < wd
  · rw [packOf_wide h1 h2]
    have H := checkPacking_any (zs.length : Int) wd
    rw [show packE (zs.length : Int) wd = 2 from by simp [packE, h2]; omega] at H
    go_enter Try.func12, Try.ntmps12
    go_wp2_with (go_at_call 36; refine (H _).mono ?_; rintro e w' ⟨rfl, rfl⟩)
    all_goals go_ret2
    all_goals exact ⟨rfl, Below.refl _ _⟩
  have h3 : 0 ≤ wd := by omega
  have h4 : wd ≤ 16 := by omega
  clear h2
  obtain ⟨wn, rfl⟩ := Int.eq_ofNat_of_zero_le h3
  have H := checkPacking_any (zs.length : Int) (wn : Int)
  rw [show packE (zs.length : Int) (wn : Int) = 0 from by simp [packE]; omega] at H
  have hp0 := pw_pos wn
  have hp1 := pw_16 wn (by omega)
  have hpw := wrap_pow wn (by omega)
  go_enter Try.func12, Try.ntmps12
  go_wp2_with (go_at_call 36; refine (H _).mono ?_; rintro e w' ⟨rfl, rfl⟩)
  clear H
  go_loop [18] (fun i => ∃ k : Nat, k ≤ zs.length ∧ i = .int .i64 k ∧ (∀ j, j < k → (hj : j < zs.length) → 0 ≤ zs[j] ∧ zs[j] < pw wn)) (fun i => zs.length - (intOf i).toNat)
  case atStart => exact ⟨0, Nat.zero_le _, rfl, fun j hj => by omega⟩
  case round =>
    obtain ⟨k, hk, rfl, hall⟩ := hrel
    have HA : Hid (∀ j, j < k → (hj : j < zs.length) → 0 ≤ zs[j] ∧ zs[j] < pw wn) := hall
    clear hall
    by_cases hlt : k < zs.length
    · obtain rfl := hs (by omega)
      have hcx := hc k hlt
      rw [getD_get hlt] at hcx
      have HX : Hid ((zs[k] < 0 ∨ pw wn ≤ zs[k]) → packOf zs (wn : Int) = (ByteArray.empty, 1)) := fun h => packOf_bad h1 (by omega) (fitsW_bad hlt h)
      have HY : Hid (¬ (zs[k] < 0 ∨ pw wn ≤ zs[k]) → ∀ j, j < k + 1 → (hj : j < zs.length) → 0 ≤ zs[j] ∧ zs[j] < pw wn) := by
        intro h j hj hjl
        by_cases e : j = k
        · subst e; omega
        · exact HA.out j (by omega) hjl
      clear hc hs hb HA
      generalize zs[k] = z at *
      by_cases hz : z < 0
      · have HX3 : Hid (packOf zs (wn : Int) = (ByteArray.empty, 1)) := HX.out (.inl hz)
        clear HX HY
        go_wp2
        go_ret2
        rw [HX3.out]
        exact ⟨rfl, Below.refl _ _⟩
      · by_cases hz2 : pw wn ≤ z
        · have HX3 : Hid (packOf zs (wn : Int) = (ByteArray.empty, 1)) := HX.out (.inr hz2)
          clear HX HY
          go_wp2
          go_ret2
          rw [HX3.out]
          exact ⟨rfl, Below.refl _ _⟩
        · have HY2 : Hid (∀ j, j < k + 1 → (hj : j < zs.length) → 0 ≤ zs[j] ∧ zs[j] < pw wn) := HY.out (by omega)
          clear HX HY
          go_wp2
          go_round
          case rel => exact ⟨k + 1, by omega, by go_num, HY2.out⟩
          case measure => simp [intOf]; omega
    · have hkl : k = zs.length := by omega
      subst hkl
      have hf : fitsW wn zs = true := fitsW_all fun j hj => HA.out j hj hj
      have HP : Hid (packOf zs (wn : Int) = (strOf (packBytes wn (zs.map Int.toNat)), 0)) := packOf_ok h1 (by omega) hf
      clear HA
      have HF : Hid (fitsW wn zs = true) := hf
      clear hf
      go_wp2_with (go_at_call 37; refine (appendPacked_ints zs wn ao b off cap _ (by omega) h1 HF.out hs hb hc).mono ?_; rintro e w' ⟨v, rfl, hown, hbel⟩; have hcv := run_string_own hown rfl)
      go_ret2
      rw [HP.out]
      exact ⟨rfl, hbel⟩
end Go.Proofs.Ytjidbonhhpkljaa.Pk

/- The contract of the code's readPacked: the numbers of so many bits that stand in the next bytes, or a panic. -/
set_option linter.unusedVariables false
namespace Go.Proofs.Ytjidbonhhpkljaa.Pm

theorem mod_div_mod (v a b c : Nat) (h : c ≤ b) : v % 2 ^ (a + b) / 2 ^ a % 2 ^ c = v / 2 ^ a % 2 ^ c := by
  rw [Nat.pow_add, Nat.mod_mul_right_div_self, show b = c + (b - c) by omega, Nat.pow_add, Nat.mod_mul_right_mod]

/-- What is held behind nb bytes and i numbers. -/
def heldOf (v wd nb i : Nat) : Nat := v % 2 ^ (8 * nb) / 2 ^ (wd * i)

theorem heldOf_lt (v wd nb i q : Nat) (h : 8 * nb = wd * i + q) : heldOf v wd nb i < 2 ^ q := by
  unfold heldOf
  rw [Nat.div_lt_iff_lt_mul (Nat.pow_pos (by omega)), ← Nat.pow_add, show q + wd * i = 8 * nb by omega]
  exact Nat.mod_lt _ (Nat.pow_pos (by omega))

theorem heldOf_byte (v wd nb i q : Nat) (h : 8 * nb = wd * i + q) : heldOf v wd (nb + 1) i = heldOf v wd nb i + 2 ^ q * (v / 256 ^ nb % 256) := by
  unfold heldOf
  rw [show 8 * (nb + 1) = 8 * nb + 8 by omega, Nat.pow_add, Nat.mod_mul, pow256, show (2 : Nat) ^ 8 = 256 by rfl]
  conv => lhs; rw [h, Nat.pow_add, Nat.mul_assoc]
  rw [Nat.add_mul_div_left _ _ (Nat.pow_pos (by omega)), h, Nat.pow_add]

theorem heldOf_num (v wd nb i : Nat) (q : Nat) (h : 8 * nb = wd * i + q) (hq : wd ≤ q) : heldOf v wd nb i % 2 ^ wd = v / 2 ^ (wd * i) % 2 ^ wd := by
  unfold heldOf
  rw [h, mod_div_mod _ _ _ _ hq]

theorem heldOf_next (v wd nb i : Nat) : heldOf v wd nb i / 2 ^ wd = heldOf v wd nb (i + 1) := by
  unfold heldOf
  rw [Nat.div_div_eq_div_mul, ← Nat.pow_add, Nat.mul_succ]

theorem heldOf_zero (v wd : Nat) : heldOf v wd 0 0 = 0 := by simp [heldOf, Nat.mod_one]
end Go.Proofs.Ytjidbonhhpkljaa.Pm

namespace Go.Proofs.Ytjidbonhhpkljaa.Pk
open Go.RowKit Go.Proofs.Ytjidbonhhpkljaa.Pm

/-- The number that the bytes from a place on spell. -/
def restV (s : ByteArray) (p : Nat) : Nat := V ((bytesOf s).drop p)

theorem restV_byte (s : ByteArray) (p nb : Nat) (h : p + nb < s.size) : s[p + nb].toNat = restV s p / 256 ^ nb % 256 := by
  unfold restV
  have h1 : ∀ x ∈ (bytesOf s).drop p, x < 256 := fun x hx => bytesOf_lt s x (List.mem_of_mem_drop hx)
  rw [← V_get _ nb h1, List.getElem?_drop, List.getElem?_eq_getElem (by rw [bytesOf_length]; exact h), Option.getD_some, bytesOf_get s _ h]

/-- Are the next bytes just those of so many numbers? -/
def readOk (s : ByteArray) (p wd cn : Nat) : Prop := p + (cn * wd + 7) / 8 ≤ s.size ∧ heldOf (restV s p) wd ((cn * wd + 7) / 8) cn = 0

theorem and_mask (hh wd : Nat) (hw : wd ≤ 16) (hh0 : hh < 16777216) : bits .and .i64 (hh : Int) (wrap64 (pw wd - 1)) = ((hh % 2 ^ wd : Nat) : Int) := by
  have h0 := pw_pos wd
  have h1 := pw_16 wd hw
  rw [show wrap64 (pw wd - 1) = pw wd - 1 from by unfold wrap64; omega]
  have e : pw wd = (2 : Int) ^ wd := by unfold pw; push_cast; rfl
  rw [e, bits_mask .i64 62 (by decide) wraps_i64 wd (by omega) (hh : Int) (by omega) (by omega)]
  push_cast; rfl

theorem shr_wd (hh wd : Nat) : (hh : Int) / 2 ^ wd = ((hh / 2 ^ wd : Nat) : Int) := by push_cast; rfl

set_option maxRecDepth 100000 in
set_option maxHeartbeats 2000000 in
theorem readPacked_any (s : ByteArray) (r p wd cn : Nat) (w : World) (hm : s.size ≤ maxLen) (hw : wd ≤ 16) (hcn : cn ≤ 100) (hp : p ≤ s.size) (h : w.heap[r]? = some (rdr s p)) :
    Calls Try.prog 53 #[.pointer (some ⟨r, 0, none⟩), .int .i64 wd, .int .i64 cn] w fun e w' => Kp r w w' ∧
      ((e = .returned (.slice (some ⟨w.heap.size, 0, none⟩) cn cn) ∧ readOk s p wd cn ∧ w'.heap[r]? = some (rdr s (p + (cn * wd + 7) / 8)) ∧
        w'.ownsRow w.heap.size 3 1 (.slice (some ⟨w.heap.size, 0, none⟩) cn cn) cn (icells (intsOf (D wd (restV s p) cn)))) ∨
       (∃ q, e = .panicked (badAt q) ∧ ¬ readOk s p wd cn)) := by
  obtain ⟨i0, hi, hz0, hz1, hz2⟩ := info_parts Try.info3
  have hrl : r < w.heap.size := lt_of_block h
  have hp0 := pw_pos wd
  have hp1 := pw_16 wd hw
  have hpw := wrap_pow wd hw
  have HR : Hid (w.heap[r]? = some (rdr s p)) := h
  clear h
  go_enter Try.func53, Try.ntmps53
  go_wp2_with (at_make; refine wpList_make_own _ rfl _ _ 22 rfl w.heap.size 3 i0 (.int .i64 0) 1 Try.underlying22 hi hz0 hz1 .i64 .i64 _ cn rfl rfl rfl (by rw [hz2]; omega) (by unfold maxLen; omega) (Nat.le_refl _) ?_; intro w0 hown0 hgrow0)
  have hbel0 : Kp r w w0 := (Kp.refl _ _).grown hgrow0 (by simp)
  have HR0 : Hid (w0.heap[r]? = some (rdr s (p + 0))) := by show _ = _; rw [hgrow0.block r hrl (by simp)]; exact HR.out
  clear HR hgrow0
  go_loopw [7, 8, 9, 13] (fun lv h q i wr => ∃ (k nb qq : Nat), k ≤ cn ∧ i = .int .i64 k ∧ lv = .slice (some ⟨w.heap.size, 0, none⟩) k cn ∧ q = .int .i64 qq ∧ qq < 8 ∧ 8 * nb = wd * k + qq ∧ p + nb ≤ s.size ∧
      h = .int .i64 ((heldOf (restV s p) wd nb k : Nat) : Int) ∧ wr.heap[r]? = some (rdr s (p + nb)) ∧
      wr.ownsRow w.heap.size 3 1 (.slice (some ⟨w.heap.size, 0, none⟩) k cn) k (icells (intsOf (D wd (restV s p) k))) ∧ Kp r w wr) (fun _ _ _ i _ => cn - (intOf i).toNat)
  case atStart => exact ⟨0, 0, 0, Nat.zero_le _, rfl, rfl, rfl, by omega, by simp, by omega, by rw [heldOf_zero]; rfl, HR0.out, hown0, hbel0⟩
  case round =>
    clear hown0 hbel0 HR0
    obtain ⟨k, nb, qq, hk, rfl, rfl, rfl, hq8, hnq, hpn, rfl, hR, hown, hbel⟩ := hrel
    have HNQ : Hid (8 * nb = wd * k + qq) := hnq
    have HRR : Hid (wr.heap[r]? = some (rdr s (p + nb))) := hR
    clear hnq hR
    by_cases hlt : k < cn
    · have hkw : wd * (k + 1) ≤ 16 * 100 := Nat.mul_le_mul hw (by omega)
      have hcw : wd * (k + 1) ≤ wd * cn := Nat.mul_le_mul_left _ hlt
      go_wp2_with fail
      go_loopw [8, 9] (fun h q wr => ∃ (nb qq : Nat), q = .int .i64 qq ∧ qq < wd + 8 ∧ 8 * nb = wd * k + qq ∧ p + nb ≤ s.size ∧ h = .int .i64 ((heldOf (restV s p) wd nb k : Nat) : Int) ∧ wr.heap[r]? = some (rdr s (p + nb)) ∧
          wr.ownsRow w.heap.size 3 1 (.slice (some ⟨w.heap.size, 0, none⟩) k cn) k (icells (intsOf (D wd (restV s p) k))) ∧ Kp r w wr) (fun _ q _ => wd + 8 - (intOf q).toNat)
      case atStart => exact ⟨nb, qq, rfl, by omega, HNQ.out, hpn, rfl, HRR.out, hown, hbel⟩
      case round =>
        clear hown hbel HRR HNQ hpn hq8
        obtain ⟨nb, qq, rfl, hq8, hnq, hpn, rfl, hR, hown, hbel⟩ := hrel
        have hhq := heldOf_lt (restV s p) wd nb k qq hnq
        have HNX : Hid _ := heldOf_byte (restV s p) wd nb k qq hnq
        have HNU : Hid (wd ≤ qq → heldOf (restV s p) wd nb k % 2 ^ wd = restV s p / 2 ^ (wd * k) % 2 ^ wd) := heldOf_num (restV s p) wd nb k qq hnq
        have HNE : Hid _ := heldOf_next (restV s p) wd nb k
        have HNQ : Hid (8 * nb = wd * k + qq) := hnq
        have HRR : Hid (wr.heap[r]? = some (rdr s (p + nb))) := hR
        have hhb : heldOf (restV s p) wd nb k < 16777216 := by have h2 : 2 ^ qq ≤ 2 ^ 24 := Nat.pow_le_pow_right (by omega) (by omega); omega
        clear hnq hR
        generalize heldOf (restV s p) wd nb k = hh at *
        by_cases hqw : qq < wd
        · by_cases hin : p + nb < s.size
          · have hby : Hid (s[p + nb].toNat = restV s p / 256 ^ nb % 256) := restV_byte s p nb hin
            have hyb : s[p + nb].toNat < 256 := s[p + nb].toNat_lt
            have hor := or_shl hh s[p + nb].toNat qq (by omega) (by omega) hhq
            rw [show hh + 2 ^ qq * s[p + nb].toNat = heldOf (restV s p) wd (nb + 1) k from by rw [HNX.out, hby.out]] at hor
            have HB : Hid (∀ w, w.heap[r]? = some (rdr s (p + nb)) → Calls Try.prog 83 #[.pointer (some ⟨r, 0, none⟩)] w fun e w' => e = .returned (.int .u8 (s[p + nb].toNat : Int)) ∧ ∃ n, w' = (w.setCell ⟨r, 1, none⟩ (.int .i64 ((p + nb + 1 : Nat) : Int))).drewN n) :=
              fun w hw => byte_ok r (p + nb) s w hm hin hw
            clear hby HNX HNU HNE
            have HH2 : Hid (∃ h2, h2 = heldOf (restV s p) wd (nb + 1) k) := ⟨_, rfl⟩
            generalize hh2 : heldOf (restV s p) wd (nb + 1) k = h2 at *
            have HHE : Hid (heldOf (restV s p) wd (nb + 1) k = h2) := hh2
            clear hh2 HH2
            generalize s[p + nb].toNat = y at *
            go_wp2_with (go_at_call 83; refine (HB.out _ HRR.out).mono ?_; rintro e w' ⟨rfl, n, rfl⟩)
            go_roundw
            case rel => exact ⟨nb + 1, qq + 8, by go_num, by omega, by have := HNQ.out; omega, by omega, by rw [HHE.out], rdr_set HRR.out n, ownsRow_drewN (ownsRow_setCell_below hown (by exact hrl) _) n, hbel.set _ _ n⟩
            case measure => simp [intOf]; omega
          · have HNO : Hid (¬ readOk s p wd cn) := by
              rintro ⟨h1, _⟩
              have h2 := HNQ.out
              rw [Nat.mul_succ] at hcw
              rw [Nat.mul_comm cn wd] at h1
              omega
            go_wp2_with (go_at_call 83; refine (byte_bad r (p + nb) s _ hm hin hpn HRR.out).mono ?_; rintro e w' ⟨rfl, n, rfl⟩)
            exact ⟨rfl, hbel.drewN n, .inr ⟨_, rfl, HNO.out⟩⟩
        · have hand := and_mask hh wd hw hhb
          rw [HNU.out (by omega)] at hand
          have hsh := shr_wd hh wd
          rw [HNE.out] at hsh
          have HD : Hid (D wd (restV s p) (k + 1) = D wd (restV s p) k ++ [restV s p / 2 ^ (wd * k) % 2 ^ wd]) := rfl
          generalize restV s p / 2 ^ (wd * k) % 2 ^ wd = x at *
          go_wp2_with (at_builtin; refine wpList_append_fits _ rfl _ _ 22 rfl w.heap.size 3 i0 1 Try.underlying22 hi hz1 w.heap.size k cn _ rfl (hown.alloc _) ⟨wr.heap.size, 0, none⟩ 1 1 [.int .i64 (x : Int)] rfl rfl ?c1 ?c2 (by omega) ?_)
          case c1 =>
            intro j u hj
            match j, hj with
            | 0, hj => simp at hj; subst hj; simp [Addr.add]
          case c2 => intro u hu; simp at hu; subst hu; rfl
          · intro w1 hown' hgrow
            have hbel' : Kp r w w1 := (hbel.alloc _).grown hgrow (by intro g hg; simp at hg; omega)
            have HR1 : Hid (w1.heap[r]? = some (rdr s (p + nb))) := by
              show _ = _
              rw [hgrow.block r (by have := hbel.size; simp; omega) (by simp; omega), Below.heap_alloc wr _ r (by have := hbel.size; omega)]
              exact HRR.out
            rw [icells_snoc] at hown'
            clear hown hgrow hbel HRR hand
            go_wp2
            go_roundw
            case rel => exact ⟨k + 1, nb, qq - wd, by omega, by go_num, rfl, by go_num, by omega, by have := HNQ.out; rw [Nat.mul_succ]; omega, hpn, rfl, HR1.out, by rw [HD.out]; simpa [intsOf] using hown', hbel'⟩
            case measure => simp [intOf]; omega
    · have hkc : k = cn := by omega
      subst hkc
      have hnb : nb = (k * wd + 7) / 8 := by have := HNQ.out; rw [Nat.mul_comm wd k] at this; omega
      by_cases hh0 : heldOf (restV s p) wd nb k = 0
      · have HOK : Hid (readOk s p wd k) := ⟨by rw [← hnb]; exact hpn, by rw [← hnb]; exact hh0⟩
        rw [hh0]
        have HNB : Hid (nb = (k * wd + 7) / 8) := hnb
        clear hh0 hnb
        go_wp2
        go_ret
        exact ⟨hbel, .inl ⟨rfl, HOK.out, by rw [← HNB.out]; exact HRR.out, hown⟩⟩
      · have HOK : Hid (¬ readOk s p wd k) := by rintro ⟨_, h2⟩; rw [← hnb] at h2; exact hh0 h2
        have hhp : 0 < heldOf (restV s p) wd nb k := by omega
        clear hh0 hnb
        generalize heldOf (restV s p) wd nb k = hh at *
        have hne : ((hh : Int) != 0) = true := by simp; omega
        go_wp2_with (go_at_call 84; refine (giveUp_any r (p + nb) s _ HRR.out).mono ?_; rintro e w' ⟨rfl, rfl⟩)
        exact ⟨rfl, hbel, .inr ⟨_, rfl, HOK.out⟩⟩
end Go.Proofs.Ytjidbonhhpkljaa.Pk

/- Dictionaries and whole columns, read: as plain mathematics. -/
set_option linter.unusedVariables false
namespace Go.Proofs.Ytjidbonhhpkljaa.Ec
open Go.RowKit Go.Proofs.Ytjidbonhhpkljaa.Pk Go.Proofs.Ytjidbonhhpkljaa.Pm

theorem N_inj (w : Nat) : ∀ (a b : List Nat), (∀ x ∈ a, x < 2 ^ w) → (∀ x ∈ b, x < 2 ^ w) → a.length = b.length → N w a = N w b → a = b := by
  intro a
  induction a with
  | nil => intro b _ _ hl _; exact (List.length_eq_zero_iff.1 (by simpa using hl.symm)).symm
  | cons x r ih =>
    intro b ha hb hl h
    cases b with
    | nil => simp at hl
    | cons y t =>
      simp only [N] at h
      have hx := ha x (by simp)
      have hy := hb y (by simp)
      have h1 : x = y := by
        have := congrArg (· % 2 ^ w) h
        simpa [Nat.add_mul_mod_self_left, Nat.mod_eq_of_lt hx, Nat.mod_eq_of_lt hy] using this
      subst h1
      have h2 : N w r = N w t := Nat.eq_of_mul_eq_mul_left (Nat.pow_pos (n := w) (show 0 < 2 by omega)) (by omega)
      rw [ih t (fun z hz => ha z (by simp [hz])) (fun z hz => hb z (by simp [hz])) (by simpa using hl) h2]

theorem rest_take (s : ByteArray) (p nb : Nat) : V (((bytesOf s).drop p).take nb) = restV s p % 2 ^ (8 * nb) := by
  rw [V_take _ _ (fun x hx => bytesOf_lt s x (List.mem_of_mem_drop hx)), pow256]
  rfl
theorem held_zero (v wd nb cn : Nat) : heldOf v wd nb cn = 0 ↔ v % 2 ^ (8 * nb) < 2 ^ (wd * cn) := by
  unfold heldOf
  rw [Nat.div_eq_zero_iff]
  have := Nat.pow_pos (n := wd * cn) (show 0 < 2 by omega)
  omega
theorem fill_le (wd cn : Nat) : wd * cn ≤ 8 * ((cn * wd + 7) / 8) := by rw [Nat.mul_comm wd cn]; omega

theorem packed_starts (s : ByteArray) (p wd cn : Nat) (hp : p ≤ s.size) (h : readOk s p wd cn) : Starts (bytesOf s) p (packBytes wd (D wd (restV s p) cn)) := by
  obtain ⟨h1, h2⟩ := h
  rw [held_zero] at h2
  have hl : (((bytesOf s).drop p).take ((cn * wd + 7) / 8)).length = (cn * wd + 7) / 8 := by
    rw [List.length_take, List.length_drop, bytesOf_length]; omega
  have := packBytes_of wd (D wd (restV s p) cn) (((bytesOf s).drop p).take ((cn * wd + 7) / 8)) (by rw [hl, D_length]) (fun x hx => bytesOf_lt s x (List.mem_of_mem_drop (List.mem_of_mem_take hx))) (by
    rw [rest_take, N_D, ← Nat.mod_mod_of_dvd (restV s p) (Nat.pow_dvd_pow 2 (fill_le wd cn)), Nat.mod_eq_of_lt h2])
  rw [← this]
  exact List.take_prefix _ _
theorem packed_reads (s : ByteArray) (p wd : Nat) (ps : List Nat) (hp : p ≤ s.size) (hlt : ∀ x ∈ ps, x < 2 ^ wd) (h : Starts (bytesOf s) p (packBytes wd ps)) : readOk s p wd ps.length ∧ D wd (restV s p) ps.length = ps := by
  have hlen := starts_len h (by rw [bytesOf_length]; exact hp)
  rw [packBytes_length, bytesOf_length] at hlen
  have ht : ((bytesOf s).drop p).take ((ps.length * wd + 7) / 8) = packBytes wd ps := by
    obtain ⟨t, ht⟩ := h
    rw [← ht, ← packBytes_length wd ps]
    simp
  have hv := rest_take s p ((ps.length * wd + 7) / 8)
  rw [ht] at hv
  have hN := N_lt wd ps hlt
  have hV : V (packBytes wd ps) = N wd ps := by
    rw [V_eq_N, packBytes, N_D, Nat.mod_eq_of_lt]
    exact Nat.lt_of_lt_of_le hN (Nat.pow_le_pow_right (by omega) (fill_le wd ps.length))
  rw [hV] at hv
  refine ⟨⟨hlen, ?_⟩, ?_⟩
  · rw [held_zero, ← hv]; exact hN
  · refine N_inj wd _ _ (D_lt _ _ _) hlt (D_length _ _ _) ?_
    rw [N_D, ← Nat.mod_mod_of_dvd (restV s p) (Nat.pow_dvd_pow 2 (fill_le wd ps.length)), ← hv, Nat.mod_eq_of_lt hN]

/-- How many places are known behind these, if each new one is the next. -/
def chk : Nat → List Nat → Option Nat
  | s, [] => some s
  | s, q :: r => if q < s then chk s r else if q = s then chk (s + 1) r else none
theorem chk_append (s : Nat) (a b : List Nat) : chk s (a ++ b) = (chk s a).bind (fun t => chk t b) := by
  induction a generalizing s with
  | nil => rfl
  | cons q r ih =>
    simp only [List.cons_append, chk]
    split
    · exact ih s
    · split
      · exact ih _
      · rfl
theorem chk_mono {s t : Nat} {l : List Nat} (h : chk s l = some t) : s ≤ t := by
  induction l generalizing s with
  | nil => simp [chk] at h; omega
  | cons q r ih =>
    simp only [chk] at h
    split at h
    · exact ih h
    · split at h
      · have := ih h; omega
      · cases h
theorem chk_lt {s t : Nat} {l : List Nat} (h : chk s l = some t) : ∀ q ∈ l, q < t := by
  induction l generalizing s with
  | nil => simp
  | cons q r ih =>
    intro x hx
    simp only [chk] at h
    split at h
    · rename_i hq
      have := chk_mono h
      rcases List.mem_cons.1 hx with rfl | hx
      · omega
      · exact ih h x hx
    · split at h
      · have := chk_mono h
        rcases List.mem_cons.1 hx with rfl | hx
        · omega
        · exact ih h x hx
      · cases h
theorem chk_take_succ (l : List Nat) (k : Nat) (hk : k < l.length) {t : Nat} (h : chk 0 (l.take k) = some t) : chk 0 (l.take (k + 1)) = if l[k] < t then some t else if l[k] = t then some (t + 1) else none := by
  rw [List.take_succ_eq_append_getElem hk, chk_append, h]
  rfl
theorem chk_split (l : List Nat) (k : Nat) : chk 0 l = (chk 0 (l.take k)).bind (fun t => chk t (l.drop k)) := by
  rw [← chk_append, List.take_append_drop]

theorem idx_mem (d : List Val) (v : Val) : idx d v < d.length ↔ v ∈ d := by
  constructor
  · intro h
    rw [← idx_at d v h]
    exact List.getElem_mem h
  · intro h
    obtain ⟨j, hj, rfl⟩ := List.getElem_of_mem h
    have := idx_before d d[j] j hj
    have hv : veq d[j] d[j] = true := veq_iff.2 rfl
    by_cases h2 : j < idx d d[j]
    · rw [this h2] at hv; cases hv
    · omega
theorem nodup_inj {d : List Val} (hd : d.Nodup) {i j : Nat} (hi : i < d.length) (hj : j < d.length) (h : d[i] = d[j]) : i = j := by
  have hp := List.pairwise_iff_getElem.1 hd
  rcases Nat.lt_trichotomy i j with h1 | h1 | h1
  · exact absurd h (hp i j hi hj h1)
  · exact h1
  · exact absurd h.symm (hp j i hj hi h1)
theorem idx_nodup (d : List Val) (hd : d.Nodup) (j : Nat) (hj : j < d.length) : idx d d[j] = j := by
  have h1 : idx d d[j] < d.length := (idx_mem d _).2 (List.getElem_mem hj)
  have h2 := idx_at d d[j] h1
  exact nodup_inj hd _ _ h2

theorem dfold_snoc (l : List Val) (v : Val) : dfold (l ++ [v]) = dstep (dfold l) v := by
  unfold dfold
  rw [List.foldl_append]
  rfl

/-- What a dictionary's entries and places speak of is written just so. -/
theorem dfold_of (d : List Val) (hd : d.Nodup) (z : Val) (ps : List Nat) : ∀ k t, k ≤ ps.length → chk 0 (ps.take k) = some t → t ≤ d.length → dfold ((ps.take k).map (fun q => d.getD q z)) = (d.take t, ps.take k) := by
  intro k
  induction k with
  | zero => intro t _ h _; simp [chk] at h; subst h; simp [dfold]
  | succ k ih =>
    intro t hk h ht
    have hk2 : k < ps.length := by omega
    rw [chk_split (ps.take (k + 1)) k, List.take_take, Nat.min_eq_left (by omega)] at h
    cases hc : chk 0 (ps.take k) with
    | none => rw [hc] at h; cases h
    | some t0 =>
      rw [hc] at h
      have hd1 : (ps.take (k + 1)).drop k = [ps[k]] := by
        rw [List.take_succ_eq_append_getElem hk2, List.drop_append_of_le_length (by rw [List.length_take]; omega)]
        simp
      simp only [Option.bind_some, hd1, chk] at h
      rw [List.take_succ_eq_append_getElem hk2, List.map_append, List.map_singleton, dfold_snoc]
      by_cases h1 : ps[k] < t0
      · rw [if_pos h1] at h
        cases h
        rw [ih t (by omega) hc ht]
        have hq : ps[k] < d.length := by omega
        have hg : d.getD ps[k] z = d[ps[k]] := by simp [List.getD, hq]
        have hm : idx (d.take t) d[ps[k]] = ps[k] := by
          have hl : ps[k] < (d.take t).length := by rw [List.length_take]; omega
          have := idx_nodup (d.take t) (hd.sublist (List.take_sublist _ _)) ps[k] hl
          rwa [List.getElem_take] at this
        unfold dstep ins
        rw [hg, hm, if_pos (by rw [List.length_take]; omega), hm]
      · rw [if_neg h1] at h
        by_cases h2 : ps[k] = t0
        · rw [if_pos h2] at h
          cases h
          rw [ih t0 (by omega) hc (by omega)]
          have hq : t0 < d.length := by omega
          have hg : d.getD ps[k] z = d[t0] := by simp [List.getD, h2, hq]
          have hl : (d.take t0).length = t0 := by rw [List.length_take]; omega
          have hn : ¬ idx (d.take t0) d[t0] < (d.take t0).length := by
            rw [idx_mem]
            intro hm
            obtain ⟨j, hj, e⟩ := List.getElem_of_mem hm
            rw [List.getElem_take] at e
            have := nodup_inj hd _ _ e
            omega
          have hi : ins (d.take t0) d[t0] = d.take (t0 + 1) := by
            unfold ins
            rw [if_neg hn, List.take_succ_eq_append_getElem hq]
          have h3 := idx_ins (d.take t0) d[t0]
          unfold dstep
          simp only
          rw [hg, hi]
          rw [hi] at h3
          rw [h3.1, h3.2.2 hn, hl, h2]
        · rw [if_neg h2] at h; cases h

theorem dfold_facts (l : List Val) (z : Val) : (dfold l).1.Nodup ∧ chk 0 (dfold l).2 = some (dfold l).1.length ∧ (dfold l).2.map (fun q => (dfold l).1.getD q z) = l := by
  have key : ∀ k, k ≤ l.length → (dfold (l.take k)).1.Nodup ∧ chk 0 (dfold (l.take k)).2 = some (dfold (l.take k)).1.length ∧ (dfold (l.take k)).2.map (fun q => (dfold (l.take k)).1.getD q z) = l.take k := by
    intro k
    induction k with
    | zero => intro _; simp [dfold, chk]
    | succ k ih =>
      intro hk
      obtain ⟨h1, h2, h3⟩ := ih (by omega)
      have hk2 : k < l.length := by omega
      have hlt := chk_lt h2
      rw [dfold_succ l k hk2]
      generalize dfold (l.take k) = S at *
      have h4 := idx_ins S.1 l[k]
      unfold dstep
      by_cases hin : idx S.1 l[k] < S.1.length
      · have hi : ins S.1 l[k] = S.1 := by unfold ins; rw [if_pos hin]
        rw [hi]
        refine ⟨h1, ?_, ?_⟩
        · rw [chk_append, h2]; simp [chk, hin]
        · rw [List.map_append, h3, List.take_succ_eq_append_getElem hk2]
          congr 1
          simp [List.getD, hin, idx_at S.1 l[k] hin]
      · have hi : ins S.1 l[k] = S.1 ++ [l[k]] := by unfold ins; rw [if_neg hin]
        rw [hi] at h4 ⊢
        rw [h4.1, h4.2.2 hin]
        refine ⟨?_, ?_, ?_⟩
        · rw [List.nodup_append]
          refine ⟨h1, by simp, ?_⟩
          intro a ha b hb e
          simp at hb
          subst hb
          subst e
          exact hin ((idx_mem _ _).2 ha)
        · rw [chk_append, h2]; simp [chk]
        · rw [List.map_append, List.take_succ_eq_append_getElem hk2]
          congr 1
          · rw [← h3]
            apply List.map_congr_left
            intro q hq
            have := hlt q hq
            simp [List.getD, List.getElem?_append_left this]
          · simp
  have := key l.length (Nat.le_refl _)
  rwa [List.take_length] at this

/-- A dictionary that was read, piece by piece. -/
theorem dict_good {k : Int} (hk : k = 1 ∨ k = 2 ∨ k = 3) {s : ByteArray} {p cn n : Nat} {d : List Val} {ps : List Nat} (z : Val) (hcn : cn ≤ 100) (hn : n ≤ cn) (hdl : d.length = n) (hdk : ∀ x ∈ d, VK k x) (hd : d.Nodup) (hpl : ps.length = cn)
    (hc : chk 0 ps = some n) (s1 : Starts (bytesOf s) p (vint n)) (s2 : Starts (bytesOf s) (p + (vint n).length) (plainsB k d)) (s3 : Starts (bytesOf s) (p + (vint n).length + (plainsB k d).length) (packBytes (wid n) ps))
    (u2 : ∀ D : List Val, D.length = n → (∀ x ∈ D, VK k x) → Starts (bytesOf s) (p + (vint n).length) (plainsB k D) → D = d) (hp3 : p + (vint n).length + (plainsB k d).length ≤ s.size) :
    (ps.map fun q => d.getD q z).length = cn ∧ (∀ x ∈ ps.map fun q => d.getD q z, VK k x) ∧ dictB k (ps.map fun q => d.getD q z) = vint n ++ (plainsB k d ++ packBytes (wid n) ps) ∧ Starts (bytesOf s) p (dictB k (ps.map fun q => d.getD q z)) ∧
      ∀ L : List Val, L.length = cn → (∀ x ∈ L, VK k x) → Starts (bytesOf s) p (dictB k L) → L = ps.map fun q => d.getD q z := by
  have hf : dfold (ps.map fun q => d.getD q z) = (d, ps) := by
    have := dfold_of d hd z ps ps.length n (Nat.le_refl _) (by rw [List.take_length]; exact hc) (by omega)
    rw [List.take_length, List.take_of_length_le (by omega : d.length ≤ n)] at this
    exact this
  have hB : dictB k (ps.map fun q => d.getD q z) = vint n ++ (plainsB k d ++ packBytes (wid n) ps) := by
    unfold dictB
    rw [hf, hdl]
  refine ⟨by simp [hpl], ?_, hB, ?_, ?_⟩
  · intro x hx
    obtain ⟨q, hq, rfl⟩ := List.mem_map.1 hx
    have hq2 := chk_lt hc q hq
    have hq3 : q < d.length := by omega
    simp only [List.getD, hq3, List.getElem?_eq_getElem, Option.getD_some]
    exact hdk _ (List.getElem_mem hq3)
  · rw [hB, starts_append, starts_append]; exact ⟨s1, s2, s3⟩
  · intro L hL hok hs
    obtain ⟨f1, f2, f3⟩ := dfold_facts L z
    obtain ⟨g1, g2, g3, g4⟩ := dfold_ok L L.length (Nat.le_refl _)
    rw [List.take_length] at g1 g2 g3 g4
    unfold dictB at hs
    rw [starts_append, starts_append] at hs
    obtain ⟨t1, t2, t3⟩ := hs
    have e1 : (dfold L).1.length = n := vint_one (by omega) (by omega) t1 s1
    rw [e1] at t2 t3
    have e2 : (dfold L).1 = d := u2 _ e1 (fun x hx => hok x (g4 x hx)) t2
    rw [e2] at t3
    have hfit : ∀ (l : List Nat), (∀ x ∈ l, x < n) → ∀ x ∈ l, x < 2 ^ wid n := fun l h x hx => wid_fits n (by omega) x (h x hx)
    have r1 := (packed_reads s _ (wid n) (dfold L).2 hp3 (hfit _ (fun x hx => by have := g3 x hx; omega)) t3).2
    have r2 := (packed_reads s _ (wid n) ps hp3 (hfit _ (fun x hx => chk_lt hc x hx)) s3).2
    rw [g2, hL] at r1
    rw [hpl] at r2
    rw [r2] at r1
    rw [e2, ← r1] at f3
    exact f3.symm

/-- A value of a column. -/
def VC (k : Int) (v : Val) : Prop := (v.null = true ∧ v.n = 0 ∧ v.s = ⟨#[]⟩) ∨ VK k v
theorem vc_of_may {k : Int} {v : Val} (hk : k = 1 ∨ k = 2 ∨ k = 3) (h : VIn v) (hm : mayB v k = true) : VC k v := by
  cases hn : v.null with
  | true =>
    unfold mayB at hm
    rw [hn] at hm
    simp at hm
    exact .inl ⟨hn, hm.1, nil_of_toList hm.2⟩
  | false => exact .inr (vk_of_may hk hn h hm)
theorem VC.may {k : Int} {v : Val} (hk : k = 1 ∨ k = 2 ∨ k = 3) (h : VC k v) : mayB v k = true := by
  rcases h with ⟨h1, h2, h3⟩ | h
  · unfold mayB
    rw [h1, h2, h3]
    simp [ByteArray.toList_eq]
  · exact may_of_vk hk h
theorem VC.vin {k : Int} {v : Val} (h : VC k v) : VIn v := by
  rcases h with ⟨h1, h2, h3⟩ | h
  · exact ⟨by omega, by omega⟩
  · exact ⟨h.lo, h.hi⟩
theorem there_vk {k : Int} {l : List Val} (h : ∀ x ∈ l, VC k x) : ∀ x ∈ there l, VK k x := by
  intro x hx
  unfold there at hx
  rw [List.mem_filter] at hx
  rcases h x hx.1 with ⟨h1, _⟩ | h
  · rw [h1] at hx; simp at hx
  · exact h

/-- A column is what its levels and its values make it. -/
theorem mix_one {k : Int} : ∀ (a b : List Val), (∀ x ∈ a, VC k x) → (∀ x ∈ b, VC k x) → a.map lev = b.map lev → there a = there b → a = b := by
  intro a
  induction a with
  | nil => intro b _ _ h _; simp at h; exact h.symm
  | cons x r ih =>
    intro b ha hb h1 h2
    cases b with
    | nil => simp at h1
    | cons y t =>
      simp only [List.map_cons, List.cons.injEq] at h1
      have hxy : x.null = y.null := by
        have := h1.1
        unfold lev at this
        cases hx : x.null <;> cases hy : y.null <;> simp [hx, hy] at this <;> rfl
      have hr := fun h => ih t (fun z hz => ha z (by simp [hz])) (fun z hz => hb z (by simp [hz])) h1.2 h
      cases hx : x.null with
      | true =>
        have hy : y.null = true := by rw [← hxy]; exact hx
        have h3 : there r = there t := by simpa [there, hx, hy] using h2
        rw [hr h3]
        congr 1
        rcases ha x (by simp) with ⟨a1, a2, a3⟩ | a
        · rcases hb y (by simp) with ⟨b1, b2, b3⟩ | b
          · cases x; cases y
            simp at a1 a2 a3 b1 b2 b3
            simp [a1, a2, a3, b1, b2, b3]
          · rw [b.there] at hy; cases hy
        · rw [a.there] at hx; cases hx
      | false =>
        have hy : y.null = false := by rw [← hxy]; exact hx
        have h3 : x = y ∧ there r = there t := by simpa [there, hx, hy] using h2
        rw [h3.1, hr h3.2]

def ones (zs : List Int) : Nat := (zs.filter fun z => z != 0).length
theorem there_ones (l : List Val) : (there l).length = ones (l.map lev) := by
  unfold there ones
  induction l with
  | nil => rfl
  | cons x r ih =>
    cases hx : x.null with
    | true => simp [hx, lev] ; simpa [lev] using ih
    | false => simp [hx, lev]; simpa [lev] using ih
theorem lev_bits (l : List Val) : Bits (l.map lev) := by
  intro z hz
  obtain ⟨x, _, rfl⟩ := List.mem_map.1 hz
  unfold lev
  split
  · exact .inl rfl
  · exact .inr rfl

/-- A column that was read, piece by piece. -/
theorem column_good {k e : Int} {s : ByteArray} {p cn : Nat} {l : List Val} (hl : l.length = cn) (hlc : ∀ x ∈ l, VC k x)
    (s1 : Starts (bytesOf s) p (runsB (l.map lev))) (u1 : ∀ L : List Int, L.length = cn → Bits L → Starts (bytesOf s) p (runsB L) → L = l.map lev)
    (s2 : Starts (bytesOf s) (p + (runsB (l.map lev)).length) (codedB k e (there l))) (u2 : ∀ L : List Val, L.length = ones (l.map lev) → (∀ x ∈ L, VK k x) → Starts (bytesOf s) (p + (runsB (l.map lev)).length) (codedB k e L) → L = there l) :
    Starts (bytesOf s) p (columnB k e l) ∧ ∀ L : List Val, L.length = cn → (∀ x ∈ L, VC k x) → Starts (bytesOf s) p (columnB k e L) → L = l := by
  refine ⟨by unfold columnB; rw [starts_append]; exact ⟨s1, s2⟩, ?_⟩
  intro L hL hok hs
  unfold columnB at hs
  rw [starts_append] at hs
  have e1 := u1 (L.map lev) (by simpa using hL) (lev_bits L) hs.1
  rw [e1] at hs
  have e2 := u2 (there L) (by rw [there_ones, e1]) (there_vk hok) hs.2
  exact mix_one L l hok hlc e1 e2
end Go.Proofs.Ytjidbonhhpkljaa.Ec

/- The contracts of the code's readPlain, readDelta, valuesOf and countOnes. -/
set_option linter.unusedVariables false
namespace Go.Proofs.Ytjidbonhhpkljaa.Ec
open Go.RowKit Go.Proofs.Ytjidbonhhpkljaa.Pk Go.Proofs.Ytjidbonhhpkljaa.Pm

theorem vcells_snoc (l : List Val) (x : Val) : vcells l ++ [.bool x.null, .int .i64 x.n, .string x.s] = vcells (l ++ [x]) := by rw [vcells_append, vcells_one]

set_option maxRecDepth 100000 in
set_option maxHeartbeats 4000000 in
theorem readPlain_any (k : Int) (hk : k = 1 ∨ k = 2 ∨ k = 3) (s : ByteArray) (r p cn : Nat) (w : World) (hm : s.size ≤ maxLen) (hcn : cn ≤ 100) (hp : p ≤ s.size) (h : w.heap[r]? = some (rdr s p)) :
    Calls Try.prog 117 #[.pointer (some ⟨r, 0, none⟩), .int .i64 k, .int .i64 cn] w fun e w' => Kp r w w' ∧
      ((∃ (l : List Val) (v : Value), e = .returned v ∧ l.length = cn ∧ (∀ x ∈ l, VK k x) ∧ Starts (bytesOf s) p (plainsB k l) ∧ (∀ L : List Val, L.length = cn → (∀ x ∈ L, VK k x) → Starts (bytesOf s) p (plainsB k L) → L = l) ∧ p + (plainsB k l).length ≤ s.size ∧
        w'.heap[r]? = some (rdr s (p + (plainsB k l).length)) ∧ w'.ownsRow w.heap.size 39 3 v l.length (vcells l)) ∨
       (∃ q, e = .panicked (badAt q) ∧ ∀ L : List Val, L.length = cn → (∀ x ∈ L, VK k x) → ¬ Starts (bytesOf s) p (plainsB k L))) := by
  obtain ⟨j0, hj, hy0, hy1, hy2⟩ := info_parts Try.info39
  have hrl : r < w.heap.size := lt_of_block h
  have HR : Hid (w.heap[r]? = some (rdr s p)) := h
  clear h
  go_enter Try.func117, Try.ntmps117
  go_wp2_with (at_make; refine wpList_make_own _ rfl _ _ 30 rfl w.heap.size 39 j0 _ 3 Try.underlying30 hj hy0 hy1 .i64 .i64 _ cn rfl rfl rfl (by rw [hy2]; omega) (by unfold maxLen; omega) (Nat.le_refl _) ?_; intro w0 hown0 hgrow0)
  have HK0 : Hid (Kp r w w0) := (Kp.refl r w).grown hgrow0 (by simp)
  have HR0 : Hid (w0.heap[r]? = some (rdr s p)) := by show _ = _; rw [hgrow0.block r hrl (by simp)]; exact HR.out
  clear HR hgrow0
  go_loopw [7, 11] (fun lv i wr => ∃ l : List Val, i = .int .i64 (l.length : Int) ∧ lv = .slice (some ⟨w.heap.size, 0, none⟩) l.length cn ∧ QSt (plainsB k) (VK k) (bytesOf s) p cn l ∧ p + (plainsB k l).length ≤ s.size ∧ wr.heap[r]? = some (rdr s (p + (plainsB k l).length)) ∧
      wr.ownsRow w.heap.size 39 3 (.slice (some ⟨w.heap.size, 0, none⟩) l.length cn) l.length (vcells l) ∧ Kp r w wr) (fun _ i _ => cn - (intOf i).toNat)
  case atStart => exact ⟨[], rfl, rfl, QSt.zero rfl, by simpa [plainsB] using hp, by simpa [plainsB] using HR0.out, hown0, HK0.out⟩
  case round =>
    clear hown0 HK0 HR0
    obtain ⟨l, rfl, rfl, hS, hpl, hR, hown, hK⟩ := hrel
    have HS : Hid (QSt (plainsB k) (VK k) (bytesOf s) p cn l) := hS
    have HRR : Hid (wr.heap[r]? = some (rdr s (p + (plainsB k l).length))) := hR
    have HK : Hid (Kp r w wr) := hK
    have HO : Hid (wr.ownsRow w.heap.size 39 3 (.slice (some ⟨w.heap.size, 0, none⟩) l.length cn) l.length (vcells l)) := hown
    have hsz : w.heap.size ≤ wr.heap.size := hK.size
    have hle := hS.le
    clear hS hR hK hown
    by_cases hlt : l.length < cn
    · go_wp2_with fail
      refine (readPlain1_any k hk r (p + (plainsB k l).length) s _ hm hpl HRR.out).mono ?_
      rintro e w1 ⟨hK1, ⟨x, rfl, hx, hs1, hl1, hR1⟩ | ⟨q, rfl, hno⟩⟩
      · have HK1 : Hid (Kp r w w1) := HK.out.trans hK1
        have hown1 : w1.ownsRow w.heap.size 39 3 (.slice (some ⟨w.heap.size, 0, none⟩) l.length cn) l.length (vcells l) := hK1.own HO.out hrl
        have HMORE : Hid (QSt (plainsB k) (VK k) (bytesOf s) p cn (l ++ [x])) := HS.out.more (e := fun _ v => plainB k v) (plainsB_snoc k) hlt hx hs1 (fun y hy hs => plain_one hk hy hx hs hs1)
        have HR1 : Hid (w1.heap[r]? = some (rdr s (p + (plainsB k (l ++ [x])).length))) := by
          show _ = _
          rw [plainsB_snoc, List.length_append, ← Nat.add_assoc]; exact hR1
        have HL1 : Hid (p + (plainsB k (l ++ [x])).length ≤ s.size) := by
          show _ ≤ _
          rw [plainsB_snoc, List.length_append, ← Nat.add_assoc]; exact hl1
        have hsz1 := HK1.out.size
        clear hK1 hs1 hR1 hl1 hx HO HK HRR HS
        go_wp2_with (at_builtin; refine wpList_append_fits _ rfl _ _ 30 rfl w.heap.size 39 j0 3 Try.underlying30 hj hy1 w.heap.size l.length cn _ rfl (hown1.alloc _) ⟨w1.heap.size, 0, none⟩ 1 1 [.bool x.null, .int .i64 x.n, .string x.s] rfl rfl (by exact three_at _ _ _ _ _) (three_one x) (by omega) ?_; intro w2 hown2 hgrow2)
        have HK2 : Hid (Kp r w w2) := (HK1.out.alloc _).grown hgrow2 (by intro g hg; simp at hg; omega)
        have HR2 : Hid (w2.heap[r]? = some (rdr s (p + (plainsB k (l ++ [x])).length))) := by
          show _ = _
          rw [hgrow2.block r (by simp; omega) (by simp; omega), Below.heap_alloc w1 _ r (by omega)]
          exact HR1.out
        rw [vcells_snoc] at hown2
        clear hown1 hgrow2 HK1 HR1
        go_wp2
        go_roundw
        case rel => exact ⟨l ++ [x], by rw [List.length_append]; rfl, by rw [List.length_append]; rfl, HMORE.out, HL1.out, HR2.out, by rw [List.length_append]; exact hown2, HK2.out⟩
        case measure => simp [intOf]; omega
      · have HNO : Hid (∀ L : List Val, L.length = cn → (∀ x ∈ L, VK k x) → ¬ Starts (bytesOf s) p (plainsB k L)) := fun L hL hok => HS.out.fail (e := fun _ v => plainB k v) (plainsB_snoc k) hlt hno L hL hok
        have HK1 : Hid (Kp r w w1) := HK.out.trans hK1
        clear hno hK1 HK HO
        go_wp2
        exact ⟨rfl, HK1.out, .inr ⟨q, rfl, HNO.out⟩⟩
    · obtain ⟨d1, d3⟩ := HS.out.done hlt
      have HU : Hid (∀ L : List Val, L.length = cn → (∀ x ∈ L, VK k x) → Starts (bytesOf s) p (plainsB k L) → L = l) := d3
      have HST : Hid (Starts (bytesOf s) p (plainsB k l)) := HS.out.st
      have HD : Hid (l.length = cn) := d1
      clear d3 d1
      go_wp2
      go_ret
      exact ⟨HK.out, .inl ⟨l, _, rfl, HD.out, HS.out.oks, HST.out, HU.out, hpl, HRR.out, HO.out⟩⟩

/-- The value behind a difference. -/
def stepV (a d : Int) : Val := ⟨false, wrap64 (a + d), ⟨#[]⟩⟩
theorem stepV_ok (a d : Int) : VK 1 (stepV a d) := ⟨rfl, (wrap64_range _).1, (wrap64_range _).2, fun _ => rfl, fun h => by omega, fun h => by omega⟩
theorem stepV_enc (a : Int) (v : Val) (hv : VK 1 v) : vint (zz (wrap64 ((stepV a v.n).n - a))) = plainB 1 v := by
  show vint (zz (wrap64 (wrap64 (a + v.n) - a))) = vint (zz v.n)
  rw [wrap64_forth a v.n hv.lo hv.hi]

set_option maxRecDepth 100000 in
set_option maxHeartbeats 4000000 in
theorem readDelta_any (s : ByteArray) (r p cn : Nat) (w : World) (hm : s.size ≤ maxLen) (hcn : cn ≤ 100) (hp : p ≤ s.size) (h : w.heap[r]? = some (rdr s p)) :
    Calls Try.prog 114 #[.pointer (some ⟨r, 0, none⟩), .int .i64 cn] w fun e w' => Kp r w w' ∧
      ((∃ (l : List Val) (v : Value), e = .returned v ∧ l.length = cn ∧ (∀ x ∈ l, VK 1 x) ∧ Starts (bytesOf s) p (deltaF 0 l) ∧ (∀ L : List Val, L.length = cn → (∀ x ∈ L, VK 1 x) → Starts (bytesOf s) p (deltaF 0 L) → L = l) ∧ p + (deltaF 0 l).length ≤ s.size ∧
        w'.heap[r]? = some (rdr s (p + (deltaF 0 l).length)) ∧ w'.ownsRow w.heap.size 39 3 v l.length (vcells l)) ∨
       (∃ q, e = .panicked (badAt q) ∧ ∀ L : List Val, L.length = cn → (∀ x ∈ L, VK 1 x) → ¬ Starts (bytesOf s) p (deltaF 0 L))) := by
  obtain ⟨j0, hj, hy0, hy1, hy2⟩ := info_parts Try.info39
  have hrl : r < w.heap.size := lt_of_block h
  have HR : Hid (w.heap[r]? = some (rdr s p)) := h
  have hfd : ∀ (a b c : Value) (w : World), (Instr.field 39 (.agg #[a, b, c]) 1).run Try.prog w = .ok b w := fun _ _ _ _ => by first | rfl | kernel_rfl
  have HSN : Hid (∀ (l : List Val) (x : Val), deltaF 0 (l ++ [x]) = deltaF 0 l ++ vint (zz (wrap64 (x.n - lastF 0 l)))) := deltaF_snoc 0
  clear h
  go_enter Try.func114, Try.ntmps114
  go_wp2_with (at_make; refine wpList_make_own _ rfl _ _ 30 rfl w.heap.size 39 j0 _ 3 Try.underlying30 hj hy0 hy1 .i64 .i64 _ cn rfl rfl rfl (by rw [hy2]; omega) (by unfold maxLen; omega) (Nat.le_refl _) ?_; intro w0 hown0 hgrow0)
  have HK0 : Hid (Kp r w w0) := (Kp.refl r w).grown hgrow0 (by simp)
  have HR0 : Hid (w0.heap[r]? = some (rdr s p)) := by show _ = _; rw [hgrow0.block r hrl (by simp)]; exact HR.out
  clear HR hgrow0
  go_loopw [5, 6, 10] (fun lv la i wr => ∃ l : List Val, i = .int .i64 (l.length : Int) ∧ la = .int .i64 (lastF 0 l) ∧ lv = .slice (some ⟨w.heap.size, 0, none⟩) l.length cn ∧ QSt (deltaF 0) (VK 1) (bytesOf s) p cn l ∧ p + (deltaF 0 l).length ≤ s.size ∧ wr.heap[r]? = some (rdr s (p + (deltaF 0 l).length)) ∧
      wr.ownsRow w.heap.size 39 3 (.slice (some ⟨w.heap.size, 0, none⟩) l.length cn) l.length (vcells l) ∧ Kp r w wr) (fun _ _ i _ => cn - (intOf i).toNat)
  case atStart => exact ⟨[], rfl, rfl, rfl, QSt.zero rfl, by simpa [deltaF] using hp, by simpa [deltaF] using HR0.out, hown0, HK0.out⟩
  case round =>
    clear hown0 HK0 HR0
    obtain ⟨l, rfl, rfl, rfl, hS, hpl, hR, hown, hK⟩ := hrel
    have HS : Hid (QSt (deltaF 0) (VK 1) (bytesOf s) p cn l) := hS
    have HRR : Hid (wr.heap[r]? = some (rdr s (p + (deltaF 0 l).length))) := hR
    have HK : Hid (Kp r w wr) := hK
    have HO : Hid (wr.ownsRow w.heap.size 39 3 (.slice (some ⟨w.heap.size, 0, none⟩) l.length cn) l.length (vcells l)) := hown
    have hsz : w.heap.size ≤ wr.heap.size := hK.size
    have hle := hS.le
    clear hS hR hK hown
    by_cases hlt : l.length < cn
    · go_wp2_with fail
      refine (readPlain1_any 1 (.inl rfl) r (p + (deltaF 0 l).length) s _ hm hpl HRR.out).mono ?_
      rintro e w1 ⟨hK1, ⟨x, rfl, hx, hs1, hl1, hR1⟩ | ⟨q, rfl, hno⟩⟩
      · have HK1 : Hid (Kp r w w1) := HK.out.trans hK1
        have hown1 : w1.ownsRow w.heap.size 39 3 (.slice (some ⟨w.heap.size, 0, none⟩) l.length cn) l.length (vcells l) := hK1.own HO.out hrl
        have hen := stepV_enc (lastF 0 l) x hx
        have HMORE : Hid (QSt (deltaF 0) (VK 1) (bytesOf s) p cn (l ++ [stepV (lastF 0 l) x.n])) :=
          HS.out.more (e := fun l v => vint (zz (wrap64 (v.n - lastF 0 l)))) HSN.out hlt (stepV_ok _ _) (by show Starts _ _ (vint (zz (wrap64 ((stepV (lastF 0 l) x.n).n - lastF 0 l)))); rw [hen]; exact hs1) (fun y hy hs => delta_one hy (stepV_ok _ _) hs (by rw [hen]; exact hs1))
        have HDL : Hid ((deltaF 0 (l ++ [stepV (lastF 0 l) x.n])).length = (deltaF 0 l).length + (plainB 1 x).length) := by
          show _ = _
          rw [HSN.out, List.length_append, hen]
        have HR1 : Hid (w1.heap[r]? = some (rdr s (p + (deltaF 0 (l ++ [stepV (lastF 0 l) x.n])).length))) := by
          show _ = _
          rw [HDL.out, ← Nat.add_assoc]; exact hR1
        have HL1 : Hid (p + (deltaF 0 (l ++ [stepV (lastF 0 l) x.n])).length ≤ s.size) := by
          show _ ≤ _
          rw [HDL.out, ← Nat.add_assoc]; exact hl1
        have HLA : Hid (lastF 0 (l ++ [stepV (lastF 0 l) x.n]) = wrap64 (lastF 0 l + x.n)) := lastF_snoc _ _ _
        have HSV : Hid (∀ v, v = [Value.bool false, .int .i64 (wrap64 (lastF 0 l + x.n)), .string ⟨#[]⟩] → vcells l ++ v = vcells (l ++ [stepV (lastF 0 l) x.n])) := by
          intro v hv
          rw [hv, ← vcells_snoc]; rfl
        have hsz1 := HK1.out.size
        clear hK1 hs1 hR1 hl1 hx HO HK HRR HS hen HDL
        generalize stepV (lastF 0 l) x.n = y at *
        generalize lastF 0 l = la at *
        generalize x.n = d at *
        go_wp2_with (at_builtin; refine wpList_append_fits _ rfl _ _ 30 rfl w.heap.size 39 j0 3 Try.underlying30 hj hy1 w.heap.size l.length cn _ rfl (hown1.alloc _) ⟨w1.heap.size, 0, none⟩ 1 1 [.bool false, .int .i64 (wrap64 (la + d)), .string ⟨#[]⟩] rfl rfl (by exact three_at _ _ _ _ _) (three_one ⟨false, wrap64 (la + d), ⟨#[]⟩⟩) (by omega) ?_; intro w2 hown2 hgrow2)
        have HK2 : Hid (Kp r w w2) := (HK1.out.alloc _).grown hgrow2 (by intro g hg; simp at hg; omega)
        have HR2 : Hid (w2.heap[r]? = some (rdr s (p + (deltaF 0 (l ++ [y])).length))) := by
          show _ = _
          rw [hgrow2.block r (by simp; omega) (by simp; omega), Below.heap_alloc w1 _ r (by omega)]
          exact HR1.out
        rw [HSV.out _ rfl] at hown2
        clear hown1 hgrow2 HK1 HR1 HSV
        go_wp2
        go_roundw
        case rel => exact ⟨l ++ [y], by rw [List.length_append]; rfl, by rw [HLA.out], by rw [List.length_append]; rfl, HMORE.out, HL1.out, HR2.out, by rw [List.length_append]; exact hown2, HK2.out⟩
        case measure => simp [intOf]; omega
      · have HNO : Hid (∀ L : List Val, L.length = cn → (∀ x ∈ L, VK 1 x) → ¬ Starts (bytesOf s) p (deltaF 0 L)) := fun L hL hok => HS.out.fail (e := fun l v => vint (zz (wrap64 (v.n - lastF 0 l)))) HSN.out hlt (fun y hy hs => hno ⟨false, wrap64 (y.n - lastF 0 l), ⟨#[]⟩⟩ ⟨rfl, (wrap64_range _).1, (wrap64_range _).2, fun _ => rfl, fun h => by omega, fun h => by omega⟩ hs) L hL hok
        have HK1 : Hid (Kp r w w1) := HK.out.trans hK1
        clear hno hK1 HK HO
        go_wp2
        exact ⟨rfl, HK1.out, .inr ⟨q, rfl, HNO.out⟩⟩
    · obtain ⟨d1, d3⟩ := HS.out.done hlt
      have HU : Hid (∀ L : List Val, L.length = cn → (∀ x ∈ L, VK 1 x) → Starts (bytesOf s) p (deltaF 0 L) → L = l) := d3
      have HST : Hid (Starts (bytesOf s) p (deltaF 0 l)) := HS.out.st
      have HD : Hid (l.length = cn) := d1
      clear d3 d1
      go_wp2
      go_ret
      exact ⟨HK.out, .inl ⟨l, _, rfl, HD.out, HS.out.oks, HST.out, HU.out, hpl, HRR.out, HO.out⟩⟩

def bitV (z : Int) : Val := ⟨false, z, ⟨#[]⟩⟩

set_option maxRecDepth 100000 in
set_option maxHeartbeats 4000000 in
theorem valuesOf_any (lv : Value) (zs : List Int) (w : World) (hz : zs.length ≤ 100) (hvs : ISl w lv zs) :
    Calls Try.prog 116 #[lv] w fun e w' => Below w.heap.size w w' ∧ ∃ v, e = .returned v ∧ w'.ownsRow w.heap.size 39 3 v zs.length (vcells (zs.map bitV)) := by
  obtain ⟨j0, hj, hy0, hy1, hy2⟩ := info_parts Try.info39
  obtain ⟨ao, b, off, cap, rfl, h1, h2, h3⟩ := hvs
  have H3 : Hid (∀ j, j < zs.length → w.cell? ⟨b, off + j, none⟩ = some (.int .i64 (zs.getD j 0))) := h3
  clear h3
  go_enter Try.func116, Try.ntmps116
  go_wp2_with (at_make; refine wpList_make_own _ rfl _ _ 30 rfl w.heap.size 39 j0 _ 3 Try.underlying30 hj hy0 hy1 .i64 .i64 _ zs.length rfl rfl rfl (by rw [hy2]; omega) (by unfold maxLen; omega) (Nat.le_refl _) ?_; intro w0 hown0 hgrow0)
  have HB0 : Hid (Below w.heap.size w w0) := (Below.refl _ _).grown hgrow0 (Nat.le_refl _) (by simp)
  clear hgrow0
  go_loopw [3, 11] (fun lv i wr => ∃ k : Nat, k ≤ zs.length ∧ i = .int .i64 (k : Int) ∧ lv = .slice (some ⟨w.heap.size, 0, none⟩) k zs.length ∧ wr.ownsRow w.heap.size 39 3 (.slice (some ⟨w.heap.size, 0, none⟩) k zs.length) k (vcells ((zs.take k).map bitV)) ∧ Below w.heap.size w wr) (fun _ i _ => zs.length - (intOf i).toNat)
  case atStart => exact ⟨0, Nat.zero_le _, rfl, rfl, by simpa [vcells] using hown0, HB0.out⟩
  case round =>
    clear hown0 HB0
    obtain ⟨k, hk, rfl, rfl, hown, hB⟩ := hrel
    have HB : Hid (Below w.heap.size w wr) := hB
    have hsz := hB.size
    clear hB
    by_cases hlt : k < zs.length
    · obtain rfl := h1 (by omega)
      have hbl := h2 (by omega)
      have hck : wr.cell? ⟨b, off + k, none⟩ = some (.int .i64 (zs.getD k 0)) := (HB.out.cell (p := ⟨b, off + k, none⟩) hbl).trans (H3.out k hlt)
      have HV : Hid (vcells ((zs.take k).map bitV) ++ [.bool false, .int .i64 (zs.getD k 0), .string ⟨#[]⟩] = vcells ((zs.take (k + 1)).map bitV)) := by
        show _ = _
        rw [List.take_succ_eq_append_getElem hlt, List.map_append, List.map_singleton, ← vcells_snoc, getD_get hlt]
        rfl
      generalize zs.getD k 0 = z at *
      go_wp2_with (at_builtin; refine wpList_append_fits _ rfl _ _ 30 rfl w.heap.size 39 j0 3 Try.underlying30 hj hy1 w.heap.size k zs.length _ rfl (hown.alloc _) ⟨wr.heap.size, 0, none⟩ 1 1 [.bool false, .int .i64 z, .string ⟨#[]⟩] rfl rfl (by exact three_at _ _ _ _ _) (three_one ⟨false, z, ⟨#[]⟩⟩) (by omega) ?_; intro w2 hown2 hgrow2)
      have HB2 : Hid (Below w.heap.size w w2) := (HB.out.alloc hsz _).grown hgrow2 (by simp; omega) (by intro g hg; simp at hg; omega)
      rw [HV.out] at hown2
      clear hown hgrow2 HB hck
      go_wp2
      go_roundw
      case rel => exact ⟨k + 1, by omega, by go_num, rfl, hown2, HB2.out⟩
      case measure => simp [intOf]; omega
    · obtain rfl : k = zs.length := by omega
      rw [List.take_length] at hown
      go_wp2
      go_ret
      exact ⟨HB.out, _, rfl, hown⟩

theorem ones_le (zs : List Int) : ones zs ≤ zs.length := List.length_filter_le _ _
theorem ones_succ (zs : List Int) (hb : Bits zs) (k : Nat) (hk : k < zs.length) : ((ones (zs.take (k + 1)) : Nat) : Int) = (ones (zs.take k) : Nat) + zs.getD k 0 := by
  rw [List.take_succ_eq_append_getElem hk, getD_get hk]
  unfold ones
  rw [List.filter_append, List.length_append]
  rcases hb _ (List.getElem_mem hk) with h | h <;> simp [h]

set_option maxRecDepth 100000 in
set_option maxHeartbeats 4000000 in
theorem countOnes_any (lv : Value) (zs : List Int) (w : World) (hz : zs.length ≤ 100) (hb : Bits zs) (hvs : ISl w lv zs) :
    Calls Try.prog 81 #[lv] w fun e w' => e = .returned (.int .i64 ((ones zs : Nat) : Int)) ∧ w' = w := by
  obtain ⟨ao, b, off, cap, rfl, h1, h2, h3⟩ := hvs
  have H3 : Hid (∀ j, j < zs.length → w.cell? ⟨b, off + j, none⟩ = some (.int .i64 (zs.getD j 0))) := h3
  have HO : Hid (∀ k, k < zs.length → ((ones (zs.take (k + 1)) : Nat) : Int) = (ones (zs.take k) : Nat) + zs.getD k 0) := fun k hk => ones_succ zs hb k hk
  have HL : Hid (∀ k, ones (zs.take k) ≤ k) := fun k => by have := ones_le (zs.take k); rw [List.length_take] at this; omega
  clear h3 hb
  go_enter Try.func81, Try.ntmps81
  go_wp2_with fail
  go_loopw [3, 8] (fun c i wr => ∃ k : Nat, k ≤ zs.length ∧ i = .int .i64 (k : Int) ∧ c = .int .i64 ((ones (zs.take k) : Nat) : Int) ∧ wr = w) (fun _ i _ => zs.length - (intOf i).toNat)
  case atStart => exact ⟨0, Nat.zero_le _, rfl, by simp [ones], rfl⟩
  case round =>
    obtain ⟨k, hk, rfl, rfl, rfl⟩ := hrel
    by_cases hlt : k < zs.length
    · obtain rfl := h1 (by omega)
      have hck := H3.out k hlt
      have hok := HO.out k hlt
      have hl0 := HL.out k
      have hl1 := HL.out (k + 1)
      generalize zs.getD k 0 = z at *
      generalize ones (zs.take k) = o at *
      generalize hq : ones (zs.take (k + 1)) = q at *
      have HQ : Hid (ones (zs.take (k + 1)) = q) := hq
      clear hq
      go_wp2
      go_roundw
      case rel => exact ⟨k + 1, by omega, by go_num, by rw [HQ.out, hok], by trivial⟩
      case measure => simp [intOf]; omega
    · obtain rfl : k = zs.length := by omega
      rw [List.take_length]
      go_wp2
      go_ret
      exact ⟨rfl, rfl⟩
end Go.Proofs.Ytjidbonhhpkljaa.Ec

/- The values of a column: the program's side. -/
set_option linter.unusedVariables false
namespace Go.Proofs.Ytjidbonhhpkljaa.Ec
open Go.RowKit Go.Proofs.Ytjidbonhhpkljaa.Pk Go.Proofs.Ytjidbonhhpkljaa.Pm

/-- The values of a column, by its place. -/
def colVals (rows : List (List Val)) (pl : Nat) : List Val := rows.map fun r => r.getD pl ⟨false, 0, ⟨#[]⟩⟩

set_option maxRecDepth 100000 in
set_option maxHeartbeats 4000000 in
theorem columnOf_any (rows : List (List Val)) (pl : Nat) (rv : Value) (w : World) (hz : rows.length ≤ 100) (hpl : ∀ r ∈ rows, pl < r.length ∧ r.length ≤ maxLen) (hrs : RSl w rv rows) :
    Calls Try.prog 123 #[rv, .int .i64 (pl : Int)] w fun e w' => Below w.heap.size w w' ∧ ∃ v, e = .returned v ∧ w'.ownsRow w.heap.size 39 3 v rows.length (vcells (colVals rows pl)) := by
  obtain ⟨j0, hj, hy0, hy1, hy2⟩ := info_parts Try.info39
  obtain ⟨ao, b, off, cap, rfl, hcap, hr⟩ := hrs
  have HR : Hid (RRow w ao b off rows) := hr
  have HP : Hid (∀ r ∈ rows, pl < r.length ∧ r.length ≤ maxLen) := hpl
  clear hr hpl
  go_enter Try.func123, Try.ntmps123
  go_wp2_with (at_make; refine wpList_make_own _ rfl _ _ 30 rfl w.heap.size 39 j0 _ 3 Try.underlying30 hj hy0 hy1 .i64 .i64 _ rows.length rfl rfl rfl (by rw [hy2]; omega) (by unfold maxLen; omega) (Nat.le_refl _) ?_; intro w0 hown0 hgrow0)
  have HB0 : Hid (Below w.heap.size w w0) := (Below.refl _ _).grown hgrow0 (Nat.le_refl _) (by simp)
  clear hgrow0
  go_loopw [5, 13] (fun lv i wr => ∃ k : Nat, k ≤ rows.length ∧ i = .int .i64 (k : Int) ∧ lv = .slice (some ⟨w.heap.size, 0, none⟩) k rows.length ∧ wr.ownsRow w.heap.size 39 3 (.slice (some ⟨w.heap.size, 0, none⟩) k rows.length) k (vcells (colVals (rows.take k) pl)) ∧ Below w.heap.size w wr) (fun _ i _ => rows.length - (intOf i).toNat)
  case atStart => exact ⟨0, Nat.zero_le _, rfl, rfl, by simpa [vcells, colVals] using hown0, HB0.out⟩
  case round =>
    clear hown0 HB0
    obtain ⟨k, hk, rfl, rfl, hown, hB⟩ := hrel
    have HB : Hid (Below w.heap.size w wr) := hB
    have hsz := hB.size
    by_cases hlt : k < rows.length
    · have hr := HR.out.below hB
      obtain rfl := hr.addr (by omega)
      obtain ⟨v, hcv, hvs⟩ := hr.c k hlt
      obtain ⟨hp1, hp2⟩ := HP.out rows[k] (List.getElem_mem hlt)
      obtain ⟨vo, vb, voff, vcap, rfl, hvr⟩ := hvs
      obtain rfl := hvr.addr (by omega)
      have v0 := hvr.c0 pl hp1
      have v1 := hvr.c1 pl hp1
      have v2 := hvr.c2 pl hp1
      have HV : Hid (vcells (colVals (rows.take k) pl) ++ [.bool rows[k][pl].null, .int .i64 rows[k][pl].n, .string rows[k][pl].s] = vcells (colVals (rows.take (k + 1)) pl)) := by
        show _ = _
        rw [vcells_snoc, List.take_succ_eq_append_getElem hlt]
        unfold colVals
        rw [List.map_append, List.map_singleton, List.getD_eq_getElem?_getD, List.getElem?_eq_getElem hp1]
        rfl
      have hpi : (pl : Int) < (rows[k].length : Int) := by omega
      unfold maxLen at hp2
      clear hr hvr hB
      generalize rows[k][pl] = z at *
      generalize rows[k].length = rn at *
      go_wp2_with (at_builtin; refine wpList_append_fits _ rfl _ _ 30 rfl w.heap.size 39 j0 3 Try.underlying30 hj hy1 w.heap.size k rows.length _ rfl (hown.alloc _) ⟨wr.heap.size, 0, none⟩ 1 1 [.bool z.null, .int .i64 z.n, .string z.s] rfl rfl (by exact three_at _ _ _ _ _) (three_one z) (by omega) ?_; intro w2 hown2 hgrow2)
      have HB2 : Hid (Below w.heap.size w w2) := (HB.out.alloc hsz _).grown hgrow2 (by simp; omega) (by intro g hg; simp at hg; omega)
      rw [HV.out] at hown2
      clear hown hgrow2 HB
      go_wp2
      go_roundw
      case rel => exact ⟨k + 1, by omega, by go_num, rfl, hown2, HB2.out⟩
      case measure => simp [intOf]; omega
    · obtain rfl : k = rows.length := by omega
      rw [List.take_length] at hown
      clear hB
      go_wp2
      go_ret
      exact ⟨HB.out, _, rfl, hown⟩
end Go.Proofs.Ytjidbonhhpkljaa.Ec

/- May encodings be: both sides. -/
set_option linter.unusedVariables false
namespace Go.Proofs.Ytjidbonhhpkljaa.Ec
open Go.RowKit Go.Proofs.Ytjidbonhhpkljaa.Pk

/-- May encodings be, of columns? -/
def EncsOk (l : List Col) (es : List Int) : Prop := l.length = es.length ∧ ∀ i, (h : i < l.length) → hasEncB l[i].kind (es.getD i 0) = true

set_option maxRecDepth 100000 in
set_option maxHeartbeats 4000000 in
theorem areEncodings_any (l : List Col) (es : List Int) (cv ev : Value) (w : World) (hm : l.length ≤ maxLen) (hm2 : es.length ≤ maxLen) (hcs : CSl w cv l) (hes : ISl w ev es) :
    Calls Try.prog 91 #[ev, cv] w fun e w' => ∃ bb, e = .returned (.bool bb) ∧ (bb = true ↔ EncsOk l es) ∧ Below w.heap.size w w' := by
  obtain ⟨ao, b, off, cap, rfl, hcap, hr⟩ := hcs
  obtain ⟨eo, eb, eoff, ecap, rfl, ha, hlt0, hc⟩ := hes
  unfold maxLen at hm hm2
  by_cases hl : l.length = es.length
  · have hle : ((es.length : Int) != (l.length : Int)) = false := by simp [hl]
    have HL : Hid (l.length = es.length) := hl
    have HR : Hid (CRow w ao b off l) := hr
    have HEA : Hid (0 < es.length → eo = some ⟨eb, eoff, none⟩) := ha
    have HEL : Hid (0 < es.length → eb < w.heap.size) := hlt0
    have HEC : Hid (∀ j, j < es.length → w.cell? ⟨eb, eoff + j, none⟩ = some (.int .i64 (es.getD j 0))) := hc
    clear hr hl ha hlt0 hc
    go_enter Try.func91, Try.ntmps91
    go_wp2_with fail
    clear hle
    go_loopw [14] (fun i wr => ∃ j : Nat, j ≤ l.length ∧ i = .int .i64 j ∧ (∀ i, (h : i < l.length) → i < j → hasEncB l[i].kind (es.getD i 0) = true) ∧ Below w.heap.size w wr) (fun i _ => l.length - (intOf i).toNat)
    case atStart => exact ⟨0, Nat.zero_le _, rfl, fun t _ h => by omega, Below.refl _ _⟩
    case round =>
      obtain ⟨j, hj, rfl, hall, hbel⟩ := hrel
      have HA : Hid (∀ i, (h : i < l.length) → i < j → hasEncB l[i].kind (es.getD i 0) = true) := hall
      have HB : Hid (Below w.heap.size w wr) := hbel
      have hsz := hbel.size
      clear hall
      by_cases hlt : j < l.length
      · have hr := HR.out.below hbel
        obtain rfl := hr.addr (by omega)
        have hlt2 : j < es.length := by rw [← HL.out]; exact hlt
        obtain rfl := HEA.out (by omega)
        have hebw := HEL.out (by omega)
        have p0 := hr.c0 j hlt
        have p1 := hr.c1 j hlt
        have hq0 : wr.cell? ⟨eb, eoff + j, none⟩ = some (.int .i64 (es.getD j 0)) := (hbel.cell (p := ⟨eb, eoff + j, none⟩) hebw).trans (HEC.out j hlt2)
        have hebr : eb < wr.heap.size := Nat.lt_of_lt_of_le hebw hsz
        have HX : Hid (hasEncB l[j].kind (es.getD j 0) = false → ¬ EncsOk l es) := fun h hc => by
          have := hc.2 j hlt
          rw [h] at this; cases this
        have HY : Hid (hasEncB l[j].kind (es.getD j 0) = true → ∀ i, (h : i < l.length) → i < j + 1 → hasEncB l[i].kind (es.getD i 0) = true) := fun h i hi h2 => by
          by_cases e2 : i = j
          · subst e2; exact h
          · exact HA.out i hi (by omega)
        clear hr hbel HA HR hebw
        generalize l[j] = x at *
        generalize es.getD j 0 = ee at *
        go_upto_region 6 with fail
        obtain ⟨q0, q1⟩ := two_cells wr (.string x.name) (.int .i64 x.kind) 104
        have hb0 : Below wr.heap.size wr (wr.alloc (.cells #[.string x.name, .int .i64 x.kind] 104)) := (Below.refl _ _).alloc (Nat.le_refl _) _
        have q2 := (hb0.cell (p := ⟨eb, eoff + j, none⟩) hebr).trans hq0
        have HBW : Hid (Below w.heap.size w (wr.alloc (.cells #[.string x.name, .int .i64 x.kind] 104))) := HB.out.trans (hb0.mono hsz)
        clear hb0 hq0 p0 p1
        generalize wr.alloc (.cells #[.string x.name, .int .i64 x.kind] 104) = W0 at *
        generalize wr.heap.size = g at *
        have HC := fun W => hasEncoding_any x.kind ee W
        have hjj : (j : Int) < (es.length : Int) := by omega
        cases hb : hasEncB x.kind ee
        · have HX3 : Hid (¬ EncsOk l es) := HX.out hb
          rw [hb] at HC
          clear HX HY hb
          go_quiet ((go_at_call 70; exact Calls.quiet_of_same (HC _)))
          go_wp2
          go_ret
          exact .inl ⟨rfl, HX3.out, below_drewN HBW.out _⟩
        · have HY2 : Hid (∀ i, (h : i < l.length) → i < j + 1 → hasEncB l[i].kind (es.getD i 0) = true) := HY.out hb
          rw [hb] at HC
          clear HX HY hb
          go_quiet ((go_at_call 70; exact Calls.quiet_of_same (HC _)))
          go_wp2
          go_roundw
          case rel => exact ⟨j + 1, by omega, by go_num, HY2.out, below_drewN HBW.out _⟩
          case measure => simp [intOf]; omega
      · have HP : Hid (EncsOk l es) := ⟨HL.out, fun i h => HA.out i h (by omega)⟩
        clear HA hbel
        go_wp2
        go_ret
        exact ⟨true, rfl, by simp only [true_iff]; exact HP.out, HB.out⟩
  · have hle : ((es.length : Int) != (l.length : Int)) = true := by simp; omega
    have HN : Hid (¬ EncsOk l es) := fun h => hl h.1
    clear hr ha hlt0 hc
    go_enter Try.func91, Try.ntmps91
    go_wp2
    all_goals go_ret
    all_goals exact ⟨false, rfl, by simp only [Bool.false_eq_true, false_iff]; exact HN.out, Below.refl _ _⟩

set_option maxRecDepth 100000 in
set_option maxHeartbeats 4000000 in
theorem encodingsMay_any (l : List Col) (es : List Int) (cv ev : Value) (w : World) (hm : l.length ≤ maxLen) (hm2 : es.length ≤ maxLen) (hcs : CSl w cv l) (hes : ISl w ev es) :
    Calls Try.prog 55 #[cv, ev] w fun e w' => ∃ bb, e = .returned (.bool bb) ∧ (bb = true ↔ EncsOk l es) ∧ Below w.heap.size w w' := by
  obtain ⟨ao, b, off, cap, rfl, hcap, hr⟩ := hcs
  obtain ⟨eo, eb, eoff, ecap, rfl, ha, hlt0, hc⟩ := hes
  unfold maxLen at hm hm2
  by_cases hl : l.length = es.length
  · have hle : ((l.length : Int) != (es.length : Int)) = false := by simp [hl]
    have HL : Hid (l.length = es.length) := hl
    have HR : Hid (CRow w ao b off l) := hr
    have HEA : Hid (0 < es.length → eo = some ⟨eb, eoff, none⟩) := ha
    have HEL : Hid (0 < es.length → eb < w.heap.size) := hlt0
    have HEC : Hid (∀ j, j < es.length → w.cell? ⟨eb, eoff + j, none⟩ = some (.int .i64 (es.getD j 0))) := hc
    clear hr hl ha hlt0 hc
    go_enter Try.func55, Try.ntmps55
    go_wp2_with fail
    clear hle
    go_loopw [5] (fun i wr => ∃ j : Nat, j ≤ l.length ∧ i = .int .i64 j ∧ (∀ i, (h : i < l.length) → i < j → hasEncB l[i].kind (es.getD i 0) = true) ∧ Below w.heap.size w wr) (fun i _ => l.length - (intOf i).toNat)
    case atStart => exact ⟨0, Nat.zero_le _, rfl, fun t _ h => by omega, Below.refl _ _⟩
    case round =>
      obtain ⟨j, hj, rfl, hall, hbel⟩ := hrel
      have HA : Hid (∀ i, (h : i < l.length) → i < j → hasEncB l[i].kind (es.getD i 0) = true) := hall
      have HB : Hid (Below w.heap.size w wr) := hbel
      have hsz := hbel.size
      clear hall
      by_cases hlt : j < l.length
      · have hr := HR.out.below hbel
        obtain rfl := hr.addr (by omega)
        have hlt2 : j < es.length := by rw [← HL.out]; exact hlt
        obtain rfl := HEA.out (by omega)
        have hebw := HEL.out (by omega)
        have p1 := hr.c1 j hlt
        have hq0 : wr.cell? ⟨eb, eoff + j, none⟩ = some (.int .i64 (es.getD j 0)) := (hbel.cell (p := ⟨eb, eoff + j, none⟩) hebw).trans (HEC.out j hlt2)
        have HX : Hid (hasEncB l[j].kind (es.getD j 0) = false → ¬ EncsOk l es) := fun h hc => by
          have := hc.2 j hlt
          rw [h] at this; cases this
        have HY : Hid (hasEncB l[j].kind (es.getD j 0) = true → ∀ i, (h : i < l.length) → i < j + 1 → hasEncB l[i].kind (es.getD i 0) = true) := fun h i hi h2 => by
          by_cases e2 : i = j
          · subst e2; exact h
          · exact HA.out i hi (by omega)
        clear hr hbel HA HR hebw
        generalize l[j] = x at *
        generalize es.getD j 0 = ee at *
        have HC := fun W => fits_any x.kind ee W
        have hjj : (j : Int) < (es.length : Int) := by omega
        cases hb : hasEncB x.kind ee
        · have HX3 : Hid (¬ EncsOk l es) := HX.out hb
          rw [hb] at HC
          clear HX HY hb
          go_wp2_with fail
          go_quiet ((go_at_call 40; exact Calls.quiet_of_same (HC _)))
          go_wp2
          go_ret
          exact ⟨false, rfl, by simp only [Bool.false_eq_true, false_iff]; exact HX3.out, below_drewN HB.out _⟩
        · have HY2 : Hid (∀ i, (h : i < l.length) → i < j + 1 → hasEncB l[i].kind (es.getD i 0) = true) := HY.out hb
          rw [hb] at HC
          clear HX HY hb
          go_wp2_with fail
          go_quiet ((go_at_call 40; exact Calls.quiet_of_same (HC _)))
          go_wp2
          go_roundw
          case rel => exact ⟨j + 1, by omega, by go_num, HY2.out, below_drewN HB.out _⟩
          case measure => simp [intOf]; omega
      · have HP : Hid (EncsOk l es) := ⟨HL.out, fun i h => HA.out i h (by omega)⟩
        clear HA hbel
        go_wp2
        go_ret
        exact ⟨true, rfl, by simp only [true_iff]; exact HP.out, HB.out⟩
  · have hle : ((l.length : Int) != (es.length : Int)) = true := by simp; omega
    have HN : Hid (¬ EncsOk l es) := fun h => hl h.1
    clear hr ha hlt0 hc
    go_enter Try.func55, Try.ntmps55
    go_wp2
    all_goals go_ret
    all_goals exact ⟨false, rfl, by simp only [Bool.false_eq_true, false_iff]; exact HN.out, Below.refl _ _⟩
end Go.Proofs.Ytjidbonhhpkljaa.Ec

/- May options be: the program's side. -/
set_option linter.unusedVariables false
namespace Go.Proofs.Ytjidbonhhpkljaa.Ec
open Go.RowKit Go.Proofs.Ytjidbonhhpkljaa.Pk

/-- May options be? -/
def OptsOk (bd : Int) (es : List Int) (cs : List Col) : Prop := 1 ≤ bd ∧ bd ≤ 100 ∧ EncsOk cs es

theorem three_cells (w : World) (a b c : Value) (t : TypeId) : (w.alloc (.cells #[a, b, c] t)).cell? ⟨w.heap.size, 0, none⟩ = some a ∧ (w.alloc (.cells #[a, b, c] t)).cell? ⟨w.heap.size, 1, none⟩ = some b ∧ (w.alloc (.cells #[a, b, c] t)).cell? ⟨w.heap.size, 2, none⟩ = some c := by
  refine ⟨?_, ?_, ?_⟩ <;> simp
theorem ISl.lower {w w' : World} {v : Value} {zs : List Int} (h : ISl w v zs) (hb : Below w.heap.size w w') : ISl w' v zs := by
  obtain ⟨ao, b, off, cap, rfl, h1, h2, h3⟩ := h
  exact ⟨ao, b, off, cap, rfl, h1, fun h0 => Nat.lt_of_lt_of_le (h2 h0) hb.size, fun j hj => (hb.cell (p := ⟨b, off + j, none⟩) (h2 (by omega))).trans (h3 j hj)⟩

set_option maxRecDepth 100000 in
set_option maxHeartbeats 2000000 in
theorem areOptions_any (bd : Int) (es : List Int) (bo : Bool) (cs : List Col) (cv ev : Value) (w : World) (hm : cs.length ≤ maxLen) (hm2 : es.length ≤ maxLen) (hcs : CSl w cv cs) (hes : ISl w ev es) :
    Calls Try.prog 59 #[.agg #[.int .i64 bd, ev, .bool bo], cv] w fun e w' => ∃ bb, e = .returned (.bool bb) ∧ (bb = true ↔ OptsOk bd es cs) ∧ Below w.heap.size w w' := by
  have hes0 := hes
  have hcs0 := hcs
  obtain ⟨ao, b, off, cap, rfl, hcap, -⟩ := hcs0
  obtain ⟨eo, eb, eoff, ecap, rfl, -, -, -⟩ := hes0
  have HB0 : Hid (∀ o, Below w.heap.size w (w.alloc o)) := fun o => (Below.refl _ _).alloc (Nat.le_refl _) _
  have HAE : Hid (∀ o, Calls Try.prog 91 #[.slice eo es.length ecap, .slice ao cs.length cap] (w.alloc o) fun e w' => ∃ bb, e = .returned (.bool bb) ∧ (bb = true ↔ EncsOk cs es) ∧ Below (w.alloc o).heap.size (w.alloc o) w') := fun o => areEncodings_any cs es _ _ _ hm hm2 (hcs.below (HB0.out o)) (hes.lower (HB0.out o))
  clear hcs hes hm hm2
  by_cases h1 : 1 ≤ bd
  · by_cases h2 : bd ≤ 100
    · have d1 : decide (1 ≤ bd) = true := by simp; omega
      have d2 : decide (bd ≤ 100) = true := by simp; omega
      by_cases hE : EncsOk cs es
      · have HY : Hid (OptsOk bd es cs) := ⟨h1, h2, hE⟩
        have HA : Hid (∀ o, Calls Try.prog 91 #[.slice eo es.length ecap, .slice ao cs.length cap] (w.alloc o) fun e w' => e = .returned (.bool true) ∧ Below (w.alloc o).heap.size (w.alloc o) w') := fun o => det_true (HAE.out o) hE
        clear HAE hE h1 h2
        go_enter Try.func59, Try.ntmps59
        go_wp2_with (go_at_call 91; refine (HA.out _).mono ?_; rintro e w1 ⟨rfl, hb1⟩)
        go_ret
        exact ⟨true, rfl, by simp only [true_iff]; exact HY.out, (HB0.out _).trans (hb1.mono (by simp))⟩
      · have HY : Hid (¬ OptsOk bd es cs) := fun h => hE h.2.2
        have HA : Hid (∀ o, Calls Try.prog 91 #[.slice eo es.length ecap, .slice ao cs.length cap] (w.alloc o) fun e w' => e = .returned (.bool false) ∧ Below (w.alloc o).heap.size (w.alloc o) w') := fun o => det_false (HAE.out o) hE
        clear HAE hE h1 h2
        go_enter Try.func59, Try.ntmps59
        go_wp2_with (go_at_call 91; refine (HA.out _).mono ?_; rintro e w1 ⟨rfl, hb1⟩)
        go_ret
        exact ⟨false, rfl, by simp only [Bool.false_eq_true, false_iff]; exact HY.out, (HB0.out _).trans (hb1.mono (by simp))⟩
    · have d1 : decide (1 ≤ bd) = true := by simp; omega
      have d2 : decide (bd ≤ 100) = false := by simp; omega
      have HY : Hid (¬ OptsOk bd es cs) := fun h => h2 h.2.1
      clear HAE h1 h2
      go_enter Try.func59, Try.ntmps59
      go_wp2
      all_goals go_ret
      all_goals exact ⟨false, rfl, by simp only [Bool.false_eq_true, false_iff]; exact HY.out, HB0.out _⟩
  · have d1 : decide (1 ≤ bd) = false := by simp; omega
    have HY : Hid (¬ OptsOk bd es cs) := fun h => h1 h.1
    clear HAE h1
    go_enter Try.func59, Try.ntmps59
    go_wp2
    all_goals go_ret
    all_goals exact ⟨false, rfl, by simp only [Bool.false_eq_true, false_iff]; exact HY.out, HB0.out _⟩
end Go.Proofs.Ytjidbonhhpkljaa.Ec

/- Files: bands and chunks as plain data, their cells and their bytes. -/
set_option linter.unusedVariables false
namespace Go.Proofs.Ytjidbonhhpkljaa.Ec
open Go.RowKit Go.Proofs.Ytjidbonhhpkljaa.Pk Go.Proofs.Ytjidbonhhpkljaa.Pm

/-- A column of a band: its bytes, its bounds. -/
structure Chk where
  text : ByteArray
  bnd : Bnd
/-- A band: how many rows, its chunks. -/
structure Bd where
  rows : Nat
  chunks : List Chk

/-- Rows of things of some cells each. -/
theorem flat_len {α : Type} (f : α → List Value) (s : Nat) (hf : ∀ x, (f x).length = s) (l : List α) : (l.flatMap f).length = l.length * s := by
  induction l with
  | nil => simp
  | cons x r ih => rw [List.flatMap_cons, List.length_append, ih, hf, List.length_cons, Nat.succ_mul]; omega
theorem flat_at {α : Type} (f : α → List Value) (s : Nat) (hf : ∀ x, (f x).length = s) (l : List α) : ∀ j (h : j < l.length) i u, (f l[j])[i]? = some u → (l.flatMap f)[j * s + i]? = some u := by
  induction l with
  | nil => intro j h; simp at h
  | cons x r ih =>
    intro j h i u hu
    rw [List.flatMap_cons]
    cases j with
    | zero =>
      have hi : i < (f x).length := by
        simp only [List.getElem_cons_zero] at hu
        exact (List.getElem?_eq_some_iff.1 hu).1
      rw [List.getElem?_append_left (by omega)]
      simpa using hu
    | succ j =>
      have := ih j (by simpa using h) i u (by simpa using hu)
      rw [List.getElem?_append_right (by rw [hf, Nat.succ_mul]; omega), hf, show (j + 1) * s + i - s = j * s + i by rw [Nat.succ_mul]; omega]
      exact this
structure GRow {α : Type} (w : World) (f : α → List Value) (s : Nat) (ao : Option Addr) (b off : Nat) (l : List α) : Prop where
  addr : 0 < l.length → ao = some ⟨b, off, none⟩
  lt : 0 < l.length → b < w.heap.size
  c : ∀ j (h : j < l.length) i u, (f l[j])[i]? = some u → w.cell? ⟨b, off + j * s + i, none⟩ = some u
theorem GRow.below {α : Type} {w w' : World} {f : α → List Value} {s : Nat} {ao : Option Addr} {b off : Nat} {l : List α} (h : GRow w f s ao b off l) (hb : Below w.heap.size w w') : GRow w' f s ao b off l :=
  ⟨h.addr, fun h0 => Nat.lt_of_lt_of_le (h.lt h0) hb.size, fun j hj i u hu => (hb.cell (p := ⟨b, off + j * s + i, none⟩) (h.lt (by omega))).trans (h.c j hj i u hu)⟩
/-- A slice of things of some cells each. -/
def GSl {α : Type} (w : World) (f : α → List Value) (s : Nat) (v : Value) (l : List α) : Prop := ∃ ao b off cap, v = .slice ao l.length cap ∧ GRow w f s ao b off l
theorem GSl.below {α : Type} {w w' : World} {f : α → List Value} {s : Nat} {v : Value} {l : List α} (h : GSl w f s v l) (hb : Below w.heap.size w w') : GSl w' f s v l := by
  obtain ⟨ao, b, off, cap, rfl, h⟩ := h
  exact ⟨ao, b, off, cap, rfl, h.below hb⟩
theorem GSl.of_owns {α : Type} {w : World} {f : α → List Value} {s base : Nat} {e : TypeId} {v : Value} {l : List α} (hf : ∀ x, (f x).length = s) (h : w.ownsRow base e s v l.length (l.flatMap f)) : GSl w f s v l := by
  rcases h.2 with ⟨rfl, h0⟩ | ⟨g, cap, cur, rfl, hbg, hgb, hnc, hcm, hcs, htake⟩
  · have : l = [] := List.eq_nil_of_length_eq_zero h0
    subst this
    exact ⟨none, 0, 0, 0, rfl, ⟨fun h => by simp at h, fun h => by simp at h, fun j h => by simp at h⟩⟩
  · have hc := h.cells (g := g) rfl
    refine ⟨some ⟨g, 0, none⟩, g, 0, cap, rfl, ⟨fun _ => rfl, fun _ => (h.lt g rfl).2, ?_⟩⟩
    intro j hj i u hu
    have := hc _ _ (flat_at f s hf l j hj i u hu)
    simpa [Addr.add_lit] using this

/-- The cells of a chunk. -/
def kcell (c : Chk) : List Value := [.string c.text, .bool c.bnd.there, .bool c.bnd.least.null, .int .i64 c.bnd.least.n, .string c.bnd.least.s, .bool c.bnd.most.null, .int .i64 c.bnd.most.n, .string c.bnd.most.s]
def kcells (l : List Chk) : List Value := l.flatMap kcell
theorem kcell_len (c : Chk) : (kcell c).length = 8 := rfl
theorem kcells_snoc (l : List Chk) (c : Chk) : kcells l ++ [.string c.text, .bool c.bnd.there, .bool c.bnd.least.null, .int .i64 c.bnd.least.n, .string c.bnd.least.s, .bool c.bnd.most.null, .int .i64 c.bnd.most.n, .string c.bnd.most.s] = kcells (l ++ [c]) := by
  unfold kcells
  rw [List.flatMap_append, List.flatMap_singleton]
  rfl
/-- The cells of a band, with the slice of its chunks. -/
def dcell (p : Bd × Value) : List Value := [.int .i64 (p.1.rows : Int), p.2]
def dcells (l : List (Bd × Value)) : List Value := l.flatMap dcell
theorem dcell_len (p : Bd × Value) : (dcell p).length = 2 := rfl
theorem dcells_snoc (l : List (Bd × Value)) (b : Bd) (v : Value) : dcells l ++ [.int .i64 (b.rows : Int), v] = dcells (l ++ [(b, v)]) := by
  unfold dcells
  rw [List.flatMap_append, List.flatMap_singleton]
  rfl
/-- The bands of a file, as they lie in memory. -/
structure Bands (w : World) (base : Nat) (v : Value) (L : List (Bd × Value)) : Prop where
  own : w.ownsRow base 152 2 v L.length (dcells L)
  each : ∀ p ∈ L, w.ownsRow base 156 8 p.2 p.1.chunks.length (kcells p.1.chunks)

/-- A chunk of rows. -/
def chkP (rows : List (List Val)) (cs : List Col) (es : List Int) (bo : Bool) (p : Nat) : Chk :=
  ⟨(encOf (colVals rows p) (cs.getD p ⟨⟨#[]⟩, 0⟩).kind (es.getD p 0)).1, if bo then boundsP (colVals rows p) else noBnd⟩
def chksP (rows : List (List Val)) (cs : List Col) (es : List Int) (bo : Bool) (n : Nat) : List Chk := (List.range n).map (chkP rows cs es bo)
theorem chksP_succ (rows : List (List Val)) (cs : List Col) (es : List Int) (bo : Bool) (n : Nat) : chksP rows cs es bo (n + 1) = chksP rows cs es bo n ++ [chkP rows cs es bo n] := by
  unfold chksP
  rw [List.range_succ, List.map_append, List.map_singleton]
theorem chksP_length (rows : List (List Val)) (cs : List Col) (es : List Int) (bo : Bool) (n : Nat) : (chksP rows cs es bo n).length = n := by simp [chksP]
/-- A band of rows. -/
def bandP (rows : List (List Val)) (cs : List Col) (es : List Int) (bo : Bool) : Bd := ⟨rows.length, chksP rows cs es bo cs.length⟩
/-- Some of the rows. -/
def cutR (rows : List (List Val)) (bd j : Nat) : List (List Val) := (rows.drop (j * bd)).take bd
/-- So many bands. -/
def bandsP (rows : List (List Val)) (cs : List Col) (es : List Int) (bo : Bool) (bd n : Nat) : List Bd := (List.range n).map fun j => bandP (cutR rows bd j) cs es bo
theorem bandsP_succ (rows : List (List Val)) (cs : List Col) (es : List Int) (bo : Bool) (bd n : Nat) : bandsP rows cs es bo bd (n + 1) = bandsP rows cs es bo bd n ++ [bandP (cutR rows bd n) cs es bo] := by
  unfold bandsP
  rw [List.range_succ, List.map_append, List.map_singleton]
theorem bandsP_length (rows : List (List Val)) (cs : List Col) (es : List Int) (bo : Bool) (bd n : Nat) : (bandsP rows cs es bo bd n).length = n := by simp [bandsP]
/-- How many bands there are. -/
def bandN (len bd : Nat) : Nat := (len + bd - 1) / bd
theorem bandN_lt {len bd : Nat} (h : 0 < bd) (k : Nat) : k * bd < len ↔ k < bandN len bd := by
  unfold bandN
  have := Nat.le_div_iff_mul_le (x := k + 1) (y := len + bd - 1) h
  rw [Nat.succ_mul] at this
  omega

/-- Bounds as bytes. -/
def boundB (k : Int) (b : Bnd) : List Nat := if b.there then [1] ++ (plainB k b.least ++ plainB k b.most) else [0]
/-- A column as bytes. -/
def colB (cs : List Col) (es : List Int) (i : Nat) : List Nat := vint (cs.getD i ⟨⟨#[]⟩, 0⟩).name.size ++ (bytesOf (cs.getD i ⟨⟨#[]⟩, 0⟩).name ++ [byteOf (cs.getD i ⟨⟨#[]⟩, 0⟩).kind, byteOf (es.getD i 0)])
def colsB (cs : List Col) (es : List Int) (n : Nat) : List Nat := (List.range n).flatMap (colB cs es)
theorem colsB_succ (cs : List Col) (es : List Int) (n : Nat) : colsB cs es (n + 1) = colsB cs es n ++ colB cs es n := by
  unfold colsB
  rw [List.range_succ, List.flatMap_append, List.flatMap_singleton]
/-- What the footer says of a chunk. -/
def partB (cs : List Col) (l : List Chk) (i : Nat) : List Nat := vint (l.getD i ⟨⟨#[]⟩, noBnd⟩).text.size ++ boundB (cs.getD i ⟨⟨#[]⟩, 0⟩).kind (l.getD i ⟨⟨#[]⟩, noBnd⟩).bnd
def partsB (cs : List Col) (l : List Chk) (n : Nat) : List Nat := (List.range n).flatMap (partB cs l)
theorem partsB_succ (cs : List Col) (l : List Chk) (n : Nat) : partsB cs l (n + 1) = partsB cs l n ++ partB cs l n := by
  unfold partsB
  rw [List.range_succ, List.flatMap_append, List.flatMap_singleton]
/-- What the footer says of a band. -/
def bandB (cs : List Col) (b : Bd) : List Nat := vint b.rows ++ partsB cs b.chunks b.chunks.length
def bandsB (cs : List Col) (bs : List Bd) : List Nat := bs.flatMap (bandB cs)
theorem bandsB_take (cs : List Col) (bs : List Bd) (k : Nat) (h : k < bs.length) : bandsB cs (bs.take (k + 1)) = bandsB cs (bs.take k) ++ bandB cs bs[k] := by
  unfold bandsB
  rw [List.take_succ_eq_append_getElem h, List.flatMap_append, List.flatMap_singleton]
/-- The footer. -/
def footB (cs : List Col) (es : List Int) (bs : List Bd) : List Nat := vint cs.length ++ (colsB cs es cs.length ++ (vint bs.length ++ bandsB cs bs))
/-- The length of the footer. -/
def lenB (n : Nat) : List Nat := [n % 256, n / 256 % 256, n / 65536 % 256, n / 16777216 % 256]
/-- The chunks. -/
def textB (l : List Chk) : List Nat := l.flatMap fun c => bytesOf c.text
theorem textB_take (l : List Chk) (k : Nat) (h : k < l.length) : textB (l.take (k + 1)) = textB (l.take k) ++ bytesOf l[k].text := by
  unfold textB
  rw [List.take_succ_eq_append_getElem h, List.flatMap_append, List.flatMap_singleton]
theorem textB_snoc (l : List Chk) (c : Chk) : textB (l ++ [c]) = textB l ++ bytesOf c.text := by
  unfold textB
  rw [List.flatMap_append, List.flatMap_singleton]
def bodyB (bs : List Bd) : List Nat := bs.flatMap fun b => textB b.chunks
theorem bodyB_take (bs : List Bd) (k : Nat) (h : k < bs.length) : bodyB (bs.take (k + 1)) = bodyB (bs.take k) ++ textB bs[k].chunks := by
  unfold bodyB
  rw [List.take_succ_eq_append_getElem h, List.flatMap_append, List.flatMap_singleton]
theorem bodyB_snoc (bs : List Bd) (b : Bd) : bodyB (bs ++ [b]) = bodyB bs ++ textB b.chunks := by
  unfold bodyB
  rw [List.flatMap_append, List.flatMap_singleton]
/-- The mark at both ends. -/
def markB : List Nat := [83, 84, 82, 65]
/-- A file. -/
def fileB (cs : List Col) (es : List Int) (bs : List Bd) : List Nat := markB ++ (bodyB bs ++ (footB cs es bs ++ (lenB (footB cs es bs).length ++ markB)))
end Go.Proofs.Ytjidbonhhpkljaa.Ec

/- A struct of many cells, copied from one box into another, and handed back. -/
set_option linter.unusedVariables false
set_option linter.unusedSimpArgs false
namespace Go.Proofs.Ytjidbonhhpkljaa.Ec
open Go.RowKit Go.Proofs.Ytjidbonhhpkljaa.Pk

theorem row_range {w : World} {g : Nat} {C : Array Value} {t : TypeId} (h : w.heap[g]? = some (.cells C t (0, 0))) : w.rangeAt g 0 C.toList := by
  intro j v hv
  rw [Nat.zero_add]
  simp only [World.cell?, h]
  simpa using hv
theorem row_there {w : World} {g : Nat} {C : Array Value} {t : TypeId} (h : w.heap[g]? = some (.cells C t (0, 0))) : w.there g 0 C.size := by
  intro j hj
  rw [Nat.zero_add]
  refine ⟨?_, ?_⟩
  · simp [World.cell?, h, hj]
  · simp [World.frozen?, h]
theorem below_setCells {n : Nat} {w : World} {g : Nat} (hn : n ≤ w.heap.size) (hg : n ≤ g) : ∀ (vs : List Value) (o : Nat) (w1 : World), Below n w w1 → Below n w (w1.setCells g o vs)
  | [], _, _, h => h
  | v :: r, o, w1, h => below_setCells hn hg r (o + 1) _ (below_put h hn hg o v)
theorem block_setCells {g k : Nat} (h : k ≠ g) : ∀ (vs : List Value) (o : Nat) (w : World), (w.setCells g o vs).heap[k]? = w.heap[k]?
  | [], _, _ => rfl
  | v :: r, o, w => by
    rw [World.setCells, block_setCells h r (o + 1)]
    exact heap_setCell_other _ _ _ _ (by simpa using h)
/-- A function's end whose one result lies in a box. -/
theorem post_cell {P : Program} {fn : Func} {R : Ending → World → Prop} {a : Act} {w : World} {p : Tmp} {ty : TypeId} {g : Nat} {cs : List Value} {d : TypeDesc} (hr : fn.results = #[.cell p ty]) (hd : a.defers = [])
    (hp : a.tmps.getD p undef = .pointer (some ⟨g, 0, none⟩)) (hc : w.rangeAt g 0 cs) (hu : P.underlying ty = some d) (hd2 : d.isRow = true) (hi : (P.info? ty).map (·.size) = some cs.length) (h : R (.returned (.agg cs.toArray)) w) : bodyPost P fn R .ret a w := by
  refine bodyPost_ret (v := .agg cs.toArray) ?_ hd h
  have h1 := run_loadVar_mid w g 0 ty cs d hc hu hd2 hi
  have hp' : a.tmps[p]?.getD undef = .pointer (some ⟨g, 0, none⟩) := by simpa using hp
  simp [results, hr, hp', asAddr, Sem.run_bind, Result.andThen, h1]
end Go.Proofs.Ytjidbonhhpkljaa.Ec

/- A table as a caller hands it in: the columns. -/
set_option linter.unusedVariables false
namespace Go.Proofs.Ytjidbonhhpkljaa.Ec
open Go.RowKit Go.Proofs.Ytjidbonhhpkljaa.Pk Go.Proofs.Ytjidbonhhpkljaa.Pm

def zeroC : Col := ⟨⟨#[]⟩, 0⟩
def beyC : Col := ⟨⟨#[98, 101, 121, 111, 110, 100]⟩, 0⟩
def lentC (l : List Col) (t : Nat) : List Col := l ++ (List.replicate t beyC ++ List.replicate (8 - t) zeroC)
theorem lentC_length (l : List Col) (t : Nat) (h : t ≤ 8) : (lentC l t).length = l.length + 8 := by unfold lentC; simp; omega
theorem ccells_length (l : List Col) : (ccells l).length = l.length * 2 := flat_len _ 2 (fun _ => rfl) l
theorem ccells_cons (x : Col) (r : List Col) : ccells (x :: r) = [.string x.name, .int .i64 x.kind] ++ ccells r := by simp [ccells]
theorem ccells_append (a b : List Col) : ccells (a ++ b) = ccells a ++ ccells b := by simp [ccells]
theorem ccells_at (l : List Col) (j : Nat) (h : j < l.length) : (ccells l)[j * 2]? = some (.string l[j].name) ∧ (ccells l)[j * 2 + 1]? = some (.int .i64 l[j].kind) :=
  ⟨flat_at _ 2 (fun _ => rfl) l j h 0 _ rfl, flat_at _ 2 (fun _ => rfl) l j h 1 _ rfl⟩
theorem ccells_set (L : List Col) : ∀ (j : Nat) (v : Col), j < L.length → ((ccells L).set (j * 2) (.string v.name)).set (j * 2 + 1) (.int .i64 v.kind) = ccells (L.set j v) := by
  induction L with
  | nil => intro j v h; simp at h
  | cons x r ih =>
    intro j v h
    cases j with
    | zero => simp [ccells_cons]
    | succ j =>
      have := ih j v (by simpa using h)
      rw [List.set_cons_succ, ccells_cons, ccells_cons, ← this]
      rw [show (j + 1) * 2 = j * 2 + 1 + 1 by omega]
      simp [List.set_cons_succ]
theorem lentC_set (l : List Col) (t : Nat) (ht : t < 8) : (lentC l t).set (l.length + t) beyC = lentC l (t + 1) := by
  unfold lentC
  rw [List.set_append_right _ _ (by omega), show l.length + t - l.length = t by omega, List.set_append_right _ _ (by simp)]
  simp only [List.length_replicate, Nat.sub_self]
  rw [show 8 - t = (8 - (t + 1)) + 1 by omega, List.replicate_succ, List.set_cons_zero, List.replicate_succ' (n := t)]
  simp
theorem ccells_oneCell (l : List Col) : ∀ v ∈ ccells l, v.oneCell' = true := by
  intro v hv
  unfold ccells at hv
  obtain ⟨x, _, hx⟩ := List.mem_flatMap.1 hv
  simp at hx
  rcases hx with rfl | rfl <;> rfl
theorem made_cols (n : Nat) : (madeCells (Value.cells (.agg #[.string ⟨#[]⟩, .int .i64 0])) (n * 2)).toList = ccells (List.replicate n zeroC) := by
  apply List.ext_getElem?
  intro j
  by_cases hj : j < n * 2
  · obtain ⟨q, hq, hjq⟩ : ∃ q, q < n ∧ (j = q * 2 ∨ j = q * 2 + 1) := ⟨j / 2, by omega, by omega⟩
    obtain ⟨c0, c1⟩ := ccells_at (List.replicate n zeroC) q (by simpa using hq)
    rw [List.getElem_replicate] at c0 c1
    rcases hjq with rfl | rfl
    · rw [c0]; simp [madeCells, Value.cells, zeroC, hj]
    · rw [c1]; simp [madeCells, Value.cells, zeroC, hj, show (q * 2 + 1) % 2 = 1 by omega]
  · rw [List.getElem?_eq_none (by simp [size_madeCells]; omega), List.getElem?_eq_none (by rw [ccells_length]; simp; omega)]
theorem cowns_of_block {w : World} {base g n : Nat} {xs : List Value} (h : w.heap[g]? = some (.cells xs.toArray 104 (0, 0))) (hl : xs.length = n * 2) (hb : base ≤ g) (hn : n ≤ maxLen) :
    w.ownsRow base 104 2 (.slice (some ⟨g, 0, none⟩) n n) n xs :=
  ⟨hl, .inr ⟨g, n, xs.toArray, rfl, hb, h, Nat.le_refl _, hn, by simp [hl], by simp; exact List.take_of_length_le (by omega)⟩⟩
theorem cblock_of_owns {w : World} {base g n : Nat} {xs : List Value} (h : w.ownsRow base 104 2 (.slice (some ⟨g, 0, none⟩) n n) n xs) : w.heap[g]? = some (.cells xs.toArray 104 (0, 0)) := by
  rcases h.2 with ⟨h1, _⟩ | ⟨g', cap, cur, h1, _, h3, _, _, h6, h7⟩
  · simp at h1
  · simp only [Value.slice.injEq, Option.some.injEq, Addr.mk.injEq, and_true, true_and] at h1
    obtain ⟨rfl, rfl⟩ := h1
    rw [h3]
    have : cur.toList = xs := by rw [← h7]; exact (List.take_of_length_le (by simp [h6])).symm
    rw [← this]
theorem clent_copy (l : List Col) {ao : Option Addr} {b off cap : Nat} {w w0 : World} {g : Nat} (hr : CRow w ao b off l) (hbel : Below w.heap.size w w0) (hg : w.heap.size ≤ g)
    (hB : w0.heap[g]? = some (.cells (ccells (List.replicate (l.length + 8) zeroC)).toArray 104 (0, 0))) (j0 : TypeInfo) (hj : Try.prog.info? 104 = some j0) (hy1 : j0.size = 2) :
    ∃ w1, (Builtin.copy_ #[49, 49] 3 #[.slice (some ⟨g, 0, none⟩) (l.length + 8) (l.length + 8), .slice ao l.length cap]).run Try.prog w0 = .ok (.int .i64 (l.length : Int)) w1 ∧
      Hid (w1.heap[g]? = some (.cells (ccells (lentC l 0)).toArray 104 (0, 0))) ∧ (∀ k, k ≠ g → w1.heap[k]? = w0.heap[k]?) ∧ Below w.heap.size w w1 := by
  have hr0 := hr.below hbel
  by_cases h : 0 < l.length
  · obtain rfl := hr.addr h
    have hsrc : ∀ j v, (ccells l)[j]? = some v → w0.cell? ((⟨b, off, none⟩ : Addr).add j) = some v := by
      intro j v hv
      have hjl : j < l.length * 2 := by have := (List.getElem?_eq_some_iff.1 hv).1; rwa [ccells_length] at this
      obtain ⟨q, hq, hjq⟩ : ∃ q, q < l.length ∧ (j = q * 2 ∨ j = q * 2 + 1) := ⟨j / 2, by omega, by omega⟩
      obtain ⟨c0, c1⟩ := ccells_at l q hq
      rw [Addr.add_lit]
      rcases hjq with rfl | rfl
      · rw [← hv, c0]; exact hr0.c0 q hq
      · rw [← hv, c1, ← Nat.add_assoc]; exact hr0.c1 q hq
    have hmin : Nat.min l.length (l.length + 8) = l.length := Nat.min_eq_left (by omega)
    have hrr := run_copy_wide (P := Try.prog) w0 49 49 3 104 g 0 (l.length + 8) (l.length + 8) ⟨b, off, none⟩ l.length cap 2 _ 104 (ccells l) j0 Try.underlying49 hj hy1 hB (by rw [ccells_length, hmin]) hsrc (by simp [ccells_length]; omega) (ccells_oneCell l)
    rw [hmin] at hrr
    refine ⟨_, hrr, ?_, fun k hk => setRow_other w0 g k _ hk, below_setRow hbel hg _⟩
    show _ = _
    have hsp : (ccells (List.replicate (l.length + 8) zeroC)).take 0 ++ ccells l ++ (ccells (List.replicate (l.length + 8) zeroC)).drop (0 + (ccells l).length) = ccells (lentC l 0) := by
      rw [List.take_zero, List.nil_append, Nat.zero_add, ← List.replicate_append_replicate, ccells_append, List.drop_append_of_le_length (by simp [ccells_length]), List.drop_of_length_le (by simp [ccells_length]), List.nil_append]
      unfold lentC
      rw [ccells_append]
      simp
    have := setRow_heap w0 g _ (ccells (lentC l 0)).toArray 104 _ hB
    rw [← hsp]
    rw [← hsp] at this
    simpa using this
  · have h0 : l = [] := List.eq_nil_of_length_eq_zero (by omega)
    subst h0
    exact ⟨w0, run_copy_wide_none (P := Try.prog) w0 49 49 3 104 _ ao _ _ _ cap j0 Try.underlying49 hj (by simp), by show _ = _; simpa [lentC] using hB, fun _ _ => rfl, hbel⟩
theorem stored2 {w : World} {base g n cap : Nat} {L : List Col} (h : w.ownsRow base 104 2 (.slice (some ⟨g, 0, none⟩) n cap) n (ccells L)) (j : Nat) (v : Col) (hj : j < L.length) :
    ((w.setCell ⟨g, j * 2, none⟩ (.string v.name)).setCell ⟨g, j * 2 + 1, none⟩ (.int .i64 v.kind)).ownsRow base 104 2 (.slice (some ⟨g, 0, none⟩) n cap) n (ccells (L.set j v)) := by
  rw [← ccells_set L j v hj]
  exact ((h.stored (j * 2) (.string v.name)).1.stored (j * 2 + 1) (.int .i64 v.kind)).1
theorem CRow.of_block {w : World} {g : Nat} {L : List Col} (h : w.heap[g]? = some (.cells (ccells L).toArray 104 (0, 0))) : CRow w (some ⟨g, 0, none⟩) g 0 L := by
  have hr := row_range h
  refine ⟨fun _ => rfl, fun _ => (Array.getElem?_eq_some_iff.1 h).1, fun j hj => ?_, fun j hj => ?_⟩
  · have := hr (j * 2) _ (by simpa using (ccells_at L j hj).1)
    simpa using this
  · have := hr (j * 2 + 1) _ (by simpa using (ccells_at L j hj).2)
    rwa [Nat.zero_add] at this ⊢
theorem Try.info104 : (Try.prog.info? 104).map (fun i => (i.zero, i.size, i.bytes)) = some (some (.agg #[.string ⟨#[]⟩, .int .i64 0]), 2, 24) := by kernel_rfl
theorem Try.info30 : (Try.prog.info? 30).map (fun i => (i.zero, i.size, i.bytes)) = some (some (.slice none 0 0), 1, 24) := by kernel_rfl
end Go.Proofs.Ytjidbonhhpkljaa.Ec
