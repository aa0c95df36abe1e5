/- The contracts of the code's readPlain, readDelta, valuesOf and countOnes. -/
import Derived.Test.YtjidbonhhpkljaaDcPlainC
import Derived.Test.YtjidbonhhpkljaaDcRunsC
import Derived.Test.YtjidbonhhpkljaaDcDictP
set_option linter.unusedVariables false
namespace Go.Proofs.Ytjidbonhhpkljaa.Ec
open Go.RowKit Go.Proofs.Ytjidbonhhpkljaa.Pk Go.Proofs.Ytjidbonhhpkljaa.Pm

theorem vcells_snoc (l : List Val) (x : Val) : vcells l ++ [.bool x.null, .int .i64 x.n, .string x.s] = vcells (l ++ [x]) := by rw [vcells_append, vcells_one]

set_option maxRecDepth 100000 in
set_option maxHeartbeats 4000000 in
theorem readPlain_any (k : Int) (hk : k = 1 ∨ k = 2 ∨ k = 3) (s : ByteArray) (r p cn : Nat) (w : World) (hm : s.size ≤ maxLen) (hcn : cn ≤ 100) (hp : p ≤ s.size) (h : w.heap[r]? = some (rdr s p)) :
    Calls Try.prog 117 #[.pointer (some ⟨r, 0, none⟩), .int .i64 k, .int .i64 cn] w fun e w' => Kp r w w' ∧
      ((∃ (l : List Val) (v : Value), e = .returned v ∧ l.length = cn ∧ (∀ x ∈ l, VK k x) ∧ Starts (bytesOf s) p (plainsB k l) ∧ (∀ L : List Val, L.length = cn → (∀ x ∈ L, VK k x) → Starts (bytesOf s) p (plainsB k L) → L = l) ∧ p + (plainsB k l).length ≤ s.size ∧
        w'.heap[r]? = some (rdr s (p + (plainsB k l).length)) ∧ w'.ownsRow w.heap.size 39 3 v l.length (vcells l)) ∨
       (∃ q, e = .panicked (badAt q) ∧ ∀ L : List Val, L.length = cn → (∀ x ∈ L, VK k x) → ¬ Starts (bytesOf s) p (plainsB k L))) := by
  obtain ⟨j0, hj, hy0, hy1, hy2⟩ := info_parts Try.info39
  have hrl : r < w.heap.size := lt_of_block h
  have HR : Hid (w.heap[r]? = some (rdr s p)) := h
  clear h
  go_enter Try.func117, Try.ntmps117
  go_wp2_with (at_make; refine wpList_make_own _ rfl _ _ 30 rfl w.heap.size 39 j0 _ 3 Try.underlying30 hj hy0 hy1 .i64 .i64 _ cn rfl rfl rfl (by rw [hy2]; omega) (by unfold maxLen; omega) (Nat.le_refl _) ?_; intro w0 hown0 hgrow0)
  have HK0 : Hid (Kp r w w0) := (Kp.refl r w).grown hgrow0 (by simp)
  have HR0 : Hid (w0.heap[r]? = some (rdr s p)) := by show _ = _; rw [hgrow0.block r hrl (by simp)]; exact HR.out
  clear HR hgrow0
  go_loopw [7, 11] (fun lv i wr => ∃ l : List Val, i = .int .i64 (l.length : Int) ∧ lv = .slice (some ⟨w.heap.size, 0, none⟩) l.length cn ∧ QSt (plainsB k) (VK k) (bytesOf s) p cn l ∧ p + (plainsB k l).length ≤ s.size ∧ wr.heap[r]? = some (rdr s (p + (plainsB k l).length)) ∧
      wr.ownsRow w.heap.size 39 3 (.slice (some ⟨w.heap.size, 0, none⟩) l.length cn) l.length (vcells l) ∧ Kp r w wr) (fun _ i _ => cn - (intOf i).toNat)
  case atStart => exact ⟨[], rfl, rfl, QSt.zero rfl, by simpa [plainsB] using hp, by simpa [plainsB] using HR0.out, hown0, HK0.out⟩
  case round =>
    clear hown0 HK0 HR0
    obtain ⟨l, rfl, rfl, hS, hpl, hR, hown, hK⟩ := hrel
    have HS : Hid (QSt (plainsB k) (VK k) (bytesOf s) p cn l) := hS
    have HRR : Hid (wr.heap[r]? = some (rdr s (p + (plainsB k l).length))) := hR
    have HK : Hid (Kp r w wr) := hK
    have HO : Hid (wr.ownsRow w.heap.size 39 3 (.slice (some ⟨w.heap.size, 0, none⟩) l.length cn) l.length (vcells l)) := hown
    have hsz : w.heap.size ≤ wr.heap.size := hK.size
    have hle := hS.le
    clear hS hR hK hown
    by_cases hlt : l.length < cn
    · go_wp2_with fail
      refine (readPlain1_any k hk r (p + (plainsB k l).length) s _ hm hpl HRR.out).mono ?_
      rintro e w1 ⟨hK1, ⟨x, rfl, hx, hs1, hl1, hR1⟩ | ⟨q, rfl, hno⟩⟩
      · have HK1 : Hid (Kp r w w1) := HK.out.trans hK1
        have hown1 : w1.ownsRow w.heap.size 39 3 (.slice (some ⟨w.heap.size, 0, none⟩) l.length cn) l.length (vcells l) := hK1.own HO.out hrl
        have HMORE : Hid (QSt (plainsB k) (VK k) (bytesOf s) p cn (l ++ [x])) := HS.out.more (e := fun _ v => plainB k v) (plainsB_snoc k) hlt hx hs1 (fun y hy hs => plain_one hk hy hx hs hs1)
        have HR1 : Hid (w1.heap[r]? = some (rdr s (p + (plainsB k (l ++ [x])).length))) := by
          show _ = _
          rw [plainsB_snoc, List.length_append, ← Nat.add_assoc]; exact hR1
        have HL1 : Hid (p + (plainsB k (l ++ [x])).length ≤ s.size) := by
          show _ ≤ _
          rw [plainsB_snoc, List.length_append, ← Nat.add_assoc]; exact hl1
        have hsz1 := HK1.out.size
        clear hK1 hs1 hR1 hl1 hx HO HK HRR HS
        go_wp2_with (at_builtin; refine wpList_append_fits _ rfl _ _ 30 rfl w.heap.size 39 j0 3 Try.underlying30 hj hy1 w.heap.size l.length cn _ rfl (hown1.alloc _) ⟨w1.heap.size, 0, none⟩ 1 1 [.bool x.null, .int .i64 x.n, .string x.s] rfl rfl (by exact three_at _ _ _ _ _) (three_one x) (by omega) ?_; intro w2 hown2 hgrow2)
        have HK2 : Hid (Kp r w w2) := (HK1.out.alloc _).grown hgrow2 (by intro g hg; simp at hg; omega)
        have HR2 : Hid (w2.heap[r]? = some (rdr s (p + (plainsB k (l ++ [x])).length))) := by
          show _ = _
          rw [hgrow2.block r (by simp; omega) (by simp; omega), Below.heap_alloc w1 _ r (by omega)]
          exact HR1.out
        rw [vcells_snoc] at hown2
        clear hown1 hgrow2 HK1 HR1
        go_wp2
        go_roundw
        case rel => exact ⟨l ++ [x], by rw [List.length_append]; rfl, by rw [List.length_append]; rfl, HMORE.out, HL1.out, HR2.out, by rw [List.length_append]; exact hown2, HK2.out⟩
        case measure => simp [intOf]; omega
      · have HNO : Hid (∀ L : List Val, L.length = cn → (∀ x ∈ L, VK k x) → ¬ Starts (bytesOf s) p (plainsB k L)) := fun L hL hok => HS.out.fail (e := fun _ v => plainB k v) (plainsB_snoc k) hlt hno L hL hok
        have HK1 : Hid (Kp r w w1) := HK.out.trans hK1
        clear hno hK1 HK HO
        go_wp2
        exact ⟨rfl, HK1.out, .inr ⟨q, rfl, HNO.out⟩⟩
    · obtain ⟨d1, d3⟩ := HS.out.done hlt
      have HU : Hid (∀ L : List Val, L.length = cn → (∀ x ∈ L, VK k x) → Starts (bytesOf s) p (plainsB k L) → L = l) := d3
      have HST : Hid (Starts (bytesOf s) p (plainsB k l)) := HS.out.st
      have HD : Hid (l.length = cn) := d1
      clear d3 d1
      go_wp2
      go_ret
      exact ⟨HK.out, .inl ⟨l, _, rfl, HD.out, HS.out.oks, HST.out, HU.out, hpl, HRR.out, HO.out⟩⟩

/-- The value behind a difference. -/
def stepV (a d : Int) : Val := ⟨false, wrap64 (a + d), ⟨#[]⟩⟩
theorem stepV_ok (a d : Int) : VK 1 (stepV a d) := ⟨rfl, (wrap64_range _).1, (wrap64_range _).2, fun _ => rfl, fun h => by omega, fun h => by omega⟩
theorem stepV_enc (a : Int) (v : Val) (hv : VK 1 v) : vint (zz (wrap64 ((stepV a v.n).n - a))) = plainB 1 v := by
  show vint (zz (wrap64 (wrap64 (a + v.n) - a))) = vint (zz v.n)
  rw [wrap64_forth a v.n hv.lo hv.hi]

set_option maxRecDepth 100000 in
set_option maxHeartbeats 4000000 in
theorem readDelta_any (s : ByteArray) (r p cn : Nat) (w : World) (hm : s.size ≤ maxLen) (hcn : cn ≤ 100) (hp : p ≤ s.size) (h : w.heap[r]? = some (rdr s p)) :
    Calls Try.prog 114 #[.pointer (some ⟨r, 0, none⟩), .int .i64 cn] w fun e w' => Kp r w w' ∧
      ((∃ (l : List Val) (v : Value), e = .returned v ∧ l.length = cn ∧ (∀ x ∈ l, VK 1 x) ∧ Starts (bytesOf s) p (deltaF 0 l) ∧ (∀ L : List Val, L.length = cn → (∀ x ∈ L, VK 1 x) → Starts (bytesOf s) p (deltaF 0 L) → L = l) ∧ p + (deltaF 0 l).length ≤ s.size ∧
        w'.heap[r]? = some (rdr s (p + (deltaF 0 l).length)) ∧ w'.ownsRow w.heap.size 39 3 v l.length (vcells l)) ∨
       (∃ q, e = .panicked (badAt q) ∧ ∀ L : List Val, L.length = cn → (∀ x ∈ L, VK 1 x) → ¬ Starts (bytesOf s) p (deltaF 0 L))) := by
  obtain ⟨j0, hj, hy0, hy1, hy2⟩ := info_parts Try.info39
  have hrl : r < w.heap.size := lt_of_block h
  have HR : Hid (w.heap[r]? = some (rdr s p)) := h
  have hfd : ∀ (a b c : Value) (w : World), (Instr.field 39 (.agg #[a, b, c]) 1).run Try.prog w = .ok b w := fun _ _ _ _ => by first | rfl | kernel_rfl
  have HSN : Hid (∀ (l : List Val) (x : Val), deltaF 0 (l ++ [x]) = deltaF 0 l ++ vint (zz (wrap64 (x.n - lastF 0 l)))) := deltaF_snoc 0
  clear h
  go_enter Try.func114, Try.ntmps114
  go_wp2_with (at_make; refine wpList_make_own _ rfl _ _ 30 rfl w.heap.size 39 j0 _ 3 Try.underlying30 hj hy0 hy1 .i64 .i64 _ cn rfl rfl rfl (by rw [hy2]; omega) (by unfold maxLen; omega) (Nat.le_refl _) ?_; intro w0 hown0 hgrow0)
  have HK0 : Hid (Kp r w w0) := (Kp.refl r w).grown hgrow0 (by simp)
  have HR0 : Hid (w0.heap[r]? = some (rdr s p)) := by show _ = _; rw [hgrow0.block r hrl (by simp)]; exact HR.out
  clear HR hgrow0
  go_loopw [5, 6, 10] (fun lv la i wr => ∃ l : List Val, i = .int .i64 (l.length : Int) ∧ la = .int .i64 (lastF 0 l) ∧ lv = .slice (some ⟨w.heap.size, 0, none⟩) l.length cn ∧ QSt (deltaF 0) (VK 1) (bytesOf s) p cn l ∧ p + (deltaF 0 l).length ≤ s.size ∧ wr.heap[r]? = some (rdr s (p + (deltaF 0 l).length)) ∧
      wr.ownsRow w.heap.size 39 3 (.slice (some ⟨w.heap.size, 0, none⟩) l.length cn) l.length (vcells l) ∧ Kp r w wr) (fun _ _ i _ => cn - (intOf i).toNat)
  case atStart => exact ⟨[], rfl, rfl, rfl, QSt.zero rfl, by simpa [deltaF] using hp, by simpa [deltaF] using HR0.out, hown0, HK0.out⟩
  case round =>
    clear hown0 HK0 HR0
    obtain ⟨l, rfl, rfl, rfl, hS, hpl, hR, hown, hK⟩ := hrel
    have HS : Hid (QSt (deltaF 0) (VK 1) (bytesOf s) p cn l) := hS
    have HRR : Hid (wr.heap[r]? = some (rdr s (p + (deltaF 0 l).length))) := hR
    have HK : Hid (Kp r w wr) := hK
    have HO : Hid (wr.ownsRow w.heap.size 39 3 (.slice (some ⟨w.heap.size, 0, none⟩) l.length cn) l.length (vcells l)) := hown
    have hsz : w.heap.size ≤ wr.heap.size := hK.size
    have hle := hS.le
    clear hS hR hK hown
    by_cases hlt : l.length < cn
    · go_wp2_with fail
      refine (readPlain1_any 1 (.inl rfl) r (p + (deltaF 0 l).length) s _ hm hpl HRR.out).mono ?_
      rintro e w1 ⟨hK1, ⟨x, rfl, hx, hs1, hl1, hR1⟩ | ⟨q, rfl, hno⟩⟩
      · have HK1 : Hid (Kp r w w1) := HK.out.trans hK1
        have hown1 : w1.ownsRow w.heap.size 39 3 (.slice (some ⟨w.heap.size, 0, none⟩) l.length cn) l.length (vcells l) := hK1.own HO.out hrl
        have hen := stepV_enc (lastF 0 l) x hx
        have HMORE : Hid (QSt (deltaF 0) (VK 1) (bytesOf s) p cn (l ++ [stepV (lastF 0 l) x.n])) :=
          HS.out.more (e := fun l v => vint (zz (wrap64 (v.n - lastF 0 l)))) HSN.out hlt (stepV_ok _ _) (by show Starts _ _ (vint (zz (wrap64 ((stepV (lastF 0 l) x.n).n - lastF 0 l)))); rw [hen]; exact hs1) (fun y hy hs => delta_one hy (stepV_ok _ _) hs (by rw [hen]; exact hs1))
        have HDL : Hid ((deltaF 0 (l ++ [stepV (lastF 0 l) x.n])).length = (deltaF 0 l).length + (plainB 1 x).length) := by
          show _ = _
          rw [HSN.out, List.length_append, hen]
        have HR1 : Hid (w1.heap[r]? = some (rdr s (p + (deltaF 0 (l ++ [stepV (lastF 0 l) x.n])).length))) := by
          show _ = _
          rw [HDL.out, ← Nat.add_assoc]; exact hR1
        have HL1 : Hid (p + (deltaF 0 (l ++ [stepV (lastF 0 l) x.n])).length ≤ s.size) := by
          show _ ≤ _
          rw [HDL.out, ← Nat.add_assoc]; exact hl1
        have HLA : Hid (lastF 0 (l ++ [stepV (lastF 0 l) x.n]) = wrap64 (lastF 0 l + x.n)) := lastF_snoc _ _ _
        have HSV : Hid (∀ v, v = [Value.bool false, .int .i64 (wrap64 (lastF 0 l + x.n)), .string ⟨#[]⟩] → vcells l ++ v = vcells (l ++ [stepV (lastF 0 l) x.n])) := by
          intro v hv
          rw [hv, ← vcells_snoc]; rfl
        have hsz1 := HK1.out.size
        clear hK1 hs1 hR1 hl1 hx HO HK HRR HS hen HDL
        generalize stepV (lastF 0 l) x.n = y at *
        generalize lastF 0 l = la at *
        generalize x.n = d at *
        go_wp2_with (at_builtin; refine wpList_append_fits _ rfl _ _ 30 rfl w.heap.size 39 j0 3 Try.underlying30 hj hy1 w.heap.size l.length cn _ rfl (hown1.alloc _) ⟨w1.heap.size, 0, none⟩ 1 1 [.bool false, .int .i64 (wrap64 (la + d)), .string ⟨#[]⟩] rfl rfl (by exact three_at _ _ _ _ _) (three_one ⟨false, wrap64 (la + d), ⟨#[]⟩⟩) (by omega) ?_; intro w2 hown2 hgrow2)
        have HK2 : Hid (Kp r w w2) := (HK1.out.alloc _).grown hgrow2 (by intro g hg; simp at hg; omega)
        have HR2 : Hid (w2.heap[r]? = some (rdr s (p + (deltaF 0 (l ++ [y])).length))) := by
          show _ = _
          rw [hgrow2.block r (by simp; omega) (by simp; omega), Below.heap_alloc w1 _ r (by omega)]
          exact HR1.out
        rw [HSV.out _ rfl] at hown2
        clear hown1 hgrow2 HK1 HR1 HSV
        go_wp2
        go_roundw
        case rel => exact ⟨l ++ [y], by rw [List.length_append]; rfl, by rw [HLA.out], by rw [List.length_append]; rfl, HMORE.out, HL1.out, HR2.out, by rw [List.length_append]; exact hown2, HK2.out⟩
        case measure => simp [intOf]; omega
      · have HNO : Hid (∀ L : List Val, L.length = cn → (∀ x ∈ L, VK 1 x) → ¬ Starts (bytesOf s) p (deltaF 0 L)) := fun L hL hok => HS.out.fail (e := fun l v => vint (zz (wrap64 (v.n - lastF 0 l)))) HSN.out hlt (fun y hy hs => hno ⟨false, wrap64 (y.n - lastF 0 l), ⟨#[]⟩⟩ ⟨rfl, (wrap64_range _).1, (wrap64_range _).2, fun _ => rfl, fun h => by omega, fun h => by omega⟩ hs) L hL hok
        have HK1 : Hid (Kp r w w1) := HK.out.trans hK1
        clear hno hK1 HK HO
        go_wp2
        exact ⟨rfl, HK1.out, .inr ⟨q, rfl, HNO.out⟩⟩
    · obtain ⟨d1, d3⟩ := HS.out.done hlt
      have HU : Hid (∀ L : List Val, L.length = cn → (∀ x ∈ L, VK 1 x) → Starts (bytesOf s) p (deltaF 0 L) → L = l) := d3
      have HST : Hid (Starts (bytesOf s) p (deltaF 0 l)) := HS.out.st
      have HD : Hid (l.length = cn) := d1
      clear d3 d1
      go_wp2
      go_ret
      exact ⟨HK.out, .inl ⟨l, _, rfl, HD.out, HS.out.oks, HST.out, HU.out, hpl, HRR.out, HO.out⟩⟩

def bitV (z : Int) : Val := ⟨false, z, ⟨#[]⟩⟩

set_option maxRecDepth 100000 in
set_option maxHeartbeats 4000000 in
theorem valuesOf_any (lv : Value) (zs : List Int) (w : World) (hz : zs.length ≤ 100) (hvs : ISl w lv zs) :
    Calls Try.prog 116 #[lv] w fun e w' => Below w.heap.size w w' ∧ ∃ v, e = .returned v ∧ w'.ownsRow w.heap.size 39 3 v zs.length (vcells (zs.map bitV)) := by
  obtain ⟨j0, hj, hy0, hy1, hy2⟩ := info_parts Try.info39
  obtain ⟨ao, b, off, cap, rfl, h1, h2, h3⟩ := hvs
  have H3 : Hid (∀ j, j < zs.length → w.cell? ⟨b, off + j, none⟩ = some (.int .i64 (zs.getD j 0))) := h3
  clear h3
  go_enter Try.func116, Try.ntmps116
  go_wp2_with (at_make; refine wpList_make_own _ rfl _ _ 30 rfl w.heap.size 39 j0 _ 3 Try.underlying30 hj hy0 hy1 .i64 .i64 _ zs.length rfl rfl rfl (by rw [hy2]; omega) (by unfold maxLen; omega) (Nat.le_refl _) ?_; intro w0 hown0 hgrow0)
  have HB0 : Hid (Below w.heap.size w w0) := (Below.refl _ _).grown hgrow0 (Nat.le_refl _) (by simp)
  clear hgrow0
  go_loopw [3, 11] (fun lv i wr => ∃ k : Nat, k ≤ zs.length ∧ i = .int .i64 (k : Int) ∧ lv = .slice (some ⟨w.heap.size, 0, none⟩) k zs.length ∧ wr.ownsRow w.heap.size 39 3 (.slice (some ⟨w.heap.size, 0, none⟩) k zs.length) k (vcells ((zs.take k).map bitV)) ∧ Below w.heap.size w wr) (fun _ i _ => zs.length - (intOf i).toNat)
  case atStart => exact ⟨0, Nat.zero_le _, rfl, rfl, by simpa [vcells] using hown0, HB0.out⟩
  case round =>
    clear hown0 HB0
    obtain ⟨k, hk, rfl, rfl, hown, hB⟩ := hrel
    have HB : Hid (Below w.heap.size w wr) := hB
    have hsz := hB.size
    clear hB
    by_cases hlt : k < zs.length
    · obtain rfl := h1 (by omega)
      have hbl := h2 (by omega)
      have hck : wr.cell? ⟨b, off + k, none⟩ = some (.int .i64 (zs.getD k 0)) := (HB.out.cell (p := ⟨b, off + k, none⟩) hbl).trans (H3.out k hlt)
      have HV : Hid (vcells ((zs.take k).map bitV) ++ [.bool false, .int .i64 (zs.getD k 0), .string ⟨#[]⟩] = vcells ((zs.take (k + 1)).map bitV)) := by
        show _ = _
        rw [List.take_succ_eq_append_getElem hlt, List.map_append, List.map_singleton, ← vcells_snoc, getD_get hlt]
        rfl
      generalize zs.getD k 0 = z at *
      go_wp2_with (at_builtin; refine wpList_append_fits _ rfl _ _ 30 rfl w.heap.size 39 j0 3 Try.underlying30 hj hy1 w.heap.size k zs.length _ rfl (hown.alloc _) ⟨wr.heap.size, 0, none⟩ 1 1 [.bool false, .int .i64 z, .string ⟨#[]⟩] rfl rfl (by exact three_at _ _ _ _ _) (three_one ⟨false, z, ⟨#[]⟩⟩) (by omega) ?_; intro w2 hown2 hgrow2)
      have HB2 : Hid (Below w.heap.size w w2) := (HB.out.alloc hsz _).grown hgrow2 (by simp; omega) (by intro g hg; simp at hg; omega)
      rw [HV.out] at hown2
      clear hown hgrow2 HB hck
      go_wp2
      go_roundw
      case rel => exact ⟨k + 1, by omega, by go_num, rfl, hown2, HB2.out⟩
      case measure => simp [intOf]; omega
    · obtain rfl : k = zs.length := by omega
      rw [List.take_length] at hown
      go_wp2
      go_ret
      exact ⟨HB.out, _, rfl, hown⟩

theorem ones_le (zs : List Int) : ones zs ≤ zs.length := List.length_filter_le _ _
theorem ones_succ (zs : List Int) (hb : Bits zs) (k : Nat) (hk : k < zs.length) : ((ones (zs.take (k + 1)) : Nat) : Int) = (ones (zs.take k) : Nat) + zs.getD k 0 := by
  rw [List.take_succ_eq_append_getElem hk, getD_get hk]
  unfold ones
  rw [List.filter_append, List.length_append]
  rcases hb _ (List.getElem_mem hk) with h | h <;> simp [h]

set_option maxRecDepth 100000 in
set_option maxHeartbeats 4000000 in
theorem countOnes_any (lv : Value) (zs : List Int) (w : World) (hz : zs.length ≤ 100) (hb : Bits zs) (hvs : ISl w lv zs) :
    Calls Try.prog 81 #[lv] w fun e w' => e = .returned (.int .i64 ((ones zs : Nat) : Int)) ∧ w' = w := by
  obtain ⟨ao, b, off, cap, rfl, h1, h2, h3⟩ := hvs
  have H3 : Hid (∀ j, j < zs.length → w.cell? ⟨b, off + j, none⟩ = some (.int .i64 (zs.getD j 0))) := h3
  have HO : Hid (∀ k, k < zs.length → ((ones (zs.take (k + 1)) : Nat) : Int) = (ones (zs.take k) : Nat) + zs.getD k 0) := fun k hk => ones_succ zs hb k hk
  have HL : Hid (∀ k, ones (zs.take k) ≤ k) := fun k => by have := ones_le (zs.take k); rw [List.length_take] at this; omega
  clear h3 hb
  go_enter Try.func81, Try.ntmps81
  go_wp2_with fail
  go_loopw [3, 8] (fun c i wr => ∃ k : Nat, k ≤ zs.length ∧ i = .int .i64 (k : Int) ∧ c = .int .i64 ((ones (zs.take k) : Nat) : Int) ∧ wr = w) (fun _ i _ => zs.length - (intOf i).toNat)
  case atStart => exact ⟨0, Nat.zero_le _, rfl, by simp [ones], rfl⟩
  case round =>
    obtain ⟨k, hk, rfl, rfl, rfl⟩ := hrel
    by_cases hlt : k < zs.length
    · obtain rfl := h1 (by omega)
      have hck := H3.out k hlt
      have hok := HO.out k hlt
      have hl0 := HL.out k
      have hl1 := HL.out (k + 1)
      generalize zs.getD k 0 = z at *
      generalize ones (zs.take k) = o at *
      generalize hq : ones (zs.take (k + 1)) = q at *
      have HQ : Hid (ones (zs.take (k + 1)) = q) := hq
      clear hq
      go_wp2
      go_roundw
      case rel => exact ⟨k + 1, by omega, by go_num, by rw [HQ.out, hok], by trivial⟩
      case measure => simp [intOf]; omega
    · obtain rfl : k = zs.length := by omega
      rw [List.take_length]
      go_wp2
      go_ret
      exact ⟨rfl, rfl⟩
end Go.Proofs.Ytjidbonhhpkljaa.Ec
