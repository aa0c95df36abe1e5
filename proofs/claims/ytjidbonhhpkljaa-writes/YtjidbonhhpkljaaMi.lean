/- What the proof stands on: WrWrite, WrLessR, WrPart. -/
import Derived.Test.YtjidbonhhpkljaaMh
import Derived.Deep.RegionHeld3
import Derived.Deep.CutRange

/- Write: the program's side. -/
set_option linter.unusedVariables false
namespace Go.Proofs.Ytjidbonhhpkljaa.Ec
open Go.RowKit Go.Proofs.Ytjidbonhhpkljaa.Pk Go.Proofs.Ytjidbonhhpkljaa.Pm

theorem opts_tbl {cs : List Col} {rows : List (List Val)} {es : List Int} {bd : Int} (h : TableOk cs rows) (ho : OptsOk bd es cs) (hv : ∀ r ∈ rows, ∀ x ∈ r, VIn x) : Tbl cs rows es bd.toNat ∧ bd = (bd.toNat : Int) := by
  obtain ⟨h1, h2, h3⟩ := ho
  exact ⟨⟨h, h3, by omega, by omega, hv⟩, by omega⟩

set_option maxRecDepth 100000 in
set_option maxHeartbeats 4000000 in
theorem sWrite_any (cs : List Col) (rows : List (List Val)) (bd : Int) (es : List Int) (bo : Bool) (cv rv ev : Value) (w : World) (hm : cs.length ≤ maxLen) (hm2 : rows.length ≤ maxLen) (hm3 : ∀ r ∈ rows, r.length ≤ maxLen) (hm4 : es.length ≤ maxLen) (hv : ∀ r ∈ rows, ∀ x ∈ r, VIn x)
    (hcs : CSl w cv cs) (hrs : RSl w rv rows) (hes : ISl w ev es) :
    Calls Try.prog 27 #[.agg #[cv, rv], .agg #[.int .i64 bd, ev, .bool bo]] w fun e w' => ∃ s n, e = .returned (.tuple #[.string s, .int .i64 n]) ∧ WRes cs rows bd es bo s n ∧ Below w.heap.size w w' := by
  have hcs0 := hcs
  have hrs0 := hrs
  have hes0 := hes
  obtain ⟨co, cb, coff, ccap, rfl, hccap, -⟩ := hcs0
  obtain ⟨ro, rb, roff, rcap, rfl, hrcap, -⟩ := hrs0
  obtain ⟨eo, eb, eoff, ecap, rfl, -, -, -⟩ := hes0
  have HCS : Hid (CSl w (.slice co cs.length ccap) cs) := hcs
  have HRS : Hid (RSl w (.slice ro rows.length rcap) rows) := hrs
  have HES : Hid (ISl w (.slice eo es.length ecap) es) := hes
  have HV : Hid (∀ r ∈ rows, ∀ x ∈ r, VIn x) := hv
  have HIT : Hid (∀ W, Below w.heap.size w W → Calls Try.prog 58 #[.agg #[.slice co cs.length ccap, .slice ro rows.length rcap]] W fun e w' => ∃ bb, e = .returned (.bool bb) ∧ (bb = true ↔ TableOk cs rows) ∧ Below W.heap.size W w') := fun W h =>
    isTable_any cs rows _ _ W hm hm2 hm3 (hcs.below h) (hrs.below h)
  have HAO : Hid (∀ W, Below w.heap.size w W → Calls Try.prog 59 #[.agg #[.int .i64 bd, .slice eo es.length ecap, .bool bo], .slice co cs.length ccap] W fun e w' => ∃ bb, e = .returned (.bool bb) ∧ (bb = true ↔ OptsOk bd es cs) ∧ Below W.heap.size W w') := fun W h =>
    areOptions_any bd es bo cs _ _ W hm hm4 (hcs.below h) (hes.lower h)
  clear hcs hrs hes hm hm2 hm3 hm4 hv
  go_enter Try.func27, Try.ntmps27
  go_upto_region 1 with fail
  have hb0 : Below w.heap.size w ((w.alloc (.cells #[.slice co cs.length ccap, .slice ro rows.length rcap] 52)).alloc (.cells #[.int .i64 bd, .slice eo es.length ecap, .bool bo] 54)) := below_box2 _ _
  have hx0 : ((w.alloc (.cells #[.slice co cs.length ccap, .slice ro rows.length rcap] 52)).alloc (.cells #[.int .i64 bd, .slice eo es.length ecap, .bool bo] 54)).heap[w.heap.size]? = some (.cells #[.slice co cs.length ccap, .slice ro rows.length rcap] 52 (0, 0)) := alloc_old _ (by simp) (alloc_at w _)
  have hx1 : ((w.alloc (.cells #[.slice co cs.length ccap, .slice ro rows.length rcap] 52)).alloc (.cells #[.int .i64 bd, .slice eo es.length ecap, .bool bo] 54)).heap[w.heap.size + 1]? = some (.cells #[.int .i64 bd, .slice eo es.length ecap, .bool bo] 54 (0, 0)) := alloc_at2 w _ _
  generalize (w.alloc (.cells #[.slice co cs.length ccap, .slice ro rows.length rcap] 52)).alloc (.cells #[.int .i64 bd, .slice eo es.length ecap, .bool bo] 54) = W0 at *
  have HB0 : Hid (Below w.heap.size w W0) := hb0
  have HX0 : Hid (∀ W, Below W0.heap.size W0 W → (W.cell? ⟨w.heap.size, 0, none⟩ = some (.slice co cs.length ccap) ∧ W.cell? ⟨w.heap.size, 1, none⟩ = some (.slice ro rows.length rcap)) ∧ W.cell? ⟨w.heap.size + 1, 0, none⟩ = some (.int .i64 bd) ∧ W.cell? ⟨w.heap.size + 1, 1, none⟩ = some (.slice eo es.length ecap) ∧ W.cell? ⟨w.heap.size + 1, 2, none⟩ = some (.bool bo)) := fun W h =>
    ⟨two_of ((h.block _ (lt_of_block hx0)).trans hx0), val_cells ((h.block _ (lt_of_block hx1)).trans hx1)⟩
  clear hb0 hx0 hx1
  obtain ⟨⟨t0, t1⟩, o0, o1, o2⟩ := HX0.out W0 (Below.refl _ _)
  by_cases hT : TableOk cs rows
  · have H1 : Hid (Calls Try.prog 58 #[.agg #[.slice co cs.length ccap, .slice ro rows.length rcap]] W0 fun e w' => e = .returned (.bool true) ∧ Below W0.heap.size W0 w') := det_true (HIT.out _ HB0.out) hT
    have HT : Hid (TableOk cs rows) := hT
    clear HIT hT
    go_upto_region 3 with (go_at_call 58; refine H1.out.mono ?_; rintro e w1 ⟨rfl, hb1⟩)
    have HB1 : Hid (Below w.heap.size w w1) := HB0.out.trans (hb1.mono HB0.out.size)
    have HW1 : Hid (Below W0.heap.size W0 w1) := hb1
    clear t0 t1 o0 o1 o2 hb1 H1
    obtain ⟨⟨t0, t1⟩, o0, o1, o2⟩ := HX0.out w1 HW1.out
    by_cases hO : OptsOk bd es cs
    · have H2 : Hid (Calls Try.prog 59 #[.agg #[.int .i64 bd, .slice eo es.length ecap, .bool bo], .slice co cs.length ccap] w1 fun e w' => e = .returned (.bool true) ∧ Below w1.heap.size w1 w') := det_true (HAO.out _ HB1.out) hO
      obtain ⟨htb, hbd⟩ := opts_tbl HT.out hO HV.out
      have HTB : Hid (Tbl cs rows es bd.toNat) := htb
      have HBD : Hid (bd = (bd.toNat : Int)) := hbd
      have HOO : Hid (OptsOk bd es cs) := hO
      clear HAO hO htb hbd
      go_upto_region 5 with (go_at_call 59; refine H2.out.mono ?_; rintro e w2 ⟨rfl, hb2⟩)
      have HB2 : Hid (Below w.heap.size w w2) := HB1.out.trans (hb2.mono HB1.out.size)
      have HW2 : Hid (Below W0.heap.size W0 w2) := HW1.out.trans (hb2.mono HW1.out.size)
      clear t0 t1 o0 o1 o2 hb2 H2 HW1 HB1
      obtain ⟨⟨t0, t1⟩, o0, o1, o2⟩ := HX0.out w2 HW2.out
      have HFO : Hid (Calls Try.prog 61 #[.agg #[.slice co cs.length ccap, .slice ro rows.length rcap], .agg #[.int .i64 bd, .slice eo es.length ecap, .bool bo]] w2 fun e w' => ∃ bv L, e = .returned (.agg #[.slice co cs.length ccap, .slice eo es.length ecap, bv]) ∧ L.map Prod.fst = bandsP rows cs es bo bd.toNat (bandN rows.length bd.toNat) ∧ Bands w' w2.heap.size bv L ∧ Below w2.heap.size w2 w') := by
        have h := fileOf_any rows cs es bd.toNat bo (.slice ro rows.length rcap) (.slice co cs.length ccap) (.slice eo es.length ecap) w2 HTB.out.lo HTB.out.hi HTB.out.table.2.1 HTB.out.len HTB.out.vals HTB.out.table.1.2.1 HTB.out.elen (HRS.out.below HB2.out) (HCS.out.below HB2.out) (HES.out.lower HB2.out)
        rw [← HBD.out] at h
        exact h
      have HJN : Hid (∀ W bv L, Below w.heap.size w W → L.map Prod.fst = bandsP rows cs es bo bd.toNat (bandN rows.length bd.toNat) → (∃ base, Bands W base bv L) → Calls Try.prog 60 #[.agg #[.slice co cs.length ccap, .slice eo es.length ecap, bv]] W fun e w' => e = .returned (.string (strOf (wfile cs rows es bo bd.toNat))) ∧ Below W.heap.size W w') := fun W bv L hW hL hb => by
        obtain ⟨base, hb⟩ := hb
        exact join_any cs es (bandsP rows cs es bo bd.toNat (bandN rows.length bd.toNat)) _ _ bv W HTB.out.table.1.2.1 HTB.out.elen (names_of_ok HTB.out.table.1) (kinds_of_ok HTB.out.table.1) (by rw [bandsP_length]; exact HTB.out.nb) (HTB.out.bands bo _) (HTB.out.pos bo) (HTB.out.body bo) (HCS.out.below hW) (HES.out.lower hW) ⟨base, L, hL, hb⟩
      have HSZ : Hid ((strOf (wfile cs rows es bo bd.toNat)).size = (wfile cs rows es bo bd.toNat).length) := strOf_size _
      by_cases hlong : 65536 < (wfile cs rows es bo bd.toNat).length
      · have HR : Hid (WRes cs rows bd es bo ⟨#[]⟩ 6) := .inr (.inr (.inl ⟨HT.out, HOO.out, hlong, rfl, rfl⟩))
        have d1 : decide (65536 < ((strOf (wfile cs rows es bo bd.toNat)).size : Int)) = true := by rw [HSZ.out]; simp; omega
        clear hlong HSZ
        generalize strOf (wfile cs rows es bo bd.toNat) = fs at *
        go_wp2_with (first | (go_at_call 61; refine HFO.out.mono ?_; rintro e w3 ⟨bv, L, rfl, hL, hbs, hb3⟩) | (go_at_call 60; refine (HJN.out _ bv L ?_ hL ⟨_, hbs⟩).mono ?_; (exact HB2.out.trans (hb3.mono HB2.out.size)); rintro e w4 ⟨rfl, hb4⟩))
        go_ret2
        exact ⟨_, _, rfl, HR.out, (HB2.out.trans (hb3.mono HB2.out.size)).trans (hb4.mono (HB2.out.trans (hb3.mono HB2.out.size)).size)⟩
      · have HR : Hid (WRes cs rows bd es bo (strOf (wfile cs rows es bo bd.toNat)) 0) := .inr (.inr (.inr ⟨HT.out, HOO.out, hlong, rfl, rfl⟩))
        have d1 : decide (65536 < ((strOf (wfile cs rows es bo bd.toNat)).size : Int)) = false := by rw [HSZ.out]; simp; omega
        clear hlong HSZ
        generalize strOf (wfile cs rows es bo bd.toNat) = fs at *
        go_wp2_with (first | (go_at_call 61; refine HFO.out.mono ?_; rintro e w3 ⟨bv, L, rfl, hL, hbs, hb3⟩) | (go_at_call 60; refine (HJN.out _ bv L ?_ hL ⟨_, hbs⟩).mono ?_; (exact HB2.out.trans (hb3.mono HB2.out.size)); rintro e w4 ⟨rfl, hb4⟩))
        go_ret2
        exact ⟨_, _, rfl, HR.out, (HB2.out.trans (hb3.mono HB2.out.size)).trans (hb4.mono (HB2.out.trans (hb3.mono HB2.out.size)).size)⟩
    · have H2 : Hid (Calls Try.prog 59 #[.agg #[.int .i64 bd, .slice eo es.length ecap, .bool bo], .slice co cs.length ccap] w1 fun e w' => e = .returned (.bool false) ∧ Below w1.heap.size w1 w') := det_false (HAO.out _ HB1.out) hO
      have HR : Hid (WRes cs rows bd es bo ⟨#[]⟩ 2) := .inr (.inl ⟨HT.out, hO, rfl, rfl⟩)
      clear HAO hO
      go_wp2_with (go_at_call 59; refine H2.out.mono ?_; rintro e w2 ⟨rfl, hb2⟩)
      go_ret2
      exact ⟨_, _, rfl, HR.out, HB1.out.trans (hb2.mono HB1.out.size)⟩
  · have H1 : Hid (Calls Try.prog 58 #[.agg #[.slice co cs.length ccap, .slice ro rows.length rcap]] W0 fun e w' => e = .returned (.bool false) ∧ Below W0.heap.size W0 w') := det_false (HIT.out _ HB0.out) hT
    have HR : Hid (WRes cs rows bd es bo ⟨#[]⟩ 1) := .inl ⟨hT, rfl, rfl⟩
    clear HIT hT
    go_wp2_with (go_at_call 58; refine H1.out.mono ?_; rintro e w1 ⟨rfl, hb1⟩)
    go_ret2
    exact ⟨_, _, rfl, HR.out, HB0.out.trans (hb1.mono HB0.out.size)⟩
end Go.Proofs.Ytjidbonhhpkljaa.Ec

/- Which of two values is less: the document's side. -/
set_option linter.unusedVariables false
namespace Go.Proofs.Ytjidbonhhpkljaa.Ec
open Go.RowKit Go.Proofs.Ytjidbonhhpkljaa.Pk

theorem cmpB_step {A B : List UInt8} {k : Nat} (h1 : k < A.length) (h2 : k < B.length) : Lib.compareBytes (A.drop k) (B.drop k) = if A[k] < B[k] then -1 else if B[k] < A[k] then 1 else Lib.compareBytes (A.drop (k + 1)) (B.drop (k + 1)) := by
  rw [List.drop_eq_getElem_cons h1, List.drop_eq_getElem_cons h2]
  rfl
theorem cmpB_end {A B : List UInt8} {k : Nat} (hk1 : k ≤ A.length) (hk2 : k ≤ B.length) (h : ¬ (k < A.length ∧ k < B.length)) : (Lib.compareBytes (A.drop k) (B.drop k) < 0) ↔ A.length < B.length := by
  by_cases h1 : k < A.length
  · have h2 : B.length ≤ k := by omega
    rw [List.drop_eq_nil_of_le h2, List.drop_eq_getElem_cons h1]
    simp only [Lib.compareBytes]
    omega
  · rw [List.drop_eq_nil_of_le (by omega : A.length ≤ k)]
    by_cases h2 : k < B.length
    · rw [List.drop_eq_getElem_cons h2]
      simp only [Lib.compareBytes]
      omega
    · rw [List.drop_eq_nil_of_le (by omega : B.length ≤ k)]
      simp only [Lib.compareBytes]
      omega
theorem data_len (s : ByteArray) : s.data.toList.length = s.size := by rw [Array.length_toList]; rfl
theorem data_get (s : ByteArray) (k : Nat) (h : k < s.size) (h' : k < s.data.toList.length) : s.data.toList[k] = s[k] := by rw [Array.getElem_toList]; rfl

set_option maxRecDepth 100000 in
set_option maxHeartbeats 4000000 in
theorem less_any (x y : Val) (w : World) (hx : x.s.size ≤ maxLen) (hy : y.s.size ≤ maxLen) :
    Calls Try.prog 86 #[.agg #[.bool x.null, .int .i64 x.n, .string x.s], .agg #[.bool y.null, .int .i64 y.n, .string y.s]] w fun e w' => e = .returned (.bool (decide (vcmp x y < 0))) ∧ Below w.heap.size w w' := by
  unfold maxLen at hx hy
  have hb0 : Below w.heap.size w ((w.alloc (.cells #[.bool x.null, .int .i64 x.n, .string x.s] 39)).alloc (.cells #[.bool y.null, .int .i64 y.n, .string y.s] 39)) := below_box2 _ _
  by_cases hn : x.n = y.n
  · have hd : (x.n != y.n) = false := by simp [hn]
    have HV : Hid (vcmp x y = Lib.compareBytes (x.s.data.toList.drop 0) (y.s.data.toList.drop 0)) := by
      show vcmp x y = _
      unfold vcmp
      rw [if_neg (by omega), if_neg (by omega), List.drop_zero, List.drop_zero]
    clear hn
    go_enter Try.func86, Try.ntmps86
    go_upto_region 1 with fail
    have hS := box_four w x y
    generalize (w.alloc (.cells #[.bool x.null, .int .i64 x.n, .string x.s] 39)).alloc (.cells #[.bool y.null, .int .i64 y.n, .string y.s] 39) = W0 at *
    obtain ⟨s1, s2, s3, s4⟩ := hS
    have HB0 : Hid (Below w.heap.size w W0) := hb0
    clear hb0
    generalize w.heap.size + 1 = g2 at *
    generalize hg1 : w.heap.size = g1 at *
    have HG : Hid (w.heap.size = g1) := hg1
    clear hg1
    go_wp2_with fail
    go_loopw [5] (fun i wr => ∃ k : Nat, k ≤ x.s.size ∧ k ≤ y.s.size ∧ i = .int .i64 (k : Int) ∧ vcmp x y = Lib.compareBytes (x.s.data.toList.drop k) (y.s.data.toList.drop k) ∧ ∃ n, wr = W0.drewN n) (fun i _ => x.s.size - (intOf i).toNat)
    case atStart => exact ⟨0, Nat.zero_le _, Nat.zero_le _, rfl, HV.out, 0, rfl⟩
    case round =>
      rename World => wr
      obtain ⟨k, hk1, hk2, rfl, hv, n, hwr⟩ := hrel
      have HV1 : Hid (vcmp x y = Lib.compareBytes (x.s.data.toList.drop k) (y.s.data.toList.drop k)) := hv
      have HW : Hid (wr = W0.drewN n) := hwr
      have t2 : wr.cell? ⟨g1, 2, none⟩ = some (.string x.s) := by rw [hwr]; exact s2
      have t4 : wr.cell? ⟨g2, 2, none⟩ = some (.string y.s) := by rw [hwr]; exact s4
      have HB : Hid (Below w.heap.size w wr) := by
        show Below w.heap.size w wr
        rw [HG.out, hwr]
        exact below_drewN HB0.out n
      clear hv hwr HV
      by_cases hlt : k < x.s.size ∧ k < y.s.size
      · obtain ⟨l1, l2⟩ := hlt
        have hl1 : (k : Int) < (x.s.size : Int) := by omega
        have hl2 : (k : Int) < (y.s.size : Int) := by omega
        have hd1 : decide ((k : Int) < (x.s.size : Int)) = true := by simp; omega
        have hd2 : decide ((k : Int) < (y.s.size : Int)) = true := by simp; omega
        have HST : Hid (vcmp x y = if x.s[k] < y.s[k] then -1 else if y.s[k] < x.s[k] then 1 else Lib.compareBytes (x.s.data.toList.drop (k + 1)) (y.s.data.toList.drop (k + 1))) := by
          show vcmp x y = _
          rw [HV1.out, cmpB_step (by rw [data_len]; exact l1) (by rw [data_len]; exact l2), data_get x.s k l1, data_get y.s k l2]
        clear HV1
        by_cases hab : x.s[k] = y.s[k]
        · have he : (((x.s[k].toNat : Nat) : Int) != ((y.s[k].toNat : Nat) : Int)) = false := by rw [hab]; simp
          have HV2 : Hid (vcmp x y = Lib.compareBytes (x.s.data.toList.drop (k + 1)) (y.s.data.toList.drop (k + 1))) := by
            show vcmp x y = _
            rw [HST.out, hab, if_neg (by rw [UInt8.lt_iff_toNat_lt]; omega), if_neg (by rw [UInt8.lt_iff_toNat_lt]; omega)]
          clear HST hab
          go_wp2_with fail
          go_quiet (fail)
          go_wp2
          go_roundw
          case rel => exact ⟨k + 1, by omega, by omega, by go_num, HV2.out, n + nq, by rw [HW.out]; exact World.drewN_drewN _ _ _⟩
          case measure => simp [intOf]; omega
        · have hab2 : x.s[k].toNat ≠ y.s[k].toNat := fun h => hab (UInt8.toNat_inj.1 h)
          have he : (((x.s[k].toNat : Nat) : Int) != ((y.s[k].toNat : Nat) : Int)) = true := by simp; omega
          have HV2 : Hid (vcmp x y < 0 ↔ ((x.s[k].toNat : Nat) : Int) < ((y.s[k].toNat : Nat) : Int)) := by
            show _ ↔ _
            rw [HST.out]
            by_cases h1 : x.s[k] < y.s[k]
            · rw [if_pos h1]
              rw [UInt8.lt_iff_toNat_lt] at h1
              constructor <;> intro _ <;> omega
            · rw [if_neg h1]
              rw [UInt8.lt_iff_toNat_lt] at h1
              rw [if_pos (by rw [UInt8.lt_iff_toNat_lt]; omega)]
              constructor <;> intro _ <;> omega
          clear HST hab
          go_wp2_with fail
          go_quiet (fail)
          go_wp2_with fail
          go_quiet (fail)
          go_wp2
          go_ret
          refine ⟨ret_bool ?_, below_drewN (below_drewN HB.out _) _⟩
          rw [Bool.eq_iff_iff]
          simp only [decide_eq_true_eq]
          rw [HV2.out]
          omega
      · have HV2 : Hid (vcmp x y < 0 ↔ (x.s.size : Int) < (y.s.size : Int)) := by
          show _ ↔ _
          rw [HV1.out, cmpB_end (by rw [data_len]; exact hk1) (by rw [data_len]; exact hk2) (by rw [data_len, data_len]; exact hlt), data_len, data_len]
          omega
        clear HV1
        by_cases l1 : k < x.s.size
        · have hd1 : decide (k < x.s.size) = true := by simp; omega
          have hd2 : decide (k < y.s.size) = false := by simp; omega
          clear hlt l1
          go_wp2
          go_ret
          refine ⟨ret_bool ?_, HB.out⟩
          rw [Bool.eq_iff_iff]
          simp only [decide_eq_true_eq]
          rw [HV2.out]
          omega
        · have hd1 : decide (k < x.s.size) = false := by simp; omega
          clear hlt l1
          go_wp2
          go_ret
          refine ⟨ret_bool ?_, HB.out⟩
          rw [Bool.eq_iff_iff]
          simp only [decide_eq_true_eq]
          rw [HV2.out]
          omega
  · have hd : (x.n != y.n) = true := by simp [hn]
    have HV : Hid (vcmp x y < 0 ↔ x.n < y.n) := by
      show _ ↔ _
      unfold vcmp
      by_cases h1 : x.n < y.n
      · rw [if_pos h1]; constructor <;> intro _ <;> omega
      · rw [if_neg h1, if_pos (by omega)]; constructor <;> intro _ <;> omega
    have HB0 : Hid _ := hb0
    clear hn hb0
    go_enter Try.func86, Try.ntmps86
    go_wp2
    go_ret
    refine ⟨ret_bool ?_, HB0.out⟩
    rw [Bool.eq_iff_iff]
    simp only [decide_eq_true_eq]
    exact HV.out.symm
end Go.Proofs.Ytjidbonhhpkljaa.Ec

/- A column's values as a chunk with its bounds: the document's side. -/
set_option linter.unusedVariables false
namespace Go.Proofs.Ytjidbonhhpkljaa.Ec
open Go.RowKit Go.Proofs.Ytjidbonhhpkljaa.Pk Go.Proofs.Ytjidbonhhpkljaa.Pm

/-- The cells of the document's part. -/
def pcell (c : Chk) : Array Value := #[.int .i64 (c.text.size : Int), .bool c.bnd.there, .bool c.bnd.least.null, .int .i64 c.bnd.least.n, .string c.bnd.least.s, .bool c.bnd.most.null, .int .i64 c.bnd.most.n, .string c.bnd.most.s, .string c.text]
/-- A part in one piece. -/
def pval (c : Chk) : Value := .agg (pcell c)
/-- No part. -/
def noPart : Array Value := #[.int .i64 0, .bool false, .bool false, .int .i64 0, .string ⟨#[]⟩, .bool false, .int .i64 0, .string ⟨#[]⟩, .string ⟨#[]⟩]

/-- Where part stands. -/
structure PSt (w W : World) (g : Nat) (c : Chk) : Prop where
  box : W.heap[g]? = some (.cells (pcell c) 101 (0, 0))
  res : W.heap[w.heap.size]? = some (.cells noPart 101 (0, 0))
  far : w.heap.size < g
  bel : Below w.heap.size w W
theorem PSt.below {w W W1 : World} {g : Nat} {c : Chk} (h : PSt w W g c) (hb : Below W.heap.size W W1) : PSt w W1 g c :=
  ⟨(hb.block _ (lt_of_block h.box)).trans h.box, (hb.block _ (lt_of_block h.res)).trans h.res, h.far, h.bel.trans (hb.mono h.bel.size)⟩
theorem PSt.put {w W : World} {g : Nat} {c c' : Chk} (h : PSt w W g c) {W' : World} (hb : W'.heap[g]? = some (.cells (pcell c') 101 (0, 0))) (hr : W'.heap[w.heap.size]? = W.heap[w.heap.size]?) (hB : Below w.heap.size w W') : PSt w W' g c' :=
  ⟨hb, hr.trans h.res, h.far, hB⟩
theorem PSt.set {w W : World} {g : Nat} {s : ByteArray} {b : Bnd} (h : PSt w W g ⟨s, b⟩) : PSt w (W.setCell ⟨g, 1, none⟩ (.bool true)) g ⟨s, ⟨true, b.least, b.most⟩⟩ := by
  have hf := h.far
  refine h.put (heap_setCell_same W g 1 _ _ (.bool true) h.box) (heap_setCell_other _ _ _ _ (by simp; omega)) (below_set h.bel h.bel.size (by omega) _ _)
theorem PSt.least {w W : World} {g : Nat} {s : ByteArray} {b : Bnd} (h : PSt w W g ⟨s, b⟩) (x : Val) :
    PSt w (((W.setCell ⟨g, 2, none⟩ (.bool x.null)).setCell ⟨g, 3, none⟩ (.int .i64 x.n)).setCell ⟨g, 4, none⟩ (.string x.s)) g ⟨s, ⟨b.there, x, b.most⟩⟩ := by
  have hf := h.far
  have h1 := heap_setCell_same W g 2 _ _ (.bool x.null) h.box
  have h2 := heap_setCell_same _ g 3 _ _ (.int .i64 x.n) h1
  have h3 := heap_setCell_same _ g 4 _ _ (.string x.s) h2
  have hs := h.bel.size
  refine h.put h3 ?_ ?_
  · rw [heap_setCell_other _ _ _ _ (by simp; omega), heap_setCell_other _ _ _ _ (by simp; omega), heap_setCell_other _ _ _ _ (by simp; omega)]
  · exact below_set (below_set (below_set h.bel hs (by omega) _ _) (by simpa using hs) (by omega) _ _) (by simpa using hs) (by omega) _ _
theorem PSt.most {w W : World} {g : Nat} {s : ByteArray} {b : Bnd} (h : PSt w W g ⟨s, b⟩) (x : Val) :
    PSt w (((W.setCell ⟨g, 5, none⟩ (.bool x.null)).setCell ⟨g, 6, none⟩ (.int .i64 x.n)).setCell ⟨g, 7, none⟩ (.string x.s)) g ⟨s, ⟨b.there, b.least, x⟩⟩ := by
  have hf := h.far
  have h1 := heap_setCell_same W g 5 _ _ (.bool x.null) h.box
  have h2 := heap_setCell_same _ g 6 _ _ (.int .i64 x.n) h1
  have h3 := heap_setCell_same _ g 7 _ _ (.string x.s) h2
  have hs := h.bel.size
  refine h.put h3 ?_ ?_
  · rw [heap_setCell_other _ _ _ _ (by simp; omega), heap_setCell_other _ _ _ _ (by simp; omega), heap_setCell_other _ _ _ _ (by simp; omega)]
  · exact below_set (below_set (below_set h.bel hs (by omega) _ _) (by simpa using hs) (by omega) _ _) (by simpa using hs) (by omega) _ _

theorem part_cells {w : World} {g : Nat} {s : ByteArray} {b : Bnd} {t : TypeId} (h : w.heap[g]? = some (.cells (pcell ⟨s, b⟩) t (0, 0))) :
    (w.cell? ⟨g, 0, none⟩ = some (.int .i64 (s.size : Int)) ∧ w.cell? ⟨g, 1, none⟩ = some (.bool b.there) ∧ w.cell? ⟨g, 2, none⟩ = some (.bool b.least.null) ∧ w.cell? ⟨g, 3, none⟩ = some (.int .i64 b.least.n) ∧ w.cell? ⟨g, 4, none⟩ = some (.string b.least.s) ∧
      w.cell? ⟨g, 5, none⟩ = some (.bool b.most.null) ∧ w.cell? ⟨g, 6, none⟩ = some (.int .i64 b.most.n) ∧ w.cell? ⟨g, 7, none⟩ = some (.string b.most.s) ∧ w.cell? ⟨g, 8, none⟩ = some (.string s)) ∧
    (w.frozen? ⟨g, 0, none⟩ = false ∧ w.frozen? ⟨g, 1, none⟩ = false ∧ w.frozen? ⟨g, 2, none⟩ = false ∧ w.frozen? ⟨g, 3, none⟩ = false ∧ w.frozen? ⟨g, 4, none⟩ = false ∧ w.frozen? ⟨g, 5, none⟩ = false ∧ w.frozen? ⟨g, 6, none⟩ = false ∧ w.frozen? ⟨g, 7, none⟩ = false ∧ w.frozen? ⟨g, 8, none⟩ = false) := by
  unfold pcell at h
  refine ⟨⟨?_, ?_, ?_, ?_, ?_, ?_, ?_, ?_, ?_⟩, ?_, ?_, ?_, ?_, ?_, ?_, ?_, ?_, ?_⟩ <;> first | simp [World.cell?, h] | simp [World.frozen?, h]
theorem pcell_one (c : Chk) : (pcell c).all (·.oneCell') = true := by simp [pcell, Value.oneCell']
theorem noPart_eq : noPart = pcell ⟨⟨#[]⟩, noBnd⟩ := rfl
theorem part_set {w : World} {g : Nat} {c0 : Chk} (s : ByteArray) (b : Bnd) {t : TypeId} (h : w.heap[g]? = some (.cells (pcell c0) t (0, 0))) :
    (((((((((w.setCell ⟨g, 0, none⟩ (.int .i64 (s.size : Int))).setCell ⟨g, 1, none⟩ (.bool b.there)).setCell ⟨g, 2, none⟩ (.bool b.least.null)).setCell ⟨g, 3, none⟩ (.int .i64 b.least.n)).setCell ⟨g, 4, none⟩ (.string b.least.s)).setCell ⟨g, 5, none⟩ (.bool b.most.null)).setCell ⟨g, 6, none⟩ (.int .i64 b.most.n)).setCell ⟨g, 7, none⟩ (.string b.most.s)).setCell ⟨g, 8, none⟩ (.string s)).heap[g]? = some (.cells (pcell ⟨s, b⟩) t (0, 0)) := by
  have h1 : (w.setCell ⟨g, 0, none⟩ (.int .i64 (s.size : Int))).heap[g]? = some (.cells #[.int .i64 (s.size : Int), .bool c0.bnd.there, .bool c0.bnd.least.null, .int .i64 c0.bnd.least.n, .string c0.bnd.least.s, .bool c0.bnd.most.null, .int .i64 c0.bnd.most.n, .string c0.bnd.most.s, .string c0.text] t (0, 0)) := heap_setCell_same _ g 0 _ _ (.int .i64 (s.size : Int)) h
  have h2 : ((w.setCell ⟨g, 0, none⟩ (.int .i64 (s.size : Int))).setCell ⟨g, 1, none⟩ (.bool b.there)).heap[g]? = some (.cells #[.int .i64 (s.size : Int), .bool b.there, .bool c0.bnd.least.null, .int .i64 c0.bnd.least.n, .string c0.bnd.least.s, .bool c0.bnd.most.null, .int .i64 c0.bnd.most.n, .string c0.bnd.most.s, .string c0.text] t (0, 0)) := heap_setCell_same _ g 1 _ _ (.bool b.there) h1
  have h3 : (((w.setCell ⟨g, 0, none⟩ (.int .i64 (s.size : Int))).setCell ⟨g, 1, none⟩ (.bool b.there)).setCell ⟨g, 2, none⟩ (.bool b.least.null)).heap[g]? = some (.cells #[.int .i64 (s.size : Int), .bool b.there, .bool b.least.null, .int .i64 c0.bnd.least.n, .string c0.bnd.least.s, .bool c0.bnd.most.null, .int .i64 c0.bnd.most.n, .string c0.bnd.most.s, .string c0.text] t (0, 0)) := heap_setCell_same _ g 2 _ _ (.bool b.least.null) h2
  have h4 : ((((w.setCell ⟨g, 0, none⟩ (.int .i64 (s.size : Int))).setCell ⟨g, 1, none⟩ (.bool b.there)).setCell ⟨g, 2, none⟩ (.bool b.least.null)).setCell ⟨g, 3, none⟩ (.int .i64 b.least.n)).heap[g]? = some (.cells #[.int .i64 (s.size : Int), .bool b.there, .bool b.least.null, .int .i64 b.least.n, .string c0.bnd.least.s, .bool c0.bnd.most.null, .int .i64 c0.bnd.most.n, .string c0.bnd.most.s, .string c0.text] t (0, 0)) := heap_setCell_same _ g 3 _ _ (.int .i64 b.least.n) h3
  have h5 : (((((w.setCell ⟨g, 0, none⟩ (.int .i64 (s.size : Int))).setCell ⟨g, 1, none⟩ (.bool b.there)).setCell ⟨g, 2, none⟩ (.bool b.least.null)).setCell ⟨g, 3, none⟩ (.int .i64 b.least.n)).setCell ⟨g, 4, none⟩ (.string b.least.s)).heap[g]? = some (.cells #[.int .i64 (s.size : Int), .bool b.there, .bool b.least.null, .int .i64 b.least.n, .string b.least.s, .bool c0.bnd.most.null, .int .i64 c0.bnd.most.n, .string c0.bnd.most.s, .string c0.text] t (0, 0)) := heap_setCell_same _ g 4 _ _ (.string b.least.s) h4
  have h6 : ((((((w.setCell ⟨g, 0, none⟩ (.int .i64 (s.size : Int))).setCell ⟨g, 1, none⟩ (.bool b.there)).setCell ⟨g, 2, none⟩ (.bool b.least.null)).setCell ⟨g, 3, none⟩ (.int .i64 b.least.n)).setCell ⟨g, 4, none⟩ (.string b.least.s)).setCell ⟨g, 5, none⟩ (.bool b.most.null)).heap[g]? = some (.cells #[.int .i64 (s.size : Int), .bool b.there, .bool b.least.null, .int .i64 b.least.n, .string b.least.s, .bool b.most.null, .int .i64 c0.bnd.most.n, .string c0.bnd.most.s, .string c0.text] t (0, 0)) := heap_setCell_same _ g 5 _ _ (.bool b.most.null) h5
  have h7 : (((((((w.setCell ⟨g, 0, none⟩ (.int .i64 (s.size : Int))).setCell ⟨g, 1, none⟩ (.bool b.there)).setCell ⟨g, 2, none⟩ (.bool b.least.null)).setCell ⟨g, 3, none⟩ (.int .i64 b.least.n)).setCell ⟨g, 4, none⟩ (.string b.least.s)).setCell ⟨g, 5, none⟩ (.bool b.most.null)).setCell ⟨g, 6, none⟩ (.int .i64 b.most.n)).heap[g]? = some (.cells #[.int .i64 (s.size : Int), .bool b.there, .bool b.least.null, .int .i64 b.least.n, .string b.least.s, .bool b.most.null, .int .i64 b.most.n, .string c0.bnd.most.s, .string c0.text] t (0, 0)) := heap_setCell_same _ g 6 _ _ (.int .i64 b.most.n) h6
  have h8 : ((((((((w.setCell ⟨g, 0, none⟩ (.int .i64 (s.size : Int))).setCell ⟨g, 1, none⟩ (.bool b.there)).setCell ⟨g, 2, none⟩ (.bool b.least.null)).setCell ⟨g, 3, none⟩ (.int .i64 b.least.n)).setCell ⟨g, 4, none⟩ (.string b.least.s)).setCell ⟨g, 5, none⟩ (.bool b.most.null)).setCell ⟨g, 6, none⟩ (.int .i64 b.most.n)).setCell ⟨g, 7, none⟩ (.string b.most.s)).heap[g]? = some (.cells #[.int .i64 (s.size : Int), .bool b.there, .bool b.least.null, .int .i64 b.least.n, .string b.least.s, .bool b.most.null, .int .i64 b.most.n, .string b.most.s, .string c0.text] t (0, 0)) := heap_setCell_same _ g 7 _ _ (.string b.most.s) h7
  have h9 : (((((((((w.setCell ⟨g, 0, none⟩ (.int .i64 (s.size : Int))).setCell ⟨g, 1, none⟩ (.bool b.there)).setCell ⟨g, 2, none⟩ (.bool b.least.null)).setCell ⟨g, 3, none⟩ (.int .i64 b.least.n)).setCell ⟨g, 4, none⟩ (.string b.least.s)).setCell ⟨g, 5, none⟩ (.bool b.most.null)).setCell ⟨g, 6, none⟩ (.int .i64 b.most.n)).setCell ⟨g, 7, none⟩ (.string b.most.s)).setCell ⟨g, 8, none⟩ (.string s)).heap[g]? = some (.cells #[.int .i64 (s.size : Int), .bool b.there, .bool b.least.null, .int .i64 b.least.n, .string b.least.s, .bool b.most.null, .int .i64 b.most.n, .string b.most.s, .string s] t (0, 0)) := heap_setCell_same _ g 8 _ _ (.string s) h8
  exact h9
theorem part_set_below {w w0 : World} {g : Nat} (s : ByteArray) (b : Bnd) {n : Nat} (h0 : Below n w0 w) (hn : n ≤ w0.heap.size) (hg : n ≤ g) :
    Below n w0 (((((((((w.setCell ⟨g, 0, none⟩ (.int .i64 (s.size : Int))).setCell ⟨g, 1, none⟩ (.bool b.there)).setCell ⟨g, 2, none⟩ (.bool b.least.null)).setCell ⟨g, 3, none⟩ (.int .i64 b.least.n)).setCell ⟨g, 4, none⟩ (.string b.least.s)).setCell ⟨g, 5, none⟩ (.bool b.most.null)).setCell ⟨g, 6, none⟩ (.int .i64 b.most.n)).setCell ⟨g, 7, none⟩ (.string b.most.s)).setCell ⟨g, 8, none⟩ (.string s)) :=
  below_put (below_put (below_put (below_put (below_put (below_put (below_put (below_put (below_put h0 hn hg _ _) hn hg _ _) hn hg _ _) hn hg _ _) hn hg _ _) hn hg _ _) hn hg _ _) hn hg _ _) hn hg _ _

/-- A value's cells, wherever part has come. -/
theorem PSt.val {w W : World} {g : Nat} {c : Chk} (h : PSt w W g c) {b o : Nat} {x : Val} (hb : b < w.heap.size) (x0 : w.cell? ⟨b, o, none⟩ = some (.bool x.null)) (x1 : w.cell? ⟨b, o + 1, none⟩ = some (.int .i64 x.n)) (x2 : w.cell? ⟨b, o + 2, none⟩ = some (.string x.s)) :
    W.cell? ⟨b, o, none⟩ = some (.bool x.null) ∧ W.cell? ⟨b, o + 1, none⟩ = some (.int .i64 x.n) ∧ W.cell? ⟨b, o + 2, none⟩ = some (.string x.s) :=
  ⟨(h.bel.cell (p := ⟨b, o, none⟩) hb).trans x0, (h.bel.cell (p := ⟨b, o + 1, none⟩) hb).trans x1, (h.bel.cell (p := ⟨b, o + 2, none⟩) hb).trans x2⟩

theorem boundsP_size {n : Nat} (l : List Val) (h : ∀ x ∈ l, x.s.size ≤ n) : (boundsP l).least.s.size ≤ n ∧ (boundsP l).most.s.size ≤ n := by
  have : ∀ (l : List Val) (b : Bnd), b.least.s.size ≤ n → b.most.s.size ≤ n → (∀ x ∈ l, x.s.size ≤ n) → (l.foldl bstep b).least.s.size ≤ n ∧ (l.foldl bstep b).most.s.size ≤ n := by
    intro l
    induction l with
    | nil => intro b h1 h2 _; exact ⟨h1, h2⟩
    | cons x r ih =>
      intro b h1 h2 h
      rw [List.foldl_cons]
      have hx := h x (by simp)
      refine ih _ ?_ ?_ (fun y hy => h y (by simp [hy]))
      · unfold bstep; split <;> first | exact h1 | (dsimp only; split <;> assumption)
      · unfold bstep; split <;> first | exact h2 | (dsimp only; split <;> assumption)
  exact this l noBnd (by simp [noBnd, ByteArray.size]) (by simp [noBnd, ByteArray.size]) h

set_option maxRecDepth 100000 in
set_option maxHeartbeats 8000000 in
theorem part_any (lv : Value) (l : List Val) (k e : Int) (bo : Bool) (w : World) (hk : k = 1 ∨ k = 2 ∨ k = 3) (he : e = 0 ∨ e = 1 ∨ e = 2 ∨ e = 3) (hv : ∀ x ∈ l, VOk x) (hn : l.length ≤ 100) (hvs : VSl w lv l) :
    Calls Try.prog 56 #[lv, .int .i64 k, .int .i64 e, .bool bo] w fun r w' => r = .returned (pval ⟨strOf (columnB k e l), if bo then boundsP l else noBnd⟩) ∧ Below w.heap.size w w' := by
  have HVO : Hid (∀ x ∈ l, x.s.size ≤ 32) := fun x hx => (hv x hx).sz
  have HCH : Hid (∀ W, Below w.heap.size w W → Calls Try.prog 42 #[lv, .int .i64 k, .int .i64 e] W fun r w' => r = .returned (.string (strOf (columnB k e l))) ∧ Below W.heap.size W w') := fun W h =>
    chunk_any lv l k e W hk he hv hn (hvs.below h)
  obtain ⟨ao, b, off, cap, rfl, hr⟩ := hvs
  have HR : Hid (VRow w ao b off l) := hr
  clear hr hv hk he
  generalize strOf (columnB k e l) = tx at *
  go_enter Try.func56, Try.ntmps56
  go_upto_region 3 with (go_at_call 42; refine (HCH.out _ ((Below.refl _ _).alloc (Nat.le_refl _) _)).mono ?_; rintro e w1 ⟨rfl, hb1⟩)
  have hS0 : PSt w (w1.alloc (.cells (pcell ⟨tx, noBnd⟩) 101)) w1.heap.size ⟨tx, noBnd⟩ := by
    have hz := hb1.size
    simp at hz
    exact ⟨alloc_at _ _, alloc_old _ (by omega) ((hb1.block _ (by simp)).trans (alloc_at w _)), by omega, (below_box hb1).alloc (by omega) _⟩
  rw [show pcell ⟨tx, noBnd⟩ = #[.int .i64 (tx.size : Int), .bool false, .bool false, .int .i64 0, .string ⟨#[]⟩, .bool false, .int .i64 0, .string ⟨#[]⟩, .string tx] from rfl] at hS0
  generalize w1.alloc (.cells #[.int .i64 (tx.size : Int), .bool false, .bool false, .int .i64 0, .string ⟨#[]⟩, .bool false, .int .i64 0, .string ⟨#[]⟩, .string tx] 101) = W0 at *
  generalize w1.heap.size = g at *
  have HS0 : Hid (PSt w W0 g ⟨tx, noBnd⟩) := hS0
  clear hS0 hb1 HCH
  cases bo
  · go_wp2_with fail
    go_loopw [10] (fun i wr => i = .int .i64 0 ∧ PSt w wr g ⟨tx, noBnd⟩) (fun _ _ => 0)
    case atStart => exact ⟨rfl, HS0.out⟩
    case round =>
      clear HS0
      obtain ⟨rfl, hS⟩ := hrel
      have HX0 : Hid (wr.rangeAt g 0 (pcell ⟨tx, noBnd⟩).toList) := row_range hS.box
      have HX1 : Hid (wr.there w.heap.size 0 (pcell ⟨tx, noBnd⟩).size) := (show wr.there w.heap.size 0 9 from row_there hS.res)
      have HB2 : Hid (Below w.heap.size w (wr.setCells w.heap.size 0 (pcell ⟨tx, noBnd⟩).toList)) := below_setCells (Nat.le_refl _) (Nat.le_refl _) _ _ _ hS.bel
      have HX2 : Hid ((wr.setCells w.heap.size 0 (pcell ⟨tx, noBnd⟩).toList).rangeAt w.heap.size 0 (pcell ⟨tx, noBnd⟩).toList) := World.rangeAt_setCells_same _ _ _ _ HX1.out
      clear hS
      by_cases hl0 : (0 : Int) < (l.length : Int)
      all_goals
        go_upto_region 15 with fail
        refine wp_region_lit ?_
        refine wpList_load_mid rfl _ _ rfl g 0 rfl _ _ HX0.out Try.underlying101 rfl (by kernel_rfl) ?_
        refine wpList_store_mid rfl _ _ _ rfl w.heap.size 0 (pcell ⟨tx, noBnd⟩) rfl rfl HX1.out (by kernel_rfl) (pcell_one _) ?_
        go_wp2_with fail
        exact post_cell Try.results56 rfl rfl HX2.out Try.underlying101 rfl (by kernel_rfl) ⟨rfl, HB2.out⟩
  · go_wp2_with fail
    go_loopw [10] (fun i wr => ∃ j : Nat, j ≤ l.length ∧ i = .int .i64 (j : Int) ∧ PSt w wr g ⟨tx, boundsP (l.take j)⟩) (fun i _ => l.length - (intOf i).toNat)
    case atStart => exact ⟨0, Nat.zero_le _, rfl, HS0.out⟩
    case round =>
      clear HS0
      obtain ⟨j, hj, rfl, hS⟩ := hrel
      by_cases hlt : j < l.length
      · obtain rfl := HR.out.addr (by omega)
        have HT : Hid (boundsP (l.take (j + 1)) = bstepR (boundsP (l.take j)) l[j]) := by show _ = _; rw [bstepR_eq]; exact boundsP_take l j hlt
        have x0 := HR.out.c0 j hlt
        have x1 := HR.out.c1 j hlt
        have x2 := HR.out.c2 j hlt
        have hbl : b < w.heap.size := HR.out.lt (by omega)
        have HXS : Hid (l[j].s.size ≤ 32) := HVO.out _ (List.getElem_mem hlt)
        have HBS : Hid ((boundsP (l.take j)).least.s.size ≤ 32 ∧ (boundsP (l.take j)).most.s.size ≤ 32) := boundsP_size _ (fun x hx => HVO.out x (List.mem_of_mem_take hx))
        generalize boundsP (l.take j) = B at *
        generalize l[j] = x at *
        have HX : Hid (∀ W c, PSt w W g c → W.cell? ⟨b, off + j * 3, none⟩ = some (.bool x.null) ∧ W.cell? ⟨b, off + j * 3 + 1, none⟩ = some (.int .i64 x.n) ∧ W.cell? ⟨b, off + j * 3 + 2, none⟩ = some (.string x.s)) := fun W c h => h.val hbl x0 x1 x2
        have HS : Hid (PSt w wr g ⟨tx, B⟩) := hS
        clear x0 x1 x2 hS
        obtain ⟨x0, x1, x2⟩ := HX.out wr _ HS.out
        obtain ⟨⟨c0, c1, c2, c3, c4, c5, c6, c7, c8⟩, f0, f1, f2, f3, f4, f5, f6, f7, f8⟩ := part_cells HS.out.box
        by_cases hn : x.null = true
        · have HE : Hid (boundsP (l.take (j + 1)) = B) := by show _ = _; rw [HT.out]; unfold bstepR; rw [if_pos hn]
          rw [hn] at x0
          clear HT hn
          go_wp2
          go_roundw
          case rel => exact ⟨j + 1, by omega, by go_num, by rw [HE.out]; exact HS.out⟩
          case measure => simp [intOf]; omega
        · obtain ⟨xn, xi, xs⟩ := x
          obtain rfl : xn = false := by simpa using hn
          have hbg : ¬ b = g := by have := HS.out.far; omega
          have hgb : ¬ g = b := by have := HS.out.far; omega
          clear hn
          go_upto_if 36 with fail
          go_cut [] from 20 to 71 (fun wx => PSt w wx g ⟨tx, ⟨B.there, if B.there then B.least else ⟨false, xi, xs⟩, if B.there then B.most else ⟨false, xi, xs⟩⟩⟩)
          case first =>
            obtain ⟨bt, bl, bm⟩ := B
            cases bt
            · go_wp2
              go_meet
              exact (HS.out.least ⟨false, xi, xs⟩).most ⟨false, xi, xs⟩
            · go_wp2
              go_meet
              exact HS.out
          case rest =>
            have HT2 : Hid (boundsP (l.take (j + 1)) = ⟨true, if vcmp ⟨false, xi, xs⟩ (if B.there then B.least else ⟨false, xi, xs⟩) < 0 then ⟨false, xi, xs⟩ else (if B.there then B.least else ⟨false, xi, xs⟩), if vcmp (if B.there then B.most else ⟨false, xi, xs⟩) ⟨false, xi, xs⟩ < 0 then ⟨false, xi, xs⟩ else (if B.there then B.most else ⟨false, xi, xs⟩)⟩) := by
              show _ = _
              rw [HT.out]
              unfold bstepR
              obtain ⟨bt, bl, bm⟩ := B
              cases bt <;> simp
            have HCL : Hid ((if B.there then B.least else ⟨false, xi, xs⟩).s.size ≤ 32 ∧ (if B.there then B.most else ⟨false, xi, xs⟩).s.size ≤ 32) := by
              have h1 := HBS.out
              have h2 := HXS.out
              obtain ⟨bt, bl, bm⟩ := B
              cases bt
              · exact ⟨h2, h2⟩
              · exact h1
            generalize (if B.there then B.least else ⟨false, xi, xs⟩) = cl at *
            generalize (if B.there then B.most else ⟨false, xi, xs⟩) = cm at *
            have HC : Hid (PSt w wc g ⟨tx, ⟨B.there, cl, cm⟩⟩) := hcut
            clear hcut c0 c1 c2 c3 c4 c5 c6 c7 c8 f0 f1 f2 f3 f4 f5 f6 f7 f8 x0 x1 x2 HS HT HBS
            have hf1 := (part_cells HC.out.box).2.2.1
            have hc1 := (part_cells HC.out.box).1.2.1
            go_upto_region 11 with fail
            have hS1 := HC.out.set
            clear hf1 hc1 HC
            generalize wc.setCell ⟨g, 1, none⟩ (.bool true) = W1 at *
            have HS1 : Hid (PSt w W1 g ⟨tx, ⟨true, cl, cm⟩⟩) := hS1
            clear hS1
            obtain ⟨x0, x1, x2⟩ := HX.out W1 _ HS1.out
            obtain ⟨⟨-, -, c2, c3, c4, c5, c6, c7, -⟩, -⟩ := part_cells HS1.out.box
            have hgW : g < W1.heap.size := lt_of_block HS1.out.box
            have hbW : b < W1.heap.size := by have := HS1.out.bel.size; omega
            have hji : (j : Int) < (l.length : Int) := by omega
            obtain ⟨d1, HD1⟩ : ∃ d : Bool, Hid (d = decide (vcmp ⟨false, xi, xs⟩ cl < 0)) := ⟨_, rfl⟩
            go_cut [54] from 20 to 71 (fun v54 wx => v54 = .bool d1 ∧ PSt w wx g ⟨tx, ⟨true, cl, cm⟩⟩)
            case first =>
              have HL : Hid (Calls Try.prog 86 #[.agg #[.bool false, .int .i64 xi, .string xs], .agg #[.bool cl.null, .int .i64 cl.n, .string cl.s]] W1.drew fun e w' => e = .returned (.bool d1) ∧ Below W1.drew.heap.size W1.drew w') := by
                rw [HD1.out]
                exact less_any ⟨false, xi, xs⟩ cl W1.drew (by have := HXS.out; unfold maxLen; simp at this ⊢; omega) (by have := HCL.out.1; unfold maxLen; omega)
              go_region_held3 (fun W => W.cell? ⟨b, off + j * 3, none⟩ = some (.bool false) ∧ W.cell? ⟨b, off + j * 3 + 1, none⟩ = some (.int .i64 xi) ∧ W.cell? ⟨b, off + j * 3 + 2, none⟩ = some (.string xs) ∧ W.cell? ⟨g, 2, none⟩ = some (.bool cl.null) ∧ W.cell? ⟨g, 3, none⟩ = some (.int .i64 cl.n) ∧ W.cell? ⟨g, 4, none⟩ = some (.string cl.s)) (go_keep) ((go_at_call 86; refine HL.out.mono ?_; rintro e w2 ⟨rfl, hb2⟩; have hb3 : Below W1.heap.size W1 w2 := ((Below.refl W1.heap.size W1).drew).trans hb2; have k0 := (hb3.cell (p := ⟨b, off + j * 3, none⟩) hbW).trans x0; have k1 := (hb3.cell (p := ⟨b, off + j * 3 + 1, none⟩) hbW).trans x1; have k2 := (hb3.cell (p := ⟨b, off + j * 3 + 2, none⟩) hbW).trans x2; have k3 := (hb3.cell (p := ⟨g, 2, none⟩) hgW).trans c2; have k4 := (hb3.cell (p := ⟨g, 3, none⟩) hgW).trans c3; have k5 := (hb3.cell (p := ⟨g, 4, none⟩) hgW).trans c4; clear hb2))
              all_goals
                have HB3 : Hid (Below W1.heap.size W1 w2) := hb3
                clear hb3 k0 k1 k2 k3 k4 k5
                go_wp2_with fail
                go_meet
                exact ⟨rfl, HS1.out.below HB3.out⟩
            case rest =>
              rename World => wd
              obtain ⟨rfl, hS2⟩ := hcut
              have HS2 : Hid (PSt w wd g ⟨tx, ⟨true, cl, cm⟩⟩) := hS2
              clear hS2 x0 x1 x2 c2 c3 c4 c5 c6 c7 HS1 hgW hbW
              go_upto_if 54 with fail
              go_cut [] from 20 to 71 (fun wy => PSt w wy g ⟨tx, ⟨true, if vcmp ⟨false, xi, xs⟩ cl < 0 then ⟨false, xi, xs⟩ else cl, cm⟩⟩)
              case first =>
                obtain ⟨x0, x1, x2⟩ := HX.out wd _ HS2.out
                obtain ⟨⟨-, -, c2, c3, c4, -⟩, -, -, f2, f3, f4, -⟩ := part_cells HS2.out.box
                cases d1
                rotate_left
                · have H1 : Hid (vcmp ⟨false, xi, xs⟩ cl < 0) := by have := HD1.out; show vcmp ⟨false, xi, xs⟩ cl < 0; simpa using this
                  clear HD1
                  go_wp2
                  go_meet
                  rw [if_pos H1.out]
                  exact HS2.out.least ⟨false, xi, xs⟩
                · have H1 : Hid (¬ vcmp ⟨false, xi, xs⟩ cl < 0) := by have := HD1.out; show ¬ _; simpa using this
                  clear HD1
                  go_wp2
                  go_meet
                  rw [if_neg (by have := H1.out; omega)]
                  exact HS2.out
              case rest =>
                rename World => we
                have HS3 : Hid (PSt w we g ⟨tx, ⟨true, if vcmp ⟨false, xi, xs⟩ cl < 0 then ⟨false, xi, xs⟩ else cl, cm⟩⟩) := hcut
                clear hcut HS2
                generalize (if vcmp ⟨false, xi, xs⟩ cl < 0 then ⟨false, xi, xs⟩ else cl) = cl2 at *
                obtain ⟨x0, x1, x2⟩ := HX.out we _ HS3.out
                obtain ⟨⟨-, -, -, -, -, c5, c6, c7, -⟩, -⟩ := part_cells HS3.out.box
                have hgW : g < we.heap.size := lt_of_block HS3.out.box
                have hbW : b < we.heap.size := by have := HS3.out.bel.size; omega
                go_upto_region 13 with fail
                obtain ⟨d2, HD2⟩ : ∃ d : Bool, Hid (d = decide (vcmp cm ⟨false, xi, xs⟩ < 0)) := ⟨_, rfl⟩
                go_cut [66] from 20 to 71 (fun v66 wx => v66 = .bool d2 ∧ PSt w wx g ⟨tx, ⟨true, cl2, cm⟩⟩)
                case first =>
                  have HL : Hid (Calls Try.prog 86 #[.agg #[.bool cm.null, .int .i64 cm.n, .string cm.s], .agg #[.bool false, .int .i64 xi, .string xs]] we.drew fun e w' => e = .returned (.bool d2) ∧ Below we.drew.heap.size we.drew w') := by
                    rw [HD2.out]
                    exact less_any cm ⟨false, xi, xs⟩ we.drew (by have := HCL.out.2; unfold maxLen; omega) (by have := HXS.out; unfold maxLen; simp at this ⊢; omega)
                  go_region_held3 (fun W => W.cell? ⟨b, off + j * 3, none⟩ = some (.bool false) ∧ W.cell? ⟨b, off + j * 3 + 1, none⟩ = some (.int .i64 xi) ∧ W.cell? ⟨b, off + j * 3 + 2, none⟩ = some (.string xs) ∧ W.cell? ⟨g, 5, none⟩ = some (.bool cm.null) ∧ W.cell? ⟨g, 6, none⟩ = some (.int .i64 cm.n) ∧ W.cell? ⟨g, 7, none⟩ = some (.string cm.s)) (go_keep) ((go_at_call 86; refine HL.out.mono ?_; rintro e w2 ⟨rfl, hb2⟩; have hb3 : Below we.heap.size we w2 := ((Below.refl we.heap.size we).drew).trans hb2; have k0 := (hb3.cell (p := ⟨b, off + j * 3, none⟩) hbW).trans x0; have k1 := (hb3.cell (p := ⟨b, off + j * 3 + 1, none⟩) hbW).trans x1; have k2 := (hb3.cell (p := ⟨b, off + j * 3 + 2, none⟩) hbW).trans x2; have k3 := (hb3.cell (p := ⟨g, 5, none⟩) hgW).trans c5; have k4 := (hb3.cell (p := ⟨g, 6, none⟩) hgW).trans c6; have k5 := (hb3.cell (p := ⟨g, 7, none⟩) hgW).trans c7; clear hb2))
                  all_goals
                    have HB3 : Hid (Below we.heap.size we w2) := hb3
                    clear hb3 k0 k1 k2 k3 k4 k5
                    go_wp2_with fail
                    go_meet
                    exact ⟨rfl, HS3.out.below HB3.out⟩
                case rest =>
                  rename World => wf
                  obtain ⟨rfl, hS4⟩ := hcut
                  have HS4 : Hid (PSt w wf g ⟨tx, ⟨true, cl2, cm⟩⟩) := hS4
                  clear hS4 x0 x1 x2 c5 c6 c7 HS3 hgW hbW
                  obtain ⟨x0, x1, x2⟩ := HX.out wf _ HS4.out
                  obtain ⟨⟨-, -, -, -, -, c5, c6, c7, -⟩, -, -, -, -, -, f5, f6, f7, -⟩ := part_cells HS4.out.box
                  cases d2
                  rotate_left
                  · have h1 : vcmp cm ⟨false, xi, xs⟩ < 0 := by have := HD2.out; simpa using this
                    have HE : Hid (boundsP (l.take (j + 1)) = ⟨true, cl2, ⟨false, xi, xs⟩⟩) := by show _ = _; rw [HT2.out, if_pos h1]
                    clear h1 HT2 HD2 HD1
                    go_wp2
                    go_roundw
                    case rel => exact ⟨j + 1, by omega, by go_num, by rw [HE.out]; exact HS4.out.most ⟨false, xi, xs⟩⟩
                    case measure => simp [intOf]; omega
                  · have h1 : ¬ vcmp cm ⟨false, xi, xs⟩ < 0 := by have := HD2.out; simpa using this
                    have HE : Hid (boundsP (l.take (j + 1)) = ⟨true, cl2, cm⟩) := by show _ = _; rw [HT2.out, if_neg h1]
                    clear h1 HT2 HD2 HD1
                    go_wp2
                    go_roundw
                    case rel => exact ⟨j + 1, by omega, by go_num, by rw [HE.out]; exact HS4.out⟩
                    case measure => simp [intOf]; omega
      · obtain rfl : j = l.length := by omega
        rw [List.take_length] at hS
        have HX0 : Hid (wr.rangeAt g 0 (pcell ⟨tx, boundsP l⟩).toList) := row_range hS.box
        have HX1 : Hid (wr.there w.heap.size 0 (pcell ⟨tx, boundsP l⟩).size) := (show wr.there w.heap.size 0 9 from row_there hS.res)
        have HB2 : Hid (Below w.heap.size w (wr.setCells w.heap.size 0 (pcell ⟨tx, boundsP l⟩).toList)) := below_setCells (Nat.le_refl _) (Nat.le_refl _) _ _ _ hS.bel
        have HX2 : Hid ((wr.setCells w.heap.size 0 (pcell ⟨tx, boundsP l⟩).toList).rangeAt w.heap.size 0 (pcell ⟨tx, boundsP l⟩).toList) := World.rangeAt_setCells_same _ _ _ _ HX1.out
        clear hS
        go_upto_region 15 with fail
        refine wp_region_lit ?_
        refine wpList_load_mid rfl _ _ rfl g 0 rfl _ _ HX0.out Try.underlying101 rfl (by kernel_rfl) ?_
        refine wpList_store_mid rfl _ _ _ rfl w.heap.size 0 (pcell ⟨tx, boundsP l⟩) rfl rfl HX1.out (by kernel_rfl) (pcell_one _) ?_
        go_wp2_with fail
        exact post_cell Try.results56 rfl rfl HX2.out Try.underlying101 rfl (by kernel_rfl) ⟨rfl, HB2.out⟩
end Go.Proofs.Ytjidbonhhpkljaa.Ec
