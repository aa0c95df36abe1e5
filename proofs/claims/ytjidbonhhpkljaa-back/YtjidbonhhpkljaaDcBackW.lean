/- Back: the walk. -/
import Derived.Test.YtjidbonhhpkljaaDcBack
import Derived.Deep.RegionWith
set_option linter.unusedVariables false
namespace Go.Proofs.Ytjidbonhhpkljaa.Ec
open Go.RowKit Go.Proofs.Ytjidbonhhpkljaa.Pk Go.Proofs.Ytjidbonhhpkljaa.Pm

def exL : List Val := [⟨false, 5, ⟨#[]⟩⟩, ⟨true, 0, ⟨#[]⟩⟩, ⟨false, 3, ⟨#[]⟩⟩]
theorem ex_vsl (w : World) : VSl (w.alloc (.cells #[.bool false, .int .i64 5, .string ⟨#[]⟩, .bool true, .int .i64 0, .string ⟨#[]⟩, .bool false, .int .i64 3, .string ⟨#[]⟩] 39)) (.slice (some ⟨w.heap.size, 0, none⟩) 3 3) exL := by
  refine ⟨some ⟨w.heap.size, 0, none⟩, w.heap.size, 0, 3, rfl, fun _ => rfl, fun _ => by simp, ?_, ?_, ?_⟩
  all_goals
    intro j hj
    match j, hj with
    | 0, _ => simp [exL]
    | 1, _ => simp [exL]
    | 2, _ => simp [exL]
theorem conv_eight (w : World) : (convert 44 9 (.slice (some ⟨w.heap.size, 0, none⟩) 8 8)).run Try.prog (w.alloc (.cells #[.int .u8 1, .int .u8 1, .int .u8 1, .int .u8 0, .int .u8 1, .int .u8 1, .int .u8 10, .int .u8 3] 5)) = .ok (.string ⟨#[1, 1, 1, 0, 1, 1, 10, 3]⟩) (w.alloc (.cells #[.int .u8 1, .int .u8 1, .int .u8 1, .int .u8 0, .int .u8 1, .int .u8 1, .int .u8 10, .int .u8 3] 5)) :=
  run_convert_bytes_arg _ 44 5 Try.underlying44 Try.underlying5 w.heap.size 0 8 8 [1, 1, 1, 0, 1, 1, 10, 3] rfl (fun i hi => by
    match i, hi with
    | 0, _ => simp
    | 1, _ => simp
    | 2, _ => simp
    | 3, _ => simp
    | 4, _ => simp
    | 5, _ => simp
    | 6, _ => simp
    | 7, _ => simp) 9 Try.underlying9

set_option maxRecDepth 100000 in
set_option maxHeartbeats 4000000 in
theorem back_any (raw : List Val) (lv : Value) (kd : Int) (w : World) (hm : raw.length ≤ maxLen) (hin : ∀ x ∈ raw, VIn x ∧ x.s.size ≤ maxLen) (hk0 : -9223372036854775808 ≤ kd) (hk1 : kd ≤ 9223372036854775807) (hvs : VSl w lv raw) :
    Calls Try.prog 6 #[lv, .int .i64 kd] w fun r w' => r = .returned (.bool true) ∧ Below w.heap.size w w' := by
  obtain ⟨j0, hj, hy0, hy1, hy2⟩ := info_parts Try.info39
  obtain ⟨ao, b, off, cap, rfl, hr⟩ := hvs
  have HIN : Hid (∀ x ∈ raw, VIn x ∧ x.s.size ≤ maxLen) := hin
  have HVR : Hid (VRow w ao b off raw) := hr
  unfold maxLen at hm
  have HPK : Hid (∀ w, Calls Try.prog 20 #[.int .i64 kd, .int .i64 3] w fun e w' => w' = w ∧ ∃ r, e = .returned (.int .i64 r) ∧ 0 ≤ r ∧ r < 3) := fun w => pick_any kd 3 w (.inr rfl) hk0 hk1
  clear hin hr hk0 hk1
  go_enter Try.func6, Try.ntmps6
  go_upto_block 0 with (go_at_call 20; refine (HPK.out _).mono ?_; rintro e w' ⟨hw, pk, rfl, hp0, hp1⟩; rw [hw]; clear hw w')
  obtain ⟨k, hkk⟩ : ∃ k : Int, wrap64 (1 + pk) = k := ⟨_, rfl⟩
  have hk : k = 1 ∨ k = 2 ∨ k = 3 := by unfold wrap64 at hkk; omega
  have hkp : 1 + pk = k := by unfold wrap64 at hkk; omega
  clear hkk
  subst hkp
  generalize 1 + pk = k at *
  clear hp0 hp1
  go_cut [5, 6, 7] from 24 to 43 (fun u i b7 wc => ∃ l : List Val, l.length ≤ 100 ∧ (∀ x ∈ l, VC k x) ∧ wc.ownsRow w.heap.size 39 3 u l.length (vcells l) ∧ Below w.heap.size w wc)
  case first =>
    go_wp2_with fail
    go_loopw [5, 6] (fun u i wr => ∃ (j : Nat) (l : List Val), j ≤ raw.length ∧ j ≤ 100 ∧ l.length = j ∧ i = .int .i64 (j : Int) ∧ (∀ x ∈ l, VC k x) ∧ wr.ownsRow w.heap.size 39 3 u j (vcells l) ∧ Below w.heap.size w wr) (fun _ i _ => raw.length - (intOf i).toNat)
    case atStart => exact ⟨0, [], Nat.zero_le _, Nat.zero_le _, rfl, rfl, fun x hx => by simp at hx, World.ownsRow_nil _ _ _ _, Below.refl _ _⟩
    case round =>
      obtain ⟨j, l, hjr, hj100, hlj, rfl, hok, hown, hB⟩ := hrel
      have HB : Hid (Below w.heap.size w wr) := hB
      have HOK : Hid (∀ x ∈ l, VC k x) := hok
      have HLJ : Hid (l.length = j) := hlj
      have hsz := hB.size
      clear hok hlj hB
      by_cases hlt : j < raw.length ∧ j < 100
      · obtain ⟨hlt, hlt2⟩ := hlt
        have hr := VRow.below HVR.out (w' := wr) HB.out
        obtain rfl := hr.addr (by omega)
        have p0 := hr.c0 j hlt
        have p1 := hr.c1 j hlt
        have p2 := hr.c2 j hlt
        have hxi := HIN.out raw[j] (List.getElem_mem hlt)
        have HCL : Hid (∀ w, Calls Try.prog 21 #[.agg #[.bool raw[j].null, .int .i64 raw[j].n, .string raw[j].s], .int .i64 k] w fun e w' => Below w.heap.size w w' ∧ ∃ y : Val, e = .returned (.agg #[.bool y.null, .int .i64 y.n, .string y.s]) ∧ VC k y) := fun w => clean_any raw[j] k w hk hxi.1 hxi.2
        clear hr hxi
        generalize raw[j] = x at *
        go_wp2_with (first
          | (go_at_call 21; refine (HCL.out _).mono ?_; rintro e w1 ⟨hb1, y, rfl, hy⟩; have hown1 := ownsRow_below hown hb1; have hsz1 := hb1.size; have HB1 : Hid (Below w.heap.size w w1) := HB.out.trans (hb1.mono hsz); have HY : Hid (VC k y) := hy; clear hb1 hy)
          | (at_builtin; refine wpList_append_keep _ rfl _ _ 30 rfl w.heap.size 39 j0 _ 3 32 Try.underlying30 hj hy0 hy1 hy2 rfl (by decide) _ j _ rfl ((hown1.alloc _).alloc _) ⟨w1.heap.size + 1, 0, none⟩ 1 1 [.bool y.null, .int .i64 y.n, .string y.s] rfl (by decide) rfl (by simpa using three_at (w1.alloc _) _ _ _ _) (three_one y) (by unfold maxLen; omega) (by omega) (by simp; omega) ?_; intro v2 w2 hown2 hgr2))
        have hg := Grew.box (Grew.append hgr2)
        rw [vcells_snoc] at hown2
        have hb2 : Below w.heap.size w w2 := HB1.out.trans (hg.below (fun g hg => (hown1.lt g hg).1) (by have := HB1.out.size; omega))
        refine ⟨⟨j + 1, l ++ [y], by omega, by omega, by rw [List.length_append, HLJ.out]; rfl, by go_num, ?_, hown2, hb2⟩, by simp [intOf]; omega⟩
        intro z hz
        rcases List.mem_append.1 hz with h1 | h1
        · exact HOK.out z h1
        · simp at h1; rw [h1]; exact HY.out
      · go_wp2_with fail
        all_goals
          go_meet
          exact ⟨l, by rw [HLJ.out]; exact hj100, HOK.out, by rw [HLJ.out]; exact hown, HB.out⟩
  case rest =>
    rename World => wc
    obtain ⟨l, hl100, hok, hown, hB⟩ := hcut
    have HB : Hid (Below w.heap.size w wc) := hB
    have HOK : Hid (∀ x ∈ l, VC k x) := hok
    have hsz := hB.size
    obtain ⟨uo, ucap, hue⟩ := own_shape hown
    subst hue
    have HVS : Hid (VSl wc (.slice uo l.length ucap) l) := VSl.of_owns hown
    have HEN : Hid (∀ w, Calls Try.prog 22 #[.int .i64 k] w fun e w' => Below w.heap.size w w' ∧ w.heap.size < w'.heap.size ∧ e = .returned (.slice (some ⟨w.heap.size, 0, none⟩) (encsOf k).length (encsOf k).length) ∧ ∀ j, j < (encsOf k).length → w'.cell? ⟨w.heap.size, 0 + j, none⟩ = some (.int .i64 ((encsOf k).getD j 0))) := fun w => encodings_any k w hk
    have hel := encs_len k
    have HEO : Hid (∀ e ∈ encsOf k, hasEncB k e = true) := encs_ok k hk
    generalize encsOf k = es at *
    clear hown hok hB HIN HVR HPK
    go_wp2_with (go_at_call 22; refine (HEN.out _).mono ?_; rintro e w1 ⟨hb1, hsz1, rfl, hce⟩)
    have HB1 : Hid (Below w.heap.size w w1) := HB.out.trans (hb1.mono hsz)
    have HVS1 : Hid (VSl w1 (.slice uo l.length ucap) l) := HVS.out.below hb1
    have HCE : Hid (∀ j, j < es.length → w1.cell? ⟨wc.heap.size, j, none⟩ = some (.int .i64 (es.getD j 0))) := fun j hj => by have := hce j hj; rwa [Nat.zero_add] at this
    have hge : wc.heap.size < w1.heap.size := hsz1
    have hszw := HB1.out.size
    clear hb1 hce hsz1 HB HVS HEN hsz
    generalize wc.heap.size = gE at *
    go_loopw [9] (fun i wq => ∃ t : Nat, t ≤ es.length ∧ i = .int .i64 (t : Int) ∧ Below w1.heap.size w1 wq) (fun i _ => es.length - (intOf i).toNat)
    case atStart => exact ⟨0, Nat.zero_le _, rfl, Below.refl _ _⟩
    case round =>
      rename World => wq
      obtain ⟨t, htl, rfl, hbq⟩ := hrel
      have HBQ : Hid (Below w1.heap.size w1 wq) := hbq
      have hszq := hbq.size
      have HVQ : Hid (VSl wq (.slice uo l.length ucap) l) := HVS1.out.below hbq
      by_cases htt : t < es.length
      · have hee := HEO.out (es.getD t 0) (by rw [getD_get htt]; exact List.getElem_mem htt)
        have hct : wq.cell? ⟨gE, t, none⟩ = some (.int .i64 (es.getD t 0)) := (hbq.cell (p := ⟨gE, t, none⟩) hge).trans (HCE.out t htt)
        generalize es.getD t 0 = e at *
        have HEE : Hid (hasEncB k e = true) := hee
        have HENC : Hid (encOf l k e = (strOf (columnB k e l), 0)) := enc_ok (by omega) hee (fun j hj => (HOK.out _ (List.getElem_mem hj)).may hk)
        have HINV : Hid (∀ x ∈ l, VIn x) := fun x hx => (HOK.out x hx).vin
        clear hee hbq
        go_wp2_with fail
        refine (cEncode_any _ l k e _ (by unfold maxLen; omega) HINV.out HVQ.out).mono ?_
        rintro r w2 ⟨rfl, hb2⟩
        rw [HENC.out]
        have hct2 := (hb2.cell (p := ⟨gE, t, none⟩) (by show gE < _; omega)).trans hct
        have HB2 : Hid (Below w1.heap.size w1 w2) := HBQ.out.trans (hb2.mono hszq)
        have HV2 : Hid (VSl w2 (.slice uo l.length ucap) l) := HVQ.out.below hb2
        have hsz2 := HB2.out.size
        clear hct hb2 HVQ HBQ hszq
        have HD : Hid (∀ w, Calls Try.prog 23 #[.string (strOf (columnB k e l)), .int .i64 k, .int .i64 e, .int .i64 (l.length : Int)] w fun f w' => Below w.heap.size w w' ∧ ∃ v, f = .returned (.tuple #[v, .int .i64 0]) ∧ VSl w' v l ∧ DecOk (strOf (columnB k e l)) k e l.length l) := fun w => decode_back k e l w hk HEE.out hl100 HOK.out
        go_wp2_with fail
        refine (HD.out _).mono ?_
        rintro r w3 ⟨hb3, v3, rfl, hvs3, hdec⟩
        have hct3 := (hb3.cell (p := ⟨gE, t, none⟩) (by show gE < _; omega)).trans hct2
        have HB3 : Hid (Below w1.heap.size w1 w3) := HB2.out.trans (hb3.mono hsz2)
        have HV3 : Hid (VSl w3 (.slice uo l.length ucap) l) := HV2.out.below hb3
        have HVT : Hid (VSl w3 v3 l) := hvs3
        have HDEC : Hid (DecOk (strOf (columnB k e l)) k e l.length l) := hdec
        have hsz3 := HB3.out.size
        obtain ⟨tao, tb, toff, tcap, rfl, htr⟩ := hvs3
        obtain ⟨uao, ub, uoff, ucap2, hue, hur⟩ := HV3.out
        simp only [Value.slice.injEq] at hue
        obtain ⟨rfl, _, rfl⟩ := hue
        have HTR : Hid _ := htr
        have HUR : Hid _ := hur
        clear hct2 hb3 hdec htr hur HB2 HV2 hsz2 HV3 HVT
        go_wp2_with fail
        refine (sameValues_any l l tao uo tb toff tcap ub uoff ucap _ (by unfold maxLen; omega) (by unfold maxLen; omega) HTR.out HUR.out).mono ?_
        rintro r w4 ⟨sb, rfl, hsb, m, hw4⟩
        obtain rfl : sb = true := hsb.2 rfl
        have hct4 : w4.cell? ⟨gE, t, none⟩ = some (.int .i64 e) := by rw [hw4]; exact hct3
        have HB4 : Hid (Below w1.heap.size w1 w4) := by rw [hw4]; exact below_drewN HB3.out m
        clear hct3 hsb hw4 HB3
        have HD2 : Hid (∀ w, Calls Try.prog 23 #[.string (strOf (columnB k e l) ++ strOf [0]), .int .i64 k, .int .i64 e, .int .i64 (l.length : Int)] w fun f w' => Below w.heap.size w w' ∧ f = .returned (.tuple #[.slice none 0 0, .int .i64 3])) := fun w => decode_longer k e l w hk HEE.out hl100 HOK.out
        have HDS : Hid (∀ s : ByteArray, s.size ≤ maxLen → bytesOf s = (columnB k e l).take ((columnB k e l).length - 1) → columnB k e l ≠ [] → ∀ w, Calls Try.prog 23 #[.string s, .int .i64 k, .int .i64 e, .int .i64 (l.length : Int)] w fun f w' => Below w.heap.size w w' ∧ f = .returned (.tuple #[.slice none 0 0, .int .i64 3])) := fun s hs1 hs2 hs3 w => decode_shorter k e l s w hk HEE.out hl100 HOK.out hs1 hs2 hs3 HDEC.out
        have HBC : Hid (bytesOf (strOf (columnB k e l)) = columnB k e l) := bytesOf_strOf _ (columnB_lt k e l)
        have hSz : (strOf (columnB k e l)).size ≤ 20000 := by rw [strOf_size]; exact column_len hk hl100 HOK.out
        have HSS : Hid ((strOf (columnB k e l)).size = (columnB k e l).length) := strOf_size _
        have hZz : (strOf [0]).size = 1 := strOf_size _
        have hcv : ∀ (W : World) (g : Nat), W.cell? ⟨g, 0, none⟩ = some (.int .u8 0) → (convert 44 9 (.slice (some ⟨g, 0, none⟩) 1 1)).run Try.prog W = .ok (.string (strOf [0])) W := fun W g h => conv_one h
        have hgw : gE < w4.heap.size := by have := HB4.out.size; omega
        have hcold : ∀ o : Obj, (w4.alloc o).cell? ⟨gE, t, none⟩ = some (.int .i64 e) := fun o => ((((Below.refl w4.heap.size w4).alloc (Nat.le_refl _) o)).cell (p := ⟨gE, t, none⟩) hgw).trans hct4
        generalize hSd : strOf (columnB k e l) = S at *
        generalize strOf [0] = Z at *
        have hsz9 : ¬ 9223372036854775807 < S.size + Z.size := by omega
        go_upto_region 17 with fail
        go_cut [15, 16] from 46 to 123 (fun v15 v16 wx => v16 = .int .i64 3 ∧ wx.cell? ⟨gE, t, none⟩ = some (.int .i64 e) ∧ Below w1.heap.size w1 wx)
        case first =>
          go_region_with (go_at_call 23; refine (HD2.out _).mono ?_; rintro r w5 ⟨hb5, rfl⟩)
          all_goals
            have hb6 := below_one hb5
            clear hb5
            go_wp2_with fail
            go_meet
            exact ⟨rfl, (hb6.cell (p := ⟨gE, t, none⟩) hgw).trans hct4, HB4.out.trans (hb6.mono HB4.out.size)⟩
        case rest =>
          rename World => w5
          obtain ⟨rfl, hct5, hb5⟩ := hcut
          have HB5 : Hid (Below w1.heap.size w1 w5) := hb5
          clear hb5 hct4 hcv hgw hcold HD2 hsz9 hZz HB4
          by_cases hemp : S.size = 0
          · obtain rfl : S = ⟨#[]⟩ := ByteArray.ext (Array.eq_empty_of_size_eq_zero hemp)
            go_wp2
            go_roundw
            case rel => exact ⟨t + 1, by omega, by go_num, HB5.out⟩
            case measure => simp [intOf]; omega
          · have hXs : (S.extract 0 (S.size - 1)).size ≤ maxLen := by rw [ByteArray.size_extract]; unfold maxLen; omega
            have hXb : bytesOf (S.extract 0 (S.size - 1)) = (columnB k e l).take ((columnB k e l).length - 1) := by
              rw [bytesOf_extract, HBC.out, HSS.out, List.drop_zero, Nat.sub_zero]
            have hXn : columnB k e l ≠ [] := by
              intro h0
              have h1 := HSS.out
              rw [h0, List.length_nil] at h1
              omega
            have HDX : Hid (∀ w, Calls Try.prog 23 #[.string (S.extract 0 (S.size - 1)), .int .i64 k, .int .i64 e, .int .i64 (l.length : Int)] w fun f w' => Below w.heap.size w w' ∧ f = .returned (.tuple #[.slice none 0 0, .int .i64 3])) := HDS.out (S.extract 0 (S.size - 1)) hXs hXb hXn
            have hne : (S.toList == ([] : List UInt8)) = false := by
              rw [Bool.eq_false_iff]
              intro h0
              have h0 : S.toList = [] := by simpa using h0
              have := size_nil h0
              omega
            have q5 : (1 : Int) ≤ (S.size : Int) := by omega
            have hwi : IntKind.i64.wrap ((S.size : Int) - 1) = (S.size : Int) - 1 := by rw [IntKind.wrap_i64]; omega
            have hwr : wrap64 ((S.size : Int) - 1) = (S.size : Int) - 1 := by unfold wrap64; omega
            have q0 : S.size - 1 ≤ S.size := by omega
            have q1 : (0 : Int) ≤ (S.size : Int) - 1 := by omega
            have q2 : (S.size : Int) - 1 ≤ (S.size : Int) := by omega
            have q3 : ((S.size : Int) - 1).toNat = S.size - 1 := by omega
            clear HDS hXs hXb hXn
            go_upto_region 21 with fail
            go_cut [17, 18] from 46 to 123 (fun v17 v18 wx => v18 = .int .i64 3 ∧ Below w1.heap.size w1 wx)
            case first =>
              go_region_with (go_at_call 23; refine (HDX.out _).mono ?_; rintro r w6 ⟨hb6, rfl⟩)
              all_goals
                have hb7 : Below w5.heap.size w5 w6 := ((Below.refl w5.heap.size w5).drew).trans hb6
                clear hb6
                go_wp2_with fail
                go_meet
                exact ⟨rfl, HB5.out.trans (hb7.mono HB5.out.size)⟩
            case rest =>
              rename World => w6
              obtain ⟨rfl, hb6⟩ := hcut
              have HB6 : Hid (Below w1.heap.size w1 w6) := hb6
              clear hb6 HB5 HDX
              go_wp2
              go_roundw
              case rel => exact ⟨t + 1, by omega, by go_num, HB6.out⟩
              case measure => simp [intOf]; omega
      · have HENX := fun W : World => cEncode_any (.slice (some ⟨W.heap.size, 0, none⟩) 3 3) exL 1 1 (W.alloc (.cells #[.bool false, .int .i64 5, .string ⟨#[]⟩, .bool true, .int .i64 0, .string ⟨#[]⟩, .bool false, .int .i64 3, .string ⟨#[]⟩] 39)) (by unfold maxLen; decide) (fun x hx => by simp [exL] at hx; rcases hx with rfl | rfl | rfl <;> exact ⟨by decide, by decide⟩) (ex_vsl W)
        have HX : Hid _ := HENX
        have hc8 := conv_eight
        clear HENX
        go_wp2_with (go_at_call 17; refine (HX.out _).mono ?_; rintro r w2 ⟨rfl, hb2⟩; rw [show encOf exL 1 1 = (⟨#[1, 1, 1, 0, 1, 1, 10, 3]⟩, 0) from back_example])
        go_ret
        have hb3 := below_box hb2
        exact ⟨rfl, ((HB1.out.trans (HBQ.out.mono hszw)).trans (hb3.mono (by omega))).alloc (by have := hb3.size; omega) _⟩
end Go.Proofs.Ytjidbonhhpkljaa.Ec
