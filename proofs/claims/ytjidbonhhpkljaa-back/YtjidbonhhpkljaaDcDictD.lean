/- The contract of the code's readDict. -/
import Derived.Test.YtjidbonhhpkljaaDcDictC
set_option linter.unusedVariables false
namespace Go.Proofs.Ytjidbonhhpkljaa.Ec
open Go.RowKit Go.Proofs.Ytjidbonhhpkljaa.Pk Go.Proofs.Ytjidbonhhpkljaa.Pm

theorem getD_val (d : List Val) (z : Val) (q : Nat) (h : q < d.length) : d.getD q z = d[q] := by simp [List.getD, h]
theorem ISl.below {w w' : World} {v : Value} {zs : List Int} (h : ISl w v zs) (hb : Below w.heap.size w w') : ISl w' v zs := by
  obtain ⟨ao, b, off, cap, rfl, h1, h2, h3⟩ := h
  exact ⟨ao, b, off, cap, rfl, h1, fun h0 => Nat.lt_of_lt_of_le (h2 h0) hb.size, fun j hj => (hb.cell (p := ⟨b, off + j, none⟩) (h2 (by omega))).trans (h3 j hj)⟩

set_option maxRecDepth 100000 in
set_option maxHeartbeats 8000000 in
theorem readDict_any (k : Int) (hk : k = 1 ∨ k = 2 ∨ k = 3) (s : ByteArray) (r p cn : Nat) (w : World) (hm : s.size ≤ maxLen) (hcn : cn ≤ 100) (hp : p ≤ s.size) (h : w.heap[r]? = some (rdr s p)) :
    Calls Try.prog 115 #[.pointer (some ⟨r, 0, none⟩), .int .i64 k, .int .i64 cn] w fun e w' => Kp r w w' ∧
      ((∃ (l : List Val) (v : Value), e = .returned v ∧ l.length = cn ∧ (∀ x ∈ l, VK k x) ∧ Starts (bytesOf s) p (dictB k l) ∧ (∀ L : List Val, L.length = cn → (∀ x ∈ L, VK k x) → Starts (bytesOf s) p (dictB k L) → L = l) ∧ p + (dictB k l).length ≤ s.size ∧
        w'.heap[r]? = some (rdr s (p + (dictB k l).length)) ∧ w'.ownsRow w.heap.size 39 3 v l.length (vcells l)) ∨
       (∃ q, e = .panicked (badAt q) ∧ ∀ L : List Val, L.length = cn → (∀ x ∈ L, VK k x) → ¬ Starts (bytesOf s) p (dictB k L))) := by
  obtain ⟨j0, hj, hy0, hy1, hy2⟩ := info_parts Try.info39
  have hrl : r < w.heap.size := lt_of_block h
  have HR : Hid (w.heap[r]? = some (rdr s p)) := h
  clear h
  go_enter Try.func115, Try.ntmps115
  go_wp2_with fail
  refine (readEntries_any k hk s r p cn _ hm hcn hp HR.out).mono ?_
  rintro e w1 ⟨hK1, ⟨d, v, rfl, hdl, hdk, hnd, hs1, hs2, hu2, hl2, hR1, hown1⟩ | ⟨q, rfl, hno⟩⟩
  · have HK1 : Hid (Kp r w w1) := hK1
    have HS1 : Hid (Starts (bytesOf s) p (vint d.length)) := hs1
    have HS2 : Hid (Starts (bytesOf s) (p + (vint d.length).length) (plainsB k d)) := hs2
    have HU2 : Hid (∀ D : List Val, D.length = d.length → (∀ x ∈ D, VK k x) → Starts (bytesOf s) (p + (vint d.length).length) (plainsB k D) → D = d) := hu2
    have HR1 : Hid (w1.heap[r]? = some (rdr s (p + (vint d.length).length + (plainsB k d).length))) := hR1
    have HDK : Hid (∀ x ∈ d, VK k x) := hdk
    have HND : Hid d.Nodup := hnd
    have HO1 : Hid (w1.ownsRow w.heap.size 39 3 v d.length (vcells d)) := hown1
    have hsz1 := hK1.size
    obtain ⟨vao, vcap, rfl⟩ := own_shape hown1
    have HP3 : Hid (p + (vint d.length).length + (plainsB k d).length ≤ s.size) := hl2
    generalize hP : p + (vint d.length).length + (plainsB k d).length = P at *
    have HP : Hid (p + (vint d.length).length + (plainsB k d).length = P) := hP
    have HW : Hid (∀ w, Calls Try.prog 107 #[.int .i64 (d.length : Int)] w fun e w' => e = .returned (.int .i64 (wid d.length)) ∧ w' = w) := fun w => widthOf_any d.length (by omega) w
    clear hK1 hs1 hs2 hu2 hR1 hdk hnd hown1 HR hP hl2
    have hwl := wid_le d.length
    go_wp2_with (go_at_call 107; refine (HW.out _).mono ?_; rintro e w' ⟨rfl, hw⟩; rw [hw]; clear hw w')
    refine (readPacked_any s r P (wid d.length) cn _ hm (by omega) hcn HP3.out HR1.out).mono ?_
    rintro e w2 ⟨hK2, ⟨rfl, hok, hR2, hown2⟩ | ⟨q, rfl, hno⟩⟩
    · have HS3 : Hid (Starts (bytesOf s) P (packBytes (wid d.length) (D (wid d.length) (restV s P) cn))) := packed_starts s P _ cn HP3.out hok
      have HUP : Hid (∀ ps : List Nat, ps.length = cn → (∀ x ∈ ps, x < 2 ^ wid d.length) → Starts (bytesOf s) P (packBytes (wid d.length) ps) → ps = D (wid d.length) (restV s P) cn) := by
        intro ps h1 h2 h3
        have := (packed_reads s P _ ps HP3.out h2 h3).2
        rw [h1] at this
        exact this.symm
      have hpl : (D (wid d.length) (restV s P) cn).length = cn := D_length _ _ _
      have hpb : ∀ q ∈ D (wid d.length) (restV s P) cn, q < 65536 := fun q hq => by
        have h1 := D_lt _ _ _ q hq
        have h2 : 2 ^ wid d.length ≤ 2 ^ 7 := Nat.pow_le_pow_right (by omega) hwl
        omega
      generalize D (wid d.length) (restV s P) cn = ps at *
      have hil : (intsOf ps).length = cn := by rw [← hpl]; simp [intsOf]
      have HPL : Hid (ps.length = cn) := hpl
      have HPB : Hid (∀ q ∈ ps, q < 65536) := hpb
      have HIS : Hid (ISl w2 (.slice (some ⟨w1.heap.size, 0, none⟩) cn cn) (intsOf ps)) := ISl.of_owns (by rw [hil]; exact hown2)
      have HK2 : Hid (Kp r w w2) := HK1.out.trans hK2
      have HO2 : Hid (w2.ownsRow w.heap.size 39 3 (.slice vao d.length vcap) d.length (vcells d)) := hK2.own HO1.out hrl
      have HR2 : Hid (w2.heap[r]? = some (rdr s (P + (cn * wid d.length + 7) / 8))) := hR2
      have hsz2 := HK2.out.size
      clear hK2 hR2 hown2 hok HK1 HO1 HR1 hpl hpb hil
      generalize hM : P + (cn * wid d.length + 7) / 8 = M at *
      have HM : Hid (P + (cn * wid d.length + 7) / 8 = M) := hM
      clear hM hwl
      go_wp2_with fail
      refine (checkPlaces_any s r M d.length _ ps _ (by omega) (by rw [HPL.out]; omega) HPB.out HIS.out HR2.out).mono ?_
      rintro e w' ⟨hw, ⟨rfl, hck⟩ | ⟨q, rfl, hno⟩⟩
      · rw [hw]
        clear hw w'
        have HCK : Hid (chk 0 ps = some d.length) := hck
        have HG : Hid _ := dict_good hk (s := s) (p := p) (cn := cn) (n := d.length) (d := d) (ps := ps) ⟨false, 0, ⟨#[]⟩⟩ hcn hdl rfl HDK.out HND.out HPL.out hck HS1.out HS2.out (by rw [HP.out]; exact HS3.out) HU2.out (by rw [HP.out]; exact HP3.out)
        have HLT : Hid (∀ j, (hj : j < ps.length) → ps[j] < d.length) := fun j hj => chk_lt hck _ (List.getElem_mem hj)
        clear hck
        have HVS : Hid (VSl w2 (.slice vao d.length vcap) d) := VSl.of_owns HO2.out
        obtain ⟨iao, ib, ioff, icap, ie, i1, i2, i3⟩ := HIS.out
        simp only [Value.slice.injEq] at ie
        obtain ⟨ie1, ie2, ie3⟩ := ie
        rw [← ie2] at i1 i2 i3
        have HI3 : Hid (∀ j, (hj : j < ps.length) → w2.cell? ⟨ib, ioff + j, none⟩ = some (.int .i64 (ps[j] : Int))) := fun j hj => by
          have h1 := i3 j (by rw [← HPL.out]; exact hj)
          have hil : (intsOf ps).length = ps.length := by simp [intsOf]
          rw [getD_get (by rw [hil]; exact hj)] at h1
          simpa [intsOf] using h1
        have HI2 : Hid (0 < cn → ib < w2.heap.size) := i2
        have HI1 : Hid (0 < cn → (some (⟨w1.heap.size, 0, none⟩ : Addr)) = some ⟨ib, ioff, none⟩) := fun h0 => by rw [ie1]; exact i1 h0
        obtain ⟨ao, b, off, cap, ve, hvr⟩ := HVS.out
        simp only [Value.slice.injEq] at ve
        obtain ⟨rfl, _, rfl⟩ := ve
        have HVR : Hid (VRow w2 vao b off d) := hvr
        clear i1 i2 i3 hvr HVS HIS ie1 ie2 ie3
        go_wp2_with (at_make; refine wpList_make_own _ rfl _ _ 30 rfl w2.heap.size 39 j0 _ 3 Try.underlying30 hj hy0 hy1 .i64 .i64 _ cn rfl rfl rfl (by rw [hy2]; omega) (by unfold maxLen; omega) (Nat.le_refl _) ?_; intro w3 hown3 hgrow3)
        have HB3 : Hid (Below w2.heap.size w2 w3) := (Below.refl _ _).grown hgrow3 (Nat.le_refl _) (by simp)
        clear hgrow3
        go_loopw [9, 31] (fun lv i wr => ∃ j : Nat, j ≤ cn ∧ i = .int .i64 (j : Int) ∧ lv = .slice (some ⟨w2.heap.size, 0, none⟩) j cn ∧ wr.ownsRow w2.heap.size 39 3 (.slice (some ⟨w2.heap.size, 0, none⟩) j cn) j (vcells ((ps.take j).map fun q => d.getD q ⟨false, 0, ⟨#[]⟩⟩)) ∧ Below w2.heap.size w2 wr) (fun _ i _ => cn - (intOf i).toNat)
        case atStart => exact ⟨0, Nat.zero_le _, rfl, rfl, by simpa [vcells] using hown3, HB3.out⟩
        case round =>
          clear hown3 HB3
          obtain ⟨j, hjc, rfl, rfl, hown, hB⟩ := hrel
          have HB : Hid (Below w2.heap.size w2 wr) := hB
          have hsz := hB.size
          clear hB
          by_cases hlt : j < cn
          · have hjp : j < ps.length := by rw [HPL.out]; exact hlt
            have hq := HLT.out j hjp
            have he1 := HI1.out (by omega)
            have hibl := HI2.out (by omega)
            have hck : wr.cell? ⟨ib, ioff + j, none⟩ = some (.int .i64 (ps[j] : Int)) := (HB.out.cell (p := ⟨ib, ioff + j, none⟩) hibl).trans (HI3.out j hjp)
            have hr := HVR.out.below HB.out
            obtain rfl := hr.addr (by omega)
            have p0 := hr.c0 ps[j] hq
            have p1 := hr.c1 ps[j] hq
            have p2 := hr.c2 ps[j] hq
            have HV : Hid (∀ x : Val, d[ps[j]] = x → vcells ((ps.take j).map fun q => d.getD q ⟨false, 0, ⟨#[]⟩⟩) ++ [.bool x.null, .int .i64 x.n, .string x.s] = vcells ((ps.take (j + 1)).map fun q => d.getD q ⟨false, 0, ⟨#[]⟩⟩)) := by
              intro x hx
              rw [List.take_succ_eq_append_getElem hjp, List.map_append, List.map_singleton, ← vcells_snoc, getD_val d _ _ hq, hx]
            simp only [Option.some.injEq, Addr.mk.injEq] at he1
            obtain ⟨hb1, hb2, _⟩ := he1
            subst hb1
            subst hb2
            rw [Nat.zero_add] at hck
            generalize hx : d[ps[j]] = x at *
            have HX := HV.out x rfl
            have HXX : Hid _ := HX
            clear HX HV hx hr
            generalize ps[j] = q at *
            go_wp2_with (at_builtin; refine wpList_append_fits _ rfl _ _ 30 rfl w2.heap.size 39 j0 3 Try.underlying30 hj hy1 w2.heap.size j cn _ rfl (hown.alloc _) ⟨wr.heap.size, 0, none⟩ 1 1 [.bool x.null, .int .i64 x.n, .string x.s] rfl rfl (by exact three_at _ _ _ _ _) (three_one x) (by omega) ?_; intro w4 hown4 hgrow4)
            have HB4 : Hid (Below w2.heap.size w2 w4) := (HB.out.alloc hsz _).grown hgrow4 (by simp; omega) (by intro g hg; simp at hg; omega)
            rw [HXX.out] at hown4
            clear hown hgrow4 HB hck p0 p1 p2
            go_wp2
            go_roundw
            case rel => exact ⟨j + 1, by omega, by go_num, rfl, hown4, HB4.out⟩
            case measure => simp [intOf]; omega
          · obtain rfl : j = cn := by omega
            have htk : ps.take j = ps := List.take_of_length_le (by rw [HPL.out]; omega)
            rw [htk] at hown
            obtain ⟨a1, a2, a3, a4, a5⟩ := HG.out
            have HA1 : Hid _ := a1
            have HA2 : Hid _ := a2
            have HA3 : Hid _ := a3
            have HA4 : Hid _ := a4
            have HA5 : Hid _ := a5
            clear a1 a2 a3 a4 a5 HG htk
            have HLN : Hid (p + (dictB k (ps.map fun q => d.getD q ⟨false, 0, ⟨#[]⟩⟩)).length = M) := by
              show _ = _
              rw [HA3.out, List.length_append, List.length_append, packBytes_length, HPL.out, ← Nat.add_assoc, ← Nat.add_assoc, HP.out, HM.out]
            have HLS : Hid (p + (dictB k (ps.map fun q => d.getD q ⟨false, 0, ⟨#[]⟩⟩)).length ≤ s.size) := by
              have := starts_len HA4.out (by rw [bytesOf_length]; exact hp)
              rwa [bytesOf_length] at this
            generalize hl : (ps.map fun q => d.getD q ⟨false, 0, ⟨#[]⟩⟩) = l at *
            go_wp2
            go_ret
            exact ⟨HK2.out.trans (Kp.of_below HB.out), .inl ⟨l, _, rfl, HA1.out, HA2.out, HA4.out, HA5.out, HLS.out, by rw [HLN.out, HB.out.block r (by omega)]; exact HR2.out, by rw [HA1.out]; exact ownsRow_base hown hsz2⟩⟩
      · have HNO : Hid (∀ L : List Val, L.length = cn → (∀ x ∈ L, VK k x) → ¬ Starts (bytesOf s) p (dictB k L)) := by
          intro L hL hok hs
          obtain ⟨d', ps', g1, g2, g3, g4, g5, g6, g7, g8⟩ := dict_parts hcn hL hok hs
          have e1 := vint_one (by omega) (by omega) g6 HS1.out
          rw [e1] at g7 g8 g5
          have e2 := HU2.out d' e1 g2 g7
          rw [e2, HP.out] at g8
          have e3 := HUP.out ps' g4 (fun x hx => wid_fits _ (by omega) x (chk_lt g5 x hx)) g8
          rw [e3] at g5
          exact hno g5
        rw [hw]
        clear hno hw w'
        go_wp2
        exact ⟨rfl, HK2.out, .inr ⟨q, rfl, HNO.out⟩⟩
    · have HNO : Hid (∀ L : List Val, L.length = cn → (∀ x ∈ L, VK k x) → ¬ Starts (bytesOf s) p (dictB k L)) := by
        intro L hL hok hs
        obtain ⟨d', ps, g1, g2, g3, g4, g5, g6, g7, g8⟩ := dict_parts hcn hL hok hs
        have e1 := vint_one (by omega) (by omega) g6 HS1.out
        rw [e1] at g7 g8 g5
        have e2 := HU2.out d' e1 g2 g7
        rw [e2, HP.out] at g8
        have := (packed_reads s P (wid d.length) ps HP3.out (fun x hx => wid_fits _ (by omega) x (chk_lt g5 x hx)) g8).1
        rw [g4] at this
        exact hno this
      have HK2 : Hid (Kp r w w2) := HK1.out.trans hK2
      clear hno hK2 HK1
      go_wp2
      exact ⟨rfl, HK2.out, .inr ⟨q, rfl, HNO.out⟩⟩
  · have HNO : Hid (∀ L : List Val, L.length = cn → (∀ x ∈ L, VK k x) → ¬ Starts (bytesOf s) p (dictB k L)) := hno
    have HK1 : Hid (Kp r w w1) := hK1
    clear hno hK1
    go_wp2
    exact ⟨rfl, HK1.out, .inr ⟨q, rfl, HNO.out⟩⟩
end Go.Proofs.Ytjidbonhhpkljaa.Ec
