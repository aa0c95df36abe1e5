/- The contracts of the code's readPresent and readColumn. -/
import Derived.Test.YtjidbonhhpkljaaDcDictD
set_option linter.unusedVariables false
namespace Go.Proofs.Ytjidbonhhpkljaa.Ec
open Go.RowKit Go.Proofs.Ytjidbonhhpkljaa.Pk Go.Proofs.Ytjidbonhhpkljaa.Pm

theorem bitV_back (L : List Val) (hok : ∀ x ∈ L, VK 2 x) : (L.map Val.n).map bitV = L := by
  rw [List.map_map]
  conv => rhs; rw [← List.map_id L]
  apply List.map_congr_left
  intro x hx
  have h := hok x hx
  have h1 := h.there
  have h2 := (h.s2 rfl).2
  cases x
  simp at h1 h2
  simp [bitV, h1, h2]
theorem bitV_forth (zs : List Int) : (zs.map bitV).map Val.n = zs := by
  rw [List.map_map]
  conv => rhs; rw [← List.map_id zs]
  rfl
theorem bitV_ok (zs : List Int) (h : Bits zs) : ∀ x ∈ zs.map bitV, VK 2 x := by
  intro x hx
  obtain ⟨z, hz, rfl⟩ := List.mem_map.1 hx
  have hb := h z hz
  exact ⟨rfl, by show _ ≤ z; omega, by show z ≤ _; omega, fun h => by omega, fun _ => ⟨hb, rfl⟩, fun h => by omega⟩
theorem vk2_bits (L : List Val) (hok : ∀ x ∈ L, VK 2 x) : Bits (L.map Val.n) := by
  intro z hz
  obtain ⟨x, hx, rfl⟩ := List.mem_map.1 hz
  exact ((hok x hx).s2 rfl).1

/-- What a reader of count values does. -/
def Reads (s : ByteArray) (r p cn : Nat) (k : Int) (E : List Val → List Nat) (w : World) (e : Ending) (w' : World) : Prop := Kp r w w' ∧
      ((∃ (l : List Val) (v : Value), e = .returned v ∧ l.length = cn ∧ (∀ x ∈ l, VK k x) ∧ Starts (bytesOf s) p (E l) ∧ (∀ L : List Val, L.length = cn → (∀ x ∈ L, VK k x) → Starts (bytesOf s) p (E L) → L = l) ∧ p + (E l).length ≤ s.size ∧
        w'.heap[r]? = some (rdr s (p + (E l).length)) ∧ w'.ownsRow w.heap.size 39 3 v l.length (vcells l)) ∨
       (∃ q, e = .panicked (badAt q) ∧ ∀ L : List Val, L.length = cn → (∀ x ∈ L, VK k x) → ¬ Starts (bytesOf s) p (E L)))

set_option maxRecDepth 100000 in
set_option maxHeartbeats 4000000 in
theorem readPresent_any (k e : Int) (he : hasEncB k e = true) (s : ByteArray) (r p cn : Nat) (w : World) (hm : s.size ≤ maxLen) (hcn : cn ≤ 100) (hp : p ≤ s.size) (h : w.heap[r]? = some (rdr s p)) :
    Calls Try.prog 80 #[.pointer (some ⟨r, 0, none⟩), .int .i64 k, .int .i64 e, .int .i64 cn] w fun x w' => Reads s r p cn k (codedB k e) w x w' := by
  obtain ⟨hk, hee⟩ := enc_kinds he
  have hrl : r < w.heap.size := lt_of_block h
  have HR : Hid (w.heap[r]? = some (rdr s p)) := h
  clear h
  rcases hee with rfl | rfl | rfl | rfl
  · have e1 : ∀ l, codedB k 0 l = plainsB k l := fun l => rfl
    have HE : Hid (codedB k 0 = plainsB k) := funext e1
    clear e1
    go_enter Try.func80, Try.ntmps80
    go_wp2_with fail
    refine (readPlain_any k hk s r p cn _ hm hcn hp HR.out).mono ?_
    intro x w1 hx
    have HX : Hid (Reads s r p cn k (codedB k 0) w x w1) := by
      show Reads _ _ _ _ _ _ _ _ _
      rw [HE.out]
      exact hx
    rcases hx with ⟨hK1, ⟨l, v, rfl, _⟩ | ⟨q, rfl, _⟩⟩
    · clear hK1
      go_wp2
      go_ret
      exact HX.out
    · clear hK1
      go_wp2
      exact ⟨rfl, HX.out⟩
  · have hk1 : k = 1 := by simp [hasEncB] at he; omega
    subst hk1
    have e1 : ∀ l, codedB 1 1 l = deltaF 0 l := fun l => rfl
    have HE : Hid (codedB 1 1 = deltaF 0) := funext e1
    clear e1
    go_enter Try.func80, Try.ntmps80
    go_wp2_with fail
    refine (readDelta_any s r p cn _ hm hcn hp HR.out).mono ?_
    intro x w1 hx
    have HX : Hid (Reads s r p cn 1 (codedB 1 1) w x w1) := by
      show Reads _ _ _ _ _ _ _ _ _
      rw [HE.out]
      exact hx
    rcases hx with ⟨hK1, ⟨l, v, rfl, _⟩ | ⟨q, rfl, _⟩⟩
    · clear hK1
      go_wp2
      go_ret
      exact HX.out
    · clear hK1
      go_wp2
      exact ⟨rfl, HX.out⟩
  · have e1 : ∀ l, codedB k 2 l = dictB k l := fun l => rfl
    have HE : Hid (codedB k 2 = dictB k) := funext e1
    clear e1
    go_enter Try.func80, Try.ntmps80
    go_wp2_with fail
    refine (readDict_any k hk s r p cn _ hm hcn hp HR.out).mono ?_
    intro x w1 hx
    have HX : Hid (Reads s r p cn k (codedB k 2) w x w1) := by
      show Reads _ _ _ _ _ _ _ _ _
      rw [HE.out]
      exact hx
    rcases hx with ⟨hK1, ⟨l, v, rfl, _⟩ | ⟨q, rfl, _⟩⟩
    · clear hK1
      go_wp2
      go_ret
      exact HX.out
    · clear hK1
      go_wp2
      exact ⟨rfl, HX.out⟩
  · have hk1 : k = 2 := by simp [hasEncB] at he; omega
    subst hk1
    have e1 : ∀ l, codedB 2 3 l = runsB (l.map Val.n) := fun l => rfl
    have HE : Hid (∀ l, codedB 2 3 l = runsB (l.map Val.n)) := e1
    clear e1
    go_enter Try.func80, Try.ntmps80
    go_wp2_with fail
    refine (readRuns_any s r p cn _ hm hcn hp HR.out).mono ?_
    rintro x w1 ⟨hK1, ⟨zs, v, rfl, hzl, hzb, hs1, hu1, hl1, hR1, hown1⟩ | ⟨q, rfl, hno⟩⟩
    · have HK1 : Hid (Kp r w w1) := hK1
      have HZB : Hid (Bits zs) := hzb
      have HS1 : Hid (Starts (bytesOf s) p (runsB zs)) := hs1
      have HU1 : Hid (∀ L : List Int, L.length = cn → Bits L → Starts (bytesOf s) p (runsB L) → L = zs) := hu1
      have HR1 : Hid (w1.heap[r]? = some (rdr s (p + (runsB zs).length))) := hR1
      have HIS : Hid (ISl w1 v zs) := ISl.of_owns hown1
      have HZL : Hid (zs.length = cn) := hzl
      have hsz := hK1.size
      clear hK1 hzb hs1 hu1 hR1 hown1 hzl HR
      go_wp2_with fail
      refine (valuesOf_any v zs _ (by rw [HZL.out]; exact hcn) HIS.out).mono ?_
      rintro x w2 ⟨hb, v2, rfl, hown2⟩
      have HB : Hid (Below w1.heap.size w1 w2) := hb
      have HO2 : Hid (w2.ownsRow w1.heap.size 39 3 v2 zs.length (vcells (zs.map bitV))) := hown2
      clear hb hown2
      go_wp2
      go_ret
      refine ⟨HK1.out.trans (Kp.of_below HB.out), .inl ⟨zs.map bitV, v2, rfl, by rw [List.length_map]; exact HZL.out, bitV_ok zs HZB.out, ?_, ?_, ?_, ?_, ?_⟩⟩
      · rw [HE.out, bitV_forth]; exact HS1.out
      · intro L hL hok hs
        rw [HE.out] at hs
        rw [← HU1.out (L.map Val.n) (by rw [List.length_map]; exact hL) (vk2_bits L hok) hs, bitV_back L hok]
      · rw [HE.out, bitV_forth]; exact hl1
      · rw [HE.out, bitV_forth, HB.out.block r (by omega)]; exact HR1.out
      · rw [List.length_map]; exact ownsRow_base HO2.out hsz
    · have HNO : Hid (∀ L : List Val, L.length = cn → (∀ x ∈ L, VK 2 x) → ¬ Starts (bytesOf s) p (codedB 2 3 L)) := by
        intro L hL hok hs
        rw [HE.out] at hs
        exact hno (L.map Val.n) (by rw [List.length_map]; exact hL) (vk2_bits L hok) hs
      have HK1 : Hid (Kp r w w1) := hK1
      clear hno hK1
      go_wp2
      exact ⟨rfl, HK1.out, .inr ⟨q, rfl, HNO.out⟩⟩

def nullV : Val := ⟨true, 0, ⟨#[]⟩⟩

/-- A column of which some values were put together. -/
structure CSt (k : Int) (zs : List Int) (pres : List Val) (j nx : Nat) (l : List Val) : Prop where
  lv : l.map lev = zs.take j
  th : there l = pres.take nx
  nx_ : nx = ones (zs.take j)
  ok : ∀ x ∈ l, VC k x

theorem ones_mono (zs : List Int) (j : Nat) : ones (zs.take j) ≤ ones zs := by
  unfold ones
  exact ((List.take_sublist j zs).filter _).length_le
theorem there_snoc (l : List Val) (x : Val) : there (l ++ [x]) = if x.null then there l else there l ++ [x] := by
  unfold there
  rw [List.filter_append]
  cases hx : x.null <;> simp [hx]
theorem CSt.null {k : Int} {zs : List Int} {pres : List Val} {j nx : Nat} {l : List Val} (h : CSt k zs pres j nx l) (hb : Bits zs) (hj : j < zs.length) (hz : zs.getD j 0 = 0) : CSt k zs pres (j + 1) nx (l ++ [nullV]) := by
  have h1 := ones_succ zs hb j hj
  rw [hz] at h1
  refine ⟨?_, ?_, ?_, ?_⟩
  · rw [List.map_append, h.lv, List.take_succ_eq_append_getElem hj, ← getD_get hj, hz]; rfl
  · rw [there_snoc]; exact h.th
  · rw [h.nx_]; omega
  · intro x hx
    rcases List.mem_append.1 hx with h2 | h2
    · exact h.ok x h2
    · simp at h2; subst h2; exact .inl ⟨rfl, rfl, rfl⟩
theorem CSt.lt {k : Int} {zs : List Int} {pres : List Val} {j nx : Nat} {l : List Val} (h : CSt k zs pres j nx l) (hb : Bits zs) (hj : j < zs.length) (hz : zs.getD j 0 ≠ 0) (hp : pres.length = ones zs) : nx < pres.length := by
  have h1 := ones_succ zs hb j hj
  have h2 := ones_mono zs (j + 1)
  have h3 := hb _ (List.getElem_mem hj)
  rw [← getD_get hj] at h3
  have h4 := h.nx_
  omega
theorem CSt.one {k : Int} {zs : List Int} {pres : List Val} {j nx : Nat} {l : List Val} (h : CSt k zs pres j nx l) (hb : Bits zs) (hj : j < zs.length) (hz : zs.getD j 0 ≠ 0) (hn : nx < pres.length) (hv : VK k pres[nx]) : CSt k zs pres (j + 1) (nx + 1) (l ++ [pres[nx]]) := by
  have h1 := ones_succ zs hb j hj
  have h3 := hb _ (List.getElem_mem hj)
  rw [← getD_get hj] at h3
  have h4 : zs.getD j 0 = 1 := by omega
  rw [h4] at h1
  refine ⟨?_, ?_, ?_, ?_⟩
  · rw [List.map_append, h.lv, List.take_succ_eq_append_getElem hj, ← getD_get hj, h4]
    congr 1
    simp [lev, hv.there]
  · rw [there_snoc, hv.there, h.th, List.take_succ_eq_append_getElem hn]; rfl
  · rw [h.nx_]; omega
  · intro x hx
    rcases List.mem_append.1 hx with h2 | h2
    · exact h.ok x h2
    · simp at h2; subst h2; exact .inr hv

set_option maxRecDepth 100000 in
set_option maxHeartbeats 4000000 in
theorem readColumn_any (k e : Int) (he : hasEncB k e = true) (s : ByteArray) (r p cn : Nat) (w : World) (hm : s.size ≤ maxLen) (hcn : cn ≤ 100) (hp : p ≤ s.size) (h : w.heap[r]? = some (rdr s p)) :
    Calls Try.prog 50 #[.pointer (some ⟨r, 0, none⟩), .int .i64 k, .int .i64 e, .int .i64 cn] w fun x w' => Kp r w w' ∧
      ((∃ (l : List Val) (v : Value), x = .returned v ∧ l.length = cn ∧ (∀ x ∈ l, VC k x) ∧ Starts (bytesOf s) p (columnB k e l) ∧ (∀ L : List Val, L.length = cn → (∀ x ∈ L, VC k x) → Starts (bytesOf s) p (columnB k e L) → L = l) ∧ p + (columnB k e l).length ≤ s.size ∧
        w'.heap[r]? = some (rdr s (p + (columnB k e l).length)) ∧ w'.ownsRow w.heap.size 39 3 v l.length (vcells l)) ∨
       (∃ q, x = .panicked (badAt q) ∧ ∀ L : List Val, L.length = cn → (∀ x ∈ L, VC k x) → ¬ Starts (bytesOf s) p (columnB k e L))) := by
  obtain ⟨j0, hj, hy0, hy1, hy2⟩ := info_parts Try.info39
  have hrl : r < w.heap.size := lt_of_block h
  have HR : Hid (w.heap[r]? = some (rdr s p)) := h
  clear h
  go_enter Try.func50, Try.ntmps50
  go_wp2_with fail
  refine (readRuns_any s r p cn _ hm hcn hp HR.out).mono ?_
  rintro x w1 ⟨hK1, ⟨zs, v, rfl, hzl, hzb, hs1, hu1, hl1, hR1, hown1⟩ | ⟨q, rfl, hno⟩⟩
  · have HK1 : Hid (Kp r w w1) := hK1
    have HZB : Hid (Bits zs) := hzb
    have HS1 : Hid (Starts (bytesOf s) p (runsB zs)) := hs1
    have HU1 : Hid (∀ L : List Int, L.length = cn → Bits L → Starts (bytesOf s) p (runsB L) → L = zs) := hu1
    have HR1 : Hid (w1.heap[r]? = some (rdr s (p + (runsB zs).length))) := hR1
    have HO1 : Hid (w1.ownsRow w.heap.size 3 1 v zs.length (icells zs)) := hown1
    have HIS : Hid (ISl w1 v zs) := ISl.of_owns hown1
    have HZL : Hid (zs.length = cn) := hzl
    have hsz1 := hK1.size
    have hon : ones zs ≤ 100 := by have := ones_le zs; omega
    have HCO : Hid (∀ w, ISl w v zs → Calls Try.prog 81 #[v] w fun e w' => e = .returned (.int .i64 ((ones zs : Nat) : Int)) ∧ w' = w) := fun w h => countOnes_any v zs w (by omega) hzb h
    have hrl1 := lt_of_block hR1
    clear hK1 hzb hs1 hu1 hR1 hown1 hzl HR
    go_wp2_with (go_at_call 81; refine (HCO.out _ HIS.out).mono ?_; rintro x w' ⟨rfl, hw⟩; rw [hw]; clear hw w')
    refine (readPresent_any k e he s r (p + (runsB zs).length) (ones zs) _ hm hon hl1 HR1.out).mono ?_
    rintro x w2 ⟨hK2, ⟨pres, v2, rfl, hpl, hpk, hs2, hu2, hl2, hR2, hown2⟩ | ⟨q, rfl, hno⟩⟩
    · have HK2 : Hid (Kp r w w2) := HK1.out.trans hK2
      have HPK : Hid (∀ x ∈ pres, VK k x) := hpk
      have HS2 : Hid (Starts (bytesOf s) (p + (runsB zs).length) (codedB k e pres)) := hs2
      have HU2 : Hid (∀ L : List Val, L.length = ones zs → (∀ x ∈ L, VK k x) → Starts (bytesOf s) (p + (runsB zs).length) (codedB k e L) → L = pres) := hu2
      have HR2 : Hid (w2.heap[r]? = some (rdr s (p + (runsB zs).length + (codedB k e pres).length))) := hR2
      have HPL : Hid (pres.length = ones zs) := hpl
      obtain ⟨iao, ib, ioff, icap, rfl, i1, i2, i3⟩ := ISl.of_owns (hK2.own HO1.out hrl)
      have HI3 : Hid (∀ j, j < zs.length → w2.cell? ⟨ib, ioff + j, none⟩ = some (.int .i64 (zs.getD j 0))) := i3
      obtain ⟨ao, b, off, cap, rfl, hvr⟩ := VSl.of_owns hown2
      have HVR : Hid (VRow w2 ao b off pres) := hvr
      have hsz2 := HK2.out.size
      have hle1 : p + (runsB zs).length + (codedB k e pres).length ≤ s.size := hl2
      clear hK2 hpk hs2 hu2 hR2 hpl hown2 i3 hvr HO1 HIS HK1 HR1 HCO hl2
      rw [HZL.out] at i1 i2
      have HI3' : Hid (∀ j, j < cn → w2.cell? ⟨ib, ioff + j, none⟩ = some (.int .i64 (zs.getD j 0))) := by
        have := HI3.out
        rw [HZL.out] at this
        exact this
      clear HI3
      rw [HZL.out]
      go_wp2_with (at_make; refine wpList_make_own _ rfl _ _ 30 rfl w2.heap.size 39 j0 _ 3 Try.underlying30 hj hy0 hy1 .i64 .i64 _ cn rfl rfl rfl (by rw [hy2]; omega) (by unfold maxLen; omega) (Nat.le_refl _) ?_; intro w3 hown3 hgrow3)
      have HB3 : Hid (Below w2.heap.size w2 w3) := (Below.refl _ _).grown hgrow3 (Nat.le_refl _) (by simp)
      clear hgrow3
      go_loopw [11, 12, 28] (fun lv nv i wr => ∃ (j nx : Nat) (l : List Val), j ≤ cn ∧ nx ≤ j ∧ i = .int .i64 (j : Int) ∧ nv = .int .i64 (nx : Int) ∧ lv = .slice (some ⟨w2.heap.size, 0, none⟩) j cn ∧ CSt k zs pres j nx l ∧ wr.ownsRow w2.heap.size 39 3 (.slice (some ⟨w2.heap.size, 0, none⟩) j cn) j (vcells l) ∧ Below w2.heap.size w2 wr) (fun _ _ i _ => cn - (intOf i).toNat)
      case atStart => exact ⟨0, 0, [], Nat.zero_le _, Nat.le_refl _, rfl, rfl, rfl, ⟨rfl, rfl, rfl, fun x hx => by simp at hx⟩, by simpa [vcells] using hown3, HB3.out⟩
      case round =>
        clear hown3 HB3
        obtain ⟨j, nx, l, hjc, hnj, rfl, rfl, rfl, hC, hown, hB⟩ := hrel
        have HB : Hid (Below w2.heap.size w2 wr) := hB
        have HC : Hid (CSt k zs pres j nx l) := hC
        have hsz := hB.size
        clear hB hC
        by_cases hlt : j < cn
        · have hjz : j < zs.length := by rw [HZL.out]; exact hlt
          obtain rfl := i1 (by omega)
          have hibl := i2 (by omega)
          have hck : wr.cell? ⟨ib, ioff + j, none⟩ = some (.int .i64 (zs.getD j 0)) := (HB.out.cell (p := ⟨ib, ioff + j, none⟩) hibl).trans (HI3'.out j hlt)
          by_cases hz : zs.getD j 0 = 0
          · have HC2 : Hid (CSt k zs pres (j + 1) nx (l ++ [nullV])) := HC.out.null HZB.out hjz hz
            rw [hz] at hck
            have HV : Hid (vcells l ++ [.bool true, .int .i64 0, .string ⟨#[]⟩] = vcells (l ++ [nullV])) := vcells_snoc l nullV
            clear hz hjz
            go_wp2_with (at_builtin; refine wpList_append_fits _ rfl _ _ 30 rfl w2.heap.size 39 j0 3 Try.underlying30 hj hy1 w2.heap.size j cn _ rfl (hown.alloc _) ⟨wr.heap.size, 0, none⟩ 1 1 [.bool true, .int .i64 0, .string ⟨#[]⟩] rfl rfl (by exact three_at _ _ _ _ _) (three_one nullV) (by omega) ?_; intro w4 hown4 hgrow4)
            have HB4 : Hid (Below w2.heap.size w2 w4) := (HB.out.alloc hsz _).grown hgrow4 (by simp; omega) (by intro g hg; simp at hg; omega)
            rw [HV.out] at hown4
            clear hown hgrow4 HB hck
            refine ⟨⟨j + 1, nx, l ++ [nullV], by omega, by omega, by go_num, rfl, rfl, HC2.out, hown4, HB4.out⟩, by simp [intOf]; omega⟩
          · have hnp := HC.out.lt HZB.out hjz hz HPL.out
            have hz1 : zs.getD j 0 = 1 := by
              have h3 := HZB.out _ (List.getElem_mem hjz)
              rw [← getD_get hjz] at h3
              omega
            have HC2 : Hid (CSt k zs pres (j + 1) (nx + 1) (l ++ [pres[nx]])) := HC.out.one HZB.out hjz hz hnp (HPK.out _ (List.getElem_mem hnp))
            rw [hz1] at hck
            have hr := HVR.out.below HB.out
            obtain rfl := hr.addr (by omega)
            have p0 := hr.c0 nx hnp
            have p1 := hr.c1 nx hnp
            have p2 := hr.c2 nx hnp
            have HV : Hid (vcells l ++ [.bool pres[nx].null, .int .i64 pres[nx].n, .string pres[nx].s] = vcells (l ++ [pres[nx]])) := vcells_snoc l _
            clear hz hz1 hjz hr
            generalize pres[nx] = y at *
            go_wp2_with (at_builtin; refine wpList_append_fits _ rfl _ _ 30 rfl w2.heap.size 39 j0 3 Try.underlying30 hj hy1 w2.heap.size j cn _ rfl (hown.alloc _) ⟨wr.heap.size, 0, none⟩ 1 1 [.bool y.null, .int .i64 y.n, .string y.s] rfl rfl (by exact three_at _ _ _ _ _) (three_one y) (by omega) ?_; intro w4 hown4 hgrow4)
            have HB4 : Hid (Below w2.heap.size w2 w4) := (HB.out.alloc hsz _).grown hgrow4 (by simp; omega) (by intro g hg; simp at hg; omega)
            rw [HV.out] at hown4
            clear hown hgrow4 HB hck p0 p1 p2
            refine ⟨⟨j + 1, nx + 1, l ++ [y], by omega, by omega, by go_num, by go_num, rfl, HC2.out, hown4, HB4.out⟩, by simp [intOf]; omega⟩
        · obtain rfl : j = cn := by omega
          have htk : zs.take j = zs := List.take_of_length_le (by rw [HZL.out]; omega)
          have c1 := HC.out.lv
          have c2 := HC.out.th
          have c3 := HC.out.nx_
          rw [htk] at c1 c3
          rw [c3, ← HPL.out, List.take_length] at c2
          have hll : l.length = j := by rw [← HZL.out, ← c1, List.length_map]
          obtain ⟨g1, g2⟩ := column_good (k := k) (e := e) (s := s) (p := p) (cn := j) (l := l) hll HC.out.ok (by rw [c1]; exact HS1.out) (by rw [c1]; exact HU1.out) (by rw [c1, c2]; exact HS2.out) (by rw [c1, c2]; exact HU2.out)
          have HG1 : Hid (Starts (bytesOf s) p (columnB k e l)) := g1
          have HG2 : Hid (∀ L : List Val, L.length = j → (∀ x ∈ L, VC k x) → Starts (bytesOf s) p (columnB k e L) → L = l) := g2
          have HLN : Hid (p + (columnB k e l).length = p + (runsB zs).length + (codedB k e pres).length) := by
            show _ = _
            unfold columnB
            rw [List.length_append, c1, c2, Nat.add_assoc]
          have HLL : Hid (l.length = j) := hll
          clear g1 g2 c1 c2 c3 htk hll
          go_wp2
          go_ret
          exact ⟨HK2.out.trans (Kp.of_below HB.out), .inl ⟨l, _, rfl, HLL.out, HC.out.ok, HG1.out, HG2.out, by rw [HLN.out]; exact hle1, by rw [HLN.out, HB.out.block r (by omega)]; exact HR2.out, by rw [HLL.out]; exact ownsRow_base hown hsz2⟩⟩
    · have HNO : Hid (∀ L : List Val, L.length = cn → (∀ x ∈ L, VC k x) → ¬ Starts (bytesOf s) p (columnB k e L)) := by
        intro L hL hok hs
        unfold columnB at hs
        rw [starts_append] at hs
        have e1 := HU1.out (L.map lev) (by rw [List.length_map]; exact hL) (lev_bits L) hs.1
        rw [e1] at hs
        exact hno (there L) (by rw [there_ones, e1]) (there_vk hok) hs.2
      have HK2 : Hid (Kp r w w2) := HK1.out.trans hK2
      clear hno hK2 HK1
      go_wp2
      exact ⟨rfl, HK2.out, .inr ⟨q, rfl, HNO.out⟩⟩
  · have HNO : Hid (∀ L : List Val, L.length = cn → (∀ x ∈ L, VC k x) → ¬ Starts (bytesOf s) p (columnB k e L)) := by
      intro L hL hok hs
      unfold columnB at hs
      rw [starts_append] at hs
      exact hno (L.map lev) (by rw [List.length_map]; exact hL) (lev_bits L) hs.1
    have HK1 : Hid (Kp r w w1) := hK1
    clear hno hK1
    go_wp2
    exact ⟨rfl, HK1.out, .inr ⟨q, rfl, HNO.out⟩⟩
end Go.Proofs.Ytjidbonhhpkljaa.Ec
