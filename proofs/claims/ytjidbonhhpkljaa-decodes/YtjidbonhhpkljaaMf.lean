/- What the proof stands on: DcColumnD, DrVals, DrDict, DcWhole, DcDecode, DcBackA, DrValues, DrDecode. -/
import Derived.Test.YtjidbonhhpkljaaMe
import Derived.WalkSpells

/- The contracts of the code's readPresent and readColumn. -/
set_option linter.unusedVariables false
namespace Go.Proofs.Ytjidbonhhpkljaa.Ec
open Go.RowKit Go.Proofs.Ytjidbonhhpkljaa.Pk Go.Proofs.Ytjidbonhhpkljaa.Pm

theorem bitV_back (L : List Val) (hok : ∀ x ∈ L, VK 2 x) : (L.map Val.n).map bitV = L := by
  rw [List.map_map]
  conv => rhs; rw [← List.map_id L]
  apply List.map_congr_left
  intro x hx
  have h := hok x hx
  have h1 := h.there
  have h2 := (h.s2 rfl).2
  cases x
  simp at h1 h2
  simp [bitV, h1, h2]
theorem bitV_forth (zs : List Int) : (zs.map bitV).map Val.n = zs := by
  rw [List.map_map]
  conv => rhs; rw [← List.map_id zs]
  rfl
theorem bitV_ok (zs : List Int) (h : Bits zs) : ∀ x ∈ zs.map bitV, VK 2 x := by
  intro x hx
  obtain ⟨z, hz, rfl⟩ := List.mem_map.1 hx
  have hb := h z hz
  exact ⟨rfl, by show _ ≤ z; omega, by show z ≤ _; omega, fun h => by omega, fun _ => ⟨hb, rfl⟩, fun h => by omega⟩
theorem vk2_bits (L : List Val) (hok : ∀ x ∈ L, VK 2 x) : Bits (L.map Val.n) := by
  intro z hz
  obtain ⟨x, hx, rfl⟩ := List.mem_map.1 hz
  exact ((hok x hx).s2 rfl).1

/-- What a reader of count values does. -/
def Reads (s : ByteArray) (r p cn : Nat) (k : Int) (E : List Val → List Nat) (w : World) (e : Ending) (w' : World) : Prop := Kp r w w' ∧
      ((∃ (l : List Val) (v : Value), e = .returned v ∧ l.length = cn ∧ (∀ x ∈ l, VK k x) ∧ Starts (bytesOf s) p (E l) ∧ (∀ L : List Val, L.length = cn → (∀ x ∈ L, VK k x) → Starts (bytesOf s) p (E L) → L = l) ∧ p + (E l).length ≤ s.size ∧
        w'.heap[r]? = some (rdr s (p + (E l).length)) ∧ w'.ownsRow w.heap.size 39 3 v l.length (vcells l)) ∨
       (∃ q, e = .panicked (badAt q) ∧ ∀ L : List Val, L.length = cn → (∀ x ∈ L, VK k x) → ¬ Starts (bytesOf s) p (E L)))

set_option maxRecDepth 100000 in
set_option maxHeartbeats 4000000 in
theorem readPresent_any (k e : Int) (he : hasEncB k e = true) (s : ByteArray) (r p cn : Nat) (w : World) (hm : s.size ≤ maxLen) (hcn : cn ≤ 100) (hp : p ≤ s.size) (h : w.heap[r]? = some (rdr s p)) :
    Calls Try.prog 80 #[.pointer (some ⟨r, 0, none⟩), .int .i64 k, .int .i64 e, .int .i64 cn] w fun x w' => Reads s r p cn k (codedB k e) w x w' := by
  obtain ⟨hk, hee⟩ := enc_kinds he
  have hrl : r < w.heap.size := lt_of_block h
  have HR : Hid (w.heap[r]? = some (rdr s p)) := h
  clear h
  rcases hee with rfl | rfl | rfl | rfl
  · have e1 : ∀ l, codedB k 0 l = plainsB k l := fun l => rfl
    have HE : Hid (codedB k 0 = plainsB k) := funext e1
    clear e1
    go_enter Try.func80, Try.ntmps80
    go_wp2_with fail
    refine (readPlain_any k hk s r p cn _ hm hcn hp HR.out).mono ?_
    intro x w1 hx
    have HX : Hid (Reads s r p cn k (codedB k 0) w x w1) := by
      show Reads _ _ _ _ _ _ _ _ _
      rw [HE.out]
      exact hx
    rcases hx with ⟨hK1, ⟨l, v, rfl, _⟩ | ⟨q, rfl, _⟩⟩
    · clear hK1
      go_wp2
      go_ret
      exact HX.out
    · clear hK1
      go_wp2
      exact ⟨rfl, HX.out⟩
  · have hk1 : k = 1 := by simp [hasEncB] at he; omega
    subst hk1
    have e1 : ∀ l, codedB 1 1 l = deltaF 0 l := fun l => rfl
    have HE : Hid (codedB 1 1 = deltaF 0) := funext e1
    clear e1
    go_enter Try.func80, Try.ntmps80
    go_wp2_with fail
    refine (readDelta_any s r p cn _ hm hcn hp HR.out).mono ?_
    intro x w1 hx
    have HX : Hid (Reads s r p cn 1 (codedB 1 1) w x w1) := by
      show Reads _ _ _ _ _ _ _ _ _
      rw [HE.out]
      exact hx
    rcases hx with ⟨hK1, ⟨l, v, rfl, _⟩ | ⟨q, rfl, _⟩⟩
    · clear hK1
      go_wp2
      go_ret
      exact HX.out
    · clear hK1
      go_wp2
      exact ⟨rfl, HX.out⟩
  · have e1 : ∀ l, codedB k 2 l = dictB k l := fun l => rfl
    have HE : Hid (codedB k 2 = dictB k) := funext e1
    clear e1
    go_enter Try.func80, Try.ntmps80
    go_wp2_with fail
    refine (readDict_any k hk s r p cn _ hm hcn hp HR.out).mono ?_
    intro x w1 hx
    have HX : Hid (Reads s r p cn k (codedB k 2) w x w1) := by
      show Reads _ _ _ _ _ _ _ _ _
      rw [HE.out]
      exact hx
    rcases hx with ⟨hK1, ⟨l, v, rfl, _⟩ | ⟨q, rfl, _⟩⟩
    · clear hK1
      go_wp2
      go_ret
      exact HX.out
    · clear hK1
      go_wp2
      exact ⟨rfl, HX.out⟩
  · have hk1 : k = 2 := by simp [hasEncB] at he; omega
    subst hk1
    have e1 : ∀ l, codedB 2 3 l = runsB (l.map Val.n) := fun l => rfl
    have HE : Hid (∀ l, codedB 2 3 l = runsB (l.map Val.n)) := e1
    clear e1
    go_enter Try.func80, Try.ntmps80
    go_wp2_with fail
    refine (readRuns_any s r p cn _ hm hcn hp HR.out).mono ?_
    rintro x w1 ⟨hK1, ⟨zs, v, rfl, hzl, hzb, hs1, hu1, hl1, hR1, hown1⟩ | ⟨q, rfl, hno⟩⟩
    · have HK1 : Hid (Kp r w w1) := hK1
      have HZB : Hid (Bits zs) := hzb
      have HS1 : Hid (Starts (bytesOf s) p (runsB zs)) := hs1
      have HU1 : Hid (∀ L : List Int, L.length = cn → Bits L → Starts (bytesOf s) p (runsB L) → L = zs) := hu1
      have HR1 : Hid (w1.heap[r]? = some (rdr s (p + (runsB zs).length))) := hR1
      have HIS : Hid (ISl w1 v zs) := ISl.of_owns hown1
      have HZL : Hid (zs.length = cn) := hzl
      have hsz := hK1.size
      clear hK1 hzb hs1 hu1 hR1 hown1 hzl HR
      go_wp2_with fail
      refine (valuesOf_any v zs _ (by rw [HZL.out]; exact hcn) HIS.out).mono ?_
      rintro x w2 ⟨hb, v2, rfl, hown2⟩
      have HB : Hid (Below w1.heap.size w1 w2) := hb
      have HO2 : Hid (w2.ownsRow w1.heap.size 39 3 v2 zs.length (vcells (zs.map bitV))) := hown2
      clear hb hown2
      go_wp2
      go_ret
      refine ⟨HK1.out.trans (Kp.of_below HB.out), .inl ⟨zs.map bitV, v2, rfl, by rw [List.length_map]; exact HZL.out, bitV_ok zs HZB.out, ?_, ?_, ?_, ?_, ?_⟩⟩
      · rw [HE.out, bitV_forth]; exact HS1.out
      · intro L hL hok hs
        rw [HE.out] at hs
        rw [← HU1.out (L.map Val.n) (by rw [List.length_map]; exact hL) (vk2_bits L hok) hs, bitV_back L hok]
      · rw [HE.out, bitV_forth]; exact hl1
      · rw [HE.out, bitV_forth, HB.out.block r (by omega)]; exact HR1.out
      · rw [List.length_map]; exact ownsRow_base HO2.out hsz
    · have HNO : Hid (∀ L : List Val, L.length = cn → (∀ x ∈ L, VK 2 x) → ¬ Starts (bytesOf s) p (codedB 2 3 L)) := by
        intro L hL hok hs
        rw [HE.out] at hs
        exact hno (L.map Val.n) (by rw [List.length_map]; exact hL) (vk2_bits L hok) hs
      have HK1 : Hid (Kp r w w1) := hK1
      clear hno hK1
      go_wp2
      exact ⟨rfl, HK1.out, .inr ⟨q, rfl, HNO.out⟩⟩

def nullV : Val := ⟨true, 0, ⟨#[]⟩⟩

/-- A column of which some values were put together. -/
structure CSt (k : Int) (zs : List Int) (pres : List Val) (j nx : Nat) (l : List Val) : Prop where
  lv : l.map lev = zs.take j
  th : there l = pres.take nx
  nx_ : nx = ones (zs.take j)
  ok : ∀ x ∈ l, VC k x

theorem ones_mono (zs : List Int) (j : Nat) : ones (zs.take j) ≤ ones zs := by
  unfold ones
  exact ((List.take_sublist j zs).filter _).length_le
theorem there_snoc (l : List Val) (x : Val) : there (l ++ [x]) = if x.null then there l else there l ++ [x] := by
  unfold there
  rw [List.filter_append]
  cases hx : x.null <;> simp [hx]
theorem CSt.null {k : Int} {zs : List Int} {pres : List Val} {j nx : Nat} {l : List Val} (h : CSt k zs pres j nx l) (hb : Bits zs) (hj : j < zs.length) (hz : zs.getD j 0 = 0) : CSt k zs pres (j + 1) nx (l ++ [nullV]) := by
  have h1 := ones_succ zs hb j hj
  rw [hz] at h1
  refine ⟨?_, ?_, ?_, ?_⟩
  · rw [List.map_append, h.lv, List.take_succ_eq_append_getElem hj, ← getD_get hj, hz]; rfl
  · rw [there_snoc]; exact h.th
  · rw [h.nx_]; omega
  · intro x hx
    rcases List.mem_append.1 hx with h2 | h2
    · exact h.ok x h2
    · simp at h2; subst h2; exact .inl ⟨rfl, rfl, rfl⟩
theorem CSt.lt {k : Int} {zs : List Int} {pres : List Val} {j nx : Nat} {l : List Val} (h : CSt k zs pres j nx l) (hb : Bits zs) (hj : j < zs.length) (hz : zs.getD j 0 ≠ 0) (hp : pres.length = ones zs) : nx < pres.length := by
  have h1 := ones_succ zs hb j hj
  have h2 := ones_mono zs (j + 1)
  have h3 := hb _ (List.getElem_mem hj)
  rw [← getD_get hj] at h3
  have h4 := h.nx_
  omega
theorem CSt.one {k : Int} {zs : List Int} {pres : List Val} {j nx : Nat} {l : List Val} (h : CSt k zs pres j nx l) (hb : Bits zs) (hj : j < zs.length) (hz : zs.getD j 0 ≠ 0) (hn : nx < pres.length) (hv : VK k pres[nx]) : CSt k zs pres (j + 1) (nx + 1) (l ++ [pres[nx]]) := by
  have h1 := ones_succ zs hb j hj
  have h3 := hb _ (List.getElem_mem hj)
  rw [← getD_get hj] at h3
  have h4 : zs.getD j 0 = 1 := by omega
  rw [h4] at h1
  refine ⟨?_, ?_, ?_, ?_⟩
  · rw [List.map_append, h.lv, List.take_succ_eq_append_getElem hj, ← getD_get hj, h4]
    congr 1
    simp [lev, hv.there]
  · rw [there_snoc, hv.there, h.th, List.take_succ_eq_append_getElem hn]; rfl
  · rw [h.nx_]; omega
  · intro x hx
    rcases List.mem_append.1 hx with h2 | h2
    · exact h.ok x h2
    · simp at h2; subst h2; exact .inr hv

set_option maxRecDepth 100000 in
set_option maxHeartbeats 4000000 in
theorem readColumn_any (k e : Int) (he : hasEncB k e = true) (s : ByteArray) (r p cn : Nat) (w : World) (hm : s.size ≤ maxLen) (hcn : cn ≤ 100) (hp : p ≤ s.size) (h : w.heap[r]? = some (rdr s p)) :
    Calls Try.prog 50 #[.pointer (some ⟨r, 0, none⟩), .int .i64 k, .int .i64 e, .int .i64 cn] w fun x w' => Kp r w w' ∧
      ((∃ (l : List Val) (v : Value), x = .returned v ∧ l.length = cn ∧ (∀ x ∈ l, VC k x) ∧ Starts (bytesOf s) p (columnB k e l) ∧ (∀ L : List Val, L.length = cn → (∀ x ∈ L, VC k x) → Starts (bytesOf s) p (columnB k e L) → L = l) ∧ p + (columnB k e l).length ≤ s.size ∧
        w'.heap[r]? = some (rdr s (p + (columnB k e l).length)) ∧ w'.ownsRow w.heap.size 39 3 v l.length (vcells l)) ∨
       (∃ q, x = .panicked (badAt q) ∧ ∀ L : List Val, L.length = cn → (∀ x ∈ L, VC k x) → ¬ Starts (bytesOf s) p (columnB k e L))) := by
  obtain ⟨j0, hj, hy0, hy1, hy2⟩ := info_parts Try.info39
  have hrl : r < w.heap.size := lt_of_block h
  have HR : Hid (w.heap[r]? = some (rdr s p)) := h
  clear h
  go_enter Try.func50, Try.ntmps50
  go_wp2_with fail
  refine (readRuns_any s r p cn _ hm hcn hp HR.out).mono ?_
  rintro x w1 ⟨hK1, ⟨zs, v, rfl, hzl, hzb, hs1, hu1, hl1, hR1, hown1⟩ | ⟨q, rfl, hno⟩⟩
  · have HK1 : Hid (Kp r w w1) := hK1
    have HZB : Hid (Bits zs) := hzb
    have HS1 : Hid (Starts (bytesOf s) p (runsB zs)) := hs1
    have HU1 : Hid (∀ L : List Int, L.length = cn → Bits L → Starts (bytesOf s) p (runsB L) → L = zs) := hu1
    have HR1 : Hid (w1.heap[r]? = some (rdr s (p + (runsB zs).length))) := hR1
    have HO1 : Hid (w1.ownsRow w.heap.size 3 1 v zs.length (icells zs)) := hown1
    have HIS : Hid (ISl w1 v zs) := ISl.of_owns hown1
    have HZL : Hid (zs.length = cn) := hzl
    have hsz1 := hK1.size
    have hon : ones zs ≤ 100 := by have := ones_le zs; omega
    have HCO : Hid (∀ w, ISl w v zs → Calls Try.prog 81 #[v] w fun e w' => e = .returned (.int .i64 ((ones zs : Nat) : Int)) ∧ w' = w) := fun w h => countOnes_any v zs w (by omega) hzb h
    have hrl1 := lt_of_block hR1
    clear hK1 hzb hs1 hu1 hR1 hown1 hzl HR
    go_wp2_with (go_at_call 81; refine (HCO.out _ HIS.out).mono ?_; rintro x w' ⟨rfl, hw⟩; rw [hw]; clear hw w')
    refine (readPresent_any k e he s r (p + (runsB zs).length) (ones zs) _ hm hon hl1 HR1.out).mono ?_
    rintro x w2 ⟨hK2, ⟨pres, v2, rfl, hpl, hpk, hs2, hu2, hl2, hR2, hown2⟩ | ⟨q, rfl, hno⟩⟩
    · have HK2 : Hid (Kp r w w2) := HK1.out.trans hK2
      have HPK : Hid (∀ x ∈ pres, VK k x) := hpk
      have HS2 : Hid (Starts (bytesOf s) (p + (runsB zs).length) (codedB k e pres)) := hs2
      have HU2 : Hid (∀ L : List Val, L.length = ones zs → (∀ x ∈ L, VK k x) → Starts (bytesOf s) (p + (runsB zs).length) (codedB k e L) → L = pres) := hu2
      have HR2 : Hid (w2.heap[r]? = some (rdr s (p + (runsB zs).length + (codedB k e pres).length))) := hR2
      have HPL : Hid (pres.length = ones zs) := hpl
      obtain ⟨iao, ib, ioff, icap, rfl, i1, i2, i3⟩ := ISl.of_owns (hK2.own HO1.out hrl)
      have HI3 : Hid (∀ j, j < zs.length → w2.cell? ⟨ib, ioff + j, none⟩ = some (.int .i64 (zs.getD j 0))) := i3
      obtain ⟨ao, b, off, cap, rfl, hvr⟩ := VSl.of_owns hown2
      have HVR : Hid (VRow w2 ao b off pres) := hvr
      have hsz2 := HK2.out.size
      have hle1 : p + (runsB zs).length + (codedB k e pres).length ≤ s.size := hl2
      clear hK2 hpk hs2 hu2 hR2 hpl hown2 i3 hvr HO1 HIS HK1 HR1 HCO hl2
      rw [HZL.out] at i1 i2
      have HI3' : Hid (∀ j, j < cn → w2.cell? ⟨ib, ioff + j, none⟩ = some (.int .i64 (zs.getD j 0))) := by
        have := HI3.out
        rw [HZL.out] at this
        exact this
      clear HI3
      rw [HZL.out]
      go_wp2_with (at_make; refine wpList_make_own _ rfl _ _ 30 rfl w2.heap.size 39 j0 _ 3 Try.underlying30 hj hy0 hy1 .i64 .i64 _ cn rfl rfl rfl (by rw [hy2]; omega) (by unfold maxLen; omega) (Nat.le_refl _) ?_; intro w3 hown3 hgrow3)
      have HB3 : Hid (Below w2.heap.size w2 w3) := (Below.refl _ _).grown hgrow3 (Nat.le_refl _) (by simp)
      clear hgrow3
      go_loopw [11, 12, 28] (fun lv nv i wr => ∃ (j nx : Nat) (l : List Val), j ≤ cn ∧ nx ≤ j ∧ i = .int .i64 (j : Int) ∧ nv = .int .i64 (nx : Int) ∧ lv = .slice (some ⟨w2.heap.size, 0, none⟩) j cn ∧ CSt k zs pres j nx l ∧ wr.ownsRow w2.heap.size 39 3 (.slice (some ⟨w2.heap.size, 0, none⟩) j cn) j (vcells l) ∧ Below w2.heap.size w2 wr) (fun _ _ i _ => cn - (intOf i).toNat)
      case atStart => exact ⟨0, 0, [], Nat.zero_le _, Nat.le_refl _, rfl, rfl, rfl, ⟨rfl, rfl, rfl, fun x hx => by simp at hx⟩, by simpa [vcells] using hown3, HB3.out⟩
      case round =>
        clear hown3 HB3
        obtain ⟨j, nx, l, hjc, hnj, rfl, rfl, rfl, hC, hown, hB⟩ := hrel
        have HB : Hid (Below w2.heap.size w2 wr) := hB
        have HC : Hid (CSt k zs pres j nx l) := hC
        have hsz := hB.size
        clear hB hC
        by_cases hlt : j < cn
        · have hjz : j < zs.length := by rw [HZL.out]; exact hlt
          obtain rfl := i1 (by omega)
          have hibl := i2 (by omega)
          have hck : wr.cell? ⟨ib, ioff + j, none⟩ = some (.int .i64 (zs.getD j 0)) := (HB.out.cell (p := ⟨ib, ioff + j, none⟩) hibl).trans (HI3'.out j hlt)
          by_cases hz : zs.getD j 0 = 0
          · have HC2 : Hid (CSt k zs pres (j + 1) nx (l ++ [nullV])) := HC.out.null HZB.out hjz hz
            rw [hz] at hck
            have HV : Hid (vcells l ++ [.bool true, .int .i64 0, .string ⟨#[]⟩] = vcells (l ++ [nullV])) := vcells_snoc l nullV
            clear hz hjz
            go_wp2_with (at_builtin; refine wpList_append_fits _ rfl _ _ 30 rfl w2.heap.size 39 j0 3 Try.underlying30 hj hy1 w2.heap.size j cn _ rfl (hown.alloc _) ⟨wr.heap.size, 0, none⟩ 1 1 [.bool true, .int .i64 0, .string ⟨#[]⟩] rfl rfl (by exact three_at _ _ _ _ _) (three_one nullV) (by omega) ?_; intro w4 hown4 hgrow4)
            have HB4 : Hid (Below w2.heap.size w2 w4) := (HB.out.alloc hsz _).grown hgrow4 (by simp; omega) (by intro g hg; simp at hg; omega)
            rw [HV.out] at hown4
            clear hown hgrow4 HB hck
            refine ⟨⟨j + 1, nx, l ++ [nullV], by omega, by omega, by go_num, rfl, rfl, HC2.out, hown4, HB4.out⟩, by simp [intOf]; omega⟩
          · have hnp := HC.out.lt HZB.out hjz hz HPL.out
            have hz1 : zs.getD j 0 = 1 := by
              have h3 := HZB.out _ (List.getElem_mem hjz)
              rw [← getD_get hjz] at h3
              omega
            have HC2 : Hid (CSt k zs pres (j + 1) (nx + 1) (l ++ [pres[nx]])) := HC.out.one HZB.out hjz hz hnp (HPK.out _ (List.getElem_mem hnp))
            rw [hz1] at hck
            have hr := HVR.out.below HB.out
            obtain rfl := hr.addr (by omega)
            have p0 := hr.c0 nx hnp
            have p1 := hr.c1 nx hnp
            have p2 := hr.c2 nx hnp
            have HV : Hid (vcells l ++ [.bool pres[nx].null, .int .i64 pres[nx].n, .string pres[nx].s] = vcells (l ++ [pres[nx]])) := vcells_snoc l _
            clear hz hz1 hjz hr
            generalize pres[nx] = y at *
            go_wp2_with (at_builtin; refine wpList_append_fits _ rfl _ _ 30 rfl w2.heap.size 39 j0 3 Try.underlying30 hj hy1 w2.heap.size j cn _ rfl (hown.alloc _) ⟨wr.heap.size, 0, none⟩ 1 1 [.bool y.null, .int .i64 y.n, .string y.s] rfl rfl (by exact three_at _ _ _ _ _) (three_one y) (by omega) ?_; intro w4 hown4 hgrow4)
            have HB4 : Hid (Below w2.heap.size w2 w4) := (HB.out.alloc hsz _).grown hgrow4 (by simp; omega) (by intro g hg; simp at hg; omega)
            rw [HV.out] at hown4
            clear hown hgrow4 HB hck p0 p1 p2
            refine ⟨⟨j + 1, nx + 1, l ++ [y], by omega, by omega, by go_num, by go_num, rfl, HC2.out, hown4, HB4.out⟩, by simp [intOf]; omega⟩
        · obtain rfl : j = cn := by omega
          have htk : zs.take j = zs := List.take_of_length_le (by rw [HZL.out]; omega)
          have c1 := HC.out.lv
          have c2 := HC.out.th
          have c3 := HC.out.nx_
          rw [htk] at c1 c3
          rw [c3, ← HPL.out, List.take_length] at c2
          have hll : l.length = j := by rw [← HZL.out, ← c1, List.length_map]
          obtain ⟨g1, g2⟩ := column_good (k := k) (e := e) (s := s) (p := p) (cn := j) (l := l) hll HC.out.ok (by rw [c1]; exact HS1.out) (by rw [c1]; exact HU1.out) (by rw [c1, c2]; exact HS2.out) (by rw [c1, c2]; exact HU2.out)
          have HG1 : Hid (Starts (bytesOf s) p (columnB k e l)) := g1
          have HG2 : Hid (∀ L : List Val, L.length = j → (∀ x ∈ L, VC k x) → Starts (bytesOf s) p (columnB k e L) → L = l) := g2
          have HLN : Hid (p + (columnB k e l).length = p + (runsB zs).length + (codedB k e pres).length) := by
            show _ = _
            unfold columnB
            rw [List.length_append, c1, c2, Nat.add_assoc]
          have HLL : Hid (l.length = j) := hll
          clear g1 g2 c1 c2 c3 htk hll
          go_wp2
          go_ret
          exact ⟨HK2.out.trans (Kp.of_below HB.out), .inl ⟨l, _, rfl, HLL.out, HC.out.ok, HG1.out, HG2.out, by rw [HLN.out]; exact hle1, by rw [HLN.out, HB.out.block r (by omega)]; exact HR2.out, by rw [HLL.out]; exact ownsRow_base hown hsz2⟩⟩
    · have HNO : Hid (∀ L : List Val, L.length = cn → (∀ x ∈ L, VC k x) → ¬ Starts (bytesOf s) p (columnB k e L)) := by
        intro L hL hok hs
        unfold columnB at hs
        rw [starts_append] at hs
        have e1 := HU1.out (L.map lev) (by rw [List.length_map]; exact hL) (lev_bits L) hs.1
        rw [e1] at hs
        exact hno (there L) (by rw [there_ones, e1]) (there_vk hok) hs.2
      have HK2 : Hid (Kp r w w2) := HK1.out.trans hK2
      clear hno hK2 HK1
      go_wp2
      exact ⟨rfl, HK2.out, .inr ⟨q, rfl, HNO.out⟩⟩
  · have HNO : Hid (∀ L : List Val, L.length = cn → (∀ x ∈ L, VC k x) → ¬ Starts (bytesOf s) p (columnB k e L)) := by
      intro L hL hok hs
      unfold columnB at hs
      rw [starts_append] at hs
      exact hno (L.map lev) (by rw [List.length_map]; exact hL) (lev_bits L) hs.1
    have HK1 : Hid (Kp r w w1) := hK1
    clear hno hK1
    go_wp2
    exact ⟨rfl, HK1.out, .inr ⟨q, rfl, HNO.out⟩⟩
end Go.Proofs.Ytjidbonhhpkljaa.Ec

/- The document's reader: values by Plain, Delta and Runs. -/
set_option linter.unusedVariables false
namespace Go.Proofs.Ytjidbonhhpkljaa.Ec
open Go.RowKit Go.Proofs.Ytjidbonhhpkljaa.Pk Go.Proofs.Ytjidbonhhpkljaa.Pm

/-- What the document's values answers. -/
def RVals (s : ByteArray) (r p cn : Nat) (k e : Int) (w : World) (x : Ending) (w' : World) : Prop := Kp r w w' ∧ ∃ (l : List Val) (v : Value), x = .returned v ∧ l.length ≤ 200 ∧ (∀ y ∈ l, VR y) ∧ w'.ownsRow w.heap.size 39 3 v l.length (vcells l) ∧
  RAt s r w' (fun q b => ∀ L : List Val, L.length = cn → (∀ y ∈ L, VK k y) → Starts (bytesOf s) p (codedB k e L) → l = L ∧ b = false)

set_option maxRecDepth 100000 in
set_option maxHeartbeats 4000000 in
theorem rvals0 (k : Int) (hk : k = 1 ∨ k = 2 ∨ k = 3) (s : ByteArray) (r p cn : Nat) (w : World) (hm : s.size ≤ maxLen) (hcn : cn ≤ 100) (hp : p ≤ s.size) (h : w.heap[r]? = some (rb s p false)) :
    Calls Try.prog 109 #[.pointer (some ⟨r, 0, none⟩), .int .i64 k, .int .i64 0, .int .i64 cn] w fun x w' => RVals s r p cn k 0 w x w' := by
  obtain ⟨j0, hj, hy0, hy1, hy2⟩ := info_parts Try.info39
  have hrl : r < w.heap.size := lt_of_block h
  have HR : Hid (w.heap[r]? = some (rb s p false)) := h
  clear h
  go_enter Try.func109, Try.ntmps109
  go_wp2_with fail
  go_loopw [9, 10] (fun lv i wr => ∃ (l : List Val) (q : Nat) (b : Bool), l.length ≤ cn ∧ i = .int .i64 (l.length : Int) ∧ (∀ y ∈ l, VR y) ∧ wr.ownsRow w.heap.size 39 3 lv l.length (vcells l) ∧ q ≤ s.size ∧ wr.heap[r]? = some (rb s q b) ∧ Kp r w wr ∧
      ((∃ L : List Val, L.length = cn ∧ (∀ y ∈ L, VK k y) ∧ Starts (bytesOf s) p (plainsB k L)) → QSt (plainsB k) (VK k) (bytesOf s) p cn l ∧ q = p + (plainsB k l).length ∧ b = false)) (fun _ i _ => cn - (intOf i).toNat)
  case atStart => exact ⟨[], p, false, Nat.zero_le _, rfl, fun y hy => by simp at hy, World.ownsRow_nil _ _ _ _, hp, HR.out, Kp.refl _ _, fun _ => ⟨QSt.zero rfl, by simp [plainsB], rfl⟩⟩
  case round =>
    clear HR
    obtain ⟨l, q, b, hlc, rfl, hvr, hown, hq, hR, hK, hG⟩ := hrel
    have HVR : Hid (∀ y ∈ l, VR y) := hvr
    have HRR : Hid (wr.heap[r]? = some (rb s q b)) := hR
    have HK : Hid (Kp r w wr) := hK
    have HG : Hid ((∃ L : List Val, L.length = cn ∧ (∀ y ∈ L, VK k y) ∧ Starts (bytesOf s) p (plainsB k L)) → QSt (plainsB k) (VK k) (bytesOf s) p cn l ∧ q = p + (plainsB k l).length ∧ b = false) := hG
    have hsz := hK.size
    clear hvr hR hK hG
    by_cases hlt : l.length < cn
    · go_wp2_with (first
        | (go_at_call 128; refine (rone_any k hk r q b s wr hm hq HRR.out).mono ?_; rintro x w1 ⟨hK1, y, rfl, hy, hAt⟩; have hown1 := hK1.own hown hrl; have hsz1 := hK1.size; have HK1 : Hid (Kp r w w1) := HK.out.trans hK1; have HY : Hid (VR y) := hy; have HAT : Hid (RAt s r w1 _) := hAt; clear hy hAt hK1)
        | (at_builtin; refine wpList_append_keep _ rfl _ _ 30 rfl w.heap.size 39 j0 _ 3 32 Try.underlying30 hj hy0 hy1 hy2 rfl (by decide) _ l.length _ rfl ((hown1.alloc _).alloc _) ⟨w1.heap.size + 1, 0, none⟩ 1 1 [.bool y.null, .int .i64 y.n, .string y.s] rfl (by decide) rfl (by simpa using three_at (w1.alloc _) _ _ _ _) (three_one y) (by unfold maxLen; omega) (by omega) (by simp; omega) ?_; intro v2 w2 hown2 hgr2))
      have hg := Grew.box (Grew.append hgr2)
      rw [vcells_snoc] at hown2
      obtain ⟨q1, b1, hq1, hR1, hu⟩ := HAT.out
      have hR2 : w2.heap[r]? = some (rb s q1 b1) := by
        rw [hg.by_.block r (lt_of_block hR1) (fun e => by have := (hown1.lt r e.symm).1; omega)]; exact hR1
      have hK2 : Kp r w w2 := HK1.out.grown hg.by_ (fun g h => (hown1.lt g h).1)
      refine ⟨⟨l ++ [y], q1, b1, by simp; omega, by simp, ?_, by simpa using hown2, hq1, hR2, hK2, ?_⟩, by simp [intOf]; omega⟩
      · intro z hz
        rcases List.mem_append.1 hz with h1 | h1
        · exact HVR.out z h1
        · simp at h1; rw [h1]; exact HY.out
      · rintro ⟨L, h1, h2, h3⟩
        obtain ⟨g1, g2, g3⟩ := HG.out ⟨L, h1, h2, h3⟩
        obtain ⟨x, m, e1, e2, e3⟩ := g1.next (e := fun _ v => plainB k v) (plainsB_snoc k) hlt L h1 h2 h3
        rw [← g2] at e3
        obtain ⟨u1, u2, u3⟩ := hu x e2 e3
        subst u1
        refine ⟨g1.more (e := fun _ v => plainB k v) (plainsB_snoc k) hlt e2 (by rw [← g2]; exact e3) (fun z hz hs => plain_one hk hz e2 hs (by rw [← g2]; exact e3)), ?_, by rw [u3, g3]⟩
        rw [u2, g2, plainsB_snoc, List.length_append, Nat.add_assoc]
    · have hlen : l.length = cn := by omega
      have HD : Hid (l.length = cn) := hlen
      obtain ⟨lao, lcap, hlv⟩ := own_shape hown
      subst hlv
      clear hlen
      go_wp2
      go_ret
      refine ⟨HK.out, l, _, rfl, by rw [HD.out]; omega, HVR.out, hown, q, b, hq, HRR.out, ?_⟩
      intro L h1 h2 h3
      obtain ⟨g1, g2, g3⟩ := HG.out ⟨L, h1, h2, h3⟩
      exact ⟨((g1.done hlt).2 L h1 h2 h3).symm, g3⟩

theorem stepV_vr (a d : Int) : VR (stepV a d) := ⟨rfl, ⟨(wrap64_range _).1, (wrap64_range _).2⟩, by show (⟨#[]⟩ : ByteArray).size ≤ 32; decide⟩
/-- The value that a difference stands for. -/
theorem stepV_eq (a : Int) (x : Val) (hx : VK 1 x) : stepV a (uz (zz (wrap64 (x.n - a)))) = x := by
  rw [uz_zz]
  unfold stepV
  rw [wrap64_back a x.n _ hx.lo hx.hi rfl]
  have h1 := hx.there
  have h2 := hx.s1 rfl
  cases x
  simp at h1 h2
  simp [h1, h2]

set_option maxRecDepth 100000 in
set_option maxHeartbeats 4000000 in
theorem rvals1 (s : ByteArray) (r p cn : Nat) (w : World) (hm : s.size ≤ maxLen) (hcn : cn ≤ 100) (hp : p ≤ s.size) (h : w.heap[r]? = some (rb s p false)) :
    Calls Try.prog 109 #[.pointer (some ⟨r, 0, none⟩), .int .i64 1, .int .i64 1, .int .i64 cn] w fun x w' => RVals s r p cn 1 1 w x w' := by
  obtain ⟨j0, hj, hy0, hy1, hy2⟩ := info_parts Try.info39
  have hrl : r < w.heap.size := lt_of_block h
  have HR : Hid (w.heap[r]? = some (rb s p false)) := h
  have HSN : Hid (∀ (l : List Val) (x : Val), deltaF 0 (l ++ [x]) = deltaF 0 l ++ vint (zz (wrap64 (x.n - lastF 0 l)))) := deltaF_snoc 0
  clear h
  go_enter Try.func109, Try.ntmps109
  go_wp2_with fail
  go_loopw [9, 12, 13] (fun lv la i wr => ∃ (l : List Val) (q : Nat) (b : Bool), l.length ≤ cn ∧ i = .int .i64 (l.length : Int) ∧ la = .int .i64 (lastF 0 l) ∧ (∀ y ∈ l, VR y) ∧ wr.ownsRow w.heap.size 39 3 lv l.length (vcells l) ∧ q ≤ s.size ∧ wr.heap[r]? = some (rb s q b) ∧ Kp r w wr ∧
      ((∃ L : List Val, L.length = cn ∧ (∀ y ∈ L, VK 1 y) ∧ Starts (bytesOf s) p (deltaF 0 L)) → QSt (deltaF 0) (VK 1) (bytesOf s) p cn l ∧ q = p + (deltaF 0 l).length ∧ b = false)) (fun _ _ i _ => cn - (intOf i).toNat)
  case atStart => exact ⟨[], p, false, Nat.zero_le _, rfl, rfl, fun y hy => by simp at hy, World.ownsRow_nil _ _ _ _, hp, HR.out, Kp.refl _ _, fun _ => ⟨QSt.zero rfl, by simp [deltaF], rfl⟩⟩
  case round =>
    clear HR
    obtain ⟨l, q, b, hlc, rfl, rfl, hvr, hown, hq, hR, hK, hG⟩ := hrel
    have HVR : Hid (∀ y ∈ l, VR y) := hvr
    have HRR : Hid (wr.heap[r]? = some (rb s q b)) := hR
    have HK : Hid (Kp r w wr) := hK
    have HG : Hid ((∃ L : List Val, L.length = cn ∧ (∀ y ∈ L, VK 1 y) ∧ Starts (bytesOf s) p (deltaF 0 L)) → QSt (deltaF 0) (VK 1) (bytesOf s) p cn l ∧ q = p + (deltaF 0 l).length ∧ b = false) := hG
    have hsz := hK.size
    clear hvr hR hK hG
    by_cases hlt : l.length < cn
    · go_wp2_with (first
        | (go_at_call 139; refine (rword_any r q b s wr hm hq HRR.out).mono ?_; rintro x w1 ⟨hK1, n, q1, b1, rfl, hn, hq1, hR1, hu⟩; have hown1 := hK1.own hown hrl; have hsz1 := hK1.size; have HK1 : Hid (Kp r w w1) := HK.out.trans hK1; have HR1 : Hid (w1.heap[r]? = some (rb s q1 b1)) := hR1; have HU : Hid _ := hu; have HN : Hid (n < 18446744073709551616) := hn; clear hR1 hu hK1 hn)
        | (go_at_call 140; refine (unzig_any n _ HN.out).mono ?_; rintro x w' ⟨hw, rfl⟩; rw [hw]; clear hw w')
        | (at_builtin; refine wpList_append_keep _ rfl _ _ 30 rfl w.heap.size 39 j0 _ 3 32 Try.underlying30 hj hy0 hy1 hy2 rfl (by decide) _ l.length _ rfl (hown1.alloc _) ⟨w1.heap.size, 0, none⟩ 1 1 [.bool false, .int .i64 (wrap64 (lastF 0 l + uz n)), .string ⟨#[]⟩] rfl (by decide) rfl (three_at _ _ _ _ _) (three_one (stepV (lastF 0 l) (uz n))) (by unfold maxLen; omega) (by omega) (by simp; omega) ?_; intro v2 w2 hown2 hgr2))
      have hg := Grew.append hgr2
      have hsn := vcells_snoc l (stepV (lastF 0 l) (uz n))
      rw [show [Value.bool false, .int .i64 (wrap64 (lastF 0 l + uz n)), .string ⟨#[]⟩] = [.bool (stepV (lastF 0 l) (uz n)).null, .int .i64 (stepV (lastF 0 l) (uz n)).n, .string (stepV (lastF 0 l) (uz n)).s] from rfl, hsn] at hown2
      have hR2 : w2.heap[r]? = some (rb s q1 b1) := by
        rw [hg.by_.block r (lt_of_block HR1.out) (fun e => by have := (hown1.lt r e.symm).1; omega)]; exact HR1.out
      have hK2 : Kp r w w2 := HK1.out.grown hg.by_ (fun g h => (hown1.lt g h).1)
      refine ⟨⟨l ++ [stepV (lastF 0 l) (uz n)], q1, b1, by simp; omega, by simp, by rw [lastF_snoc]; rfl, ?_, by simpa using hown2, hq1, hR2, hK2, ?_⟩, by simp [intOf]; omega⟩
      · intro z hz
        rcases List.mem_append.1 hz with h1 | h1
        · exact HVR.out z h1
        · simp at h1; rw [h1]; exact stepV_vr _ _
      · rintro ⟨L, h1, h2, h3⟩
        obtain ⟨g1, g2, g3⟩ := HG.out ⟨L, h1, h2, h3⟩
        obtain ⟨x, m, e1, e2, e3⟩ := g1.next (e := fun l v => vint (zz (wrap64 (v.n - lastF 0 l)))) HSN.out hlt L h1 h2 h3
        have e3' : Starts (bytesOf s) q (vint (zz (wrap64 (x.n - lastF 0 l)))) := by rw [g2]; exact e3
        have rg := wrap64_range (x.n - lastF 0 l)
        obtain ⟨u1, u2, u3⟩ := HU.out _ (zz_lt _ rg.1 rg.2) e3'
        have hxe : stepV (lastF 0 l) (uz n) = x := by rw [u1]; exact stepV_eq _ x e2
        rw [hxe]
        refine ⟨g1.more (e := fun l v => vint (zz (wrap64 (v.n - lastF 0 l)))) HSN.out hlt e2 e3 (fun z hz hs => delta_one hz e2 hs e3), ?_, by rw [u3, g3]⟩
        rw [u2, g2, HSN.out, List.length_append, Nat.add_assoc]
    · have hlen : l.length = cn := by omega
      have HD : Hid (l.length = cn) := hlen
      obtain ⟨lao, lcap, hlv⟩ := own_shape hown
      subst hlv
      clear hlen
      go_wp2
      go_ret
      refine ⟨HK.out, l, _, rfl, by rw [HD.out]; omega, HVR.out, hown, q, b, hq, HRR.out, ?_⟩
      intro L h1 h2 h3
      obtain ⟨g1, g2, g3⟩ := HG.out ⟨L, h1, h2, h3⟩
      exact ⟨((g1.done hlt).2 L h1 h2 h3).symm, g3⟩

set_option maxRecDepth 100000 in
set_option maxHeartbeats 4000000 in
theorem rvals3 (s : ByteArray) (r p cn : Nat) (w : World) (hm : s.size ≤ maxLen) (hcn : cn ≤ 100) (hp : p ≤ s.size) (h : w.heap[r]? = some (rb s p false)) :
    Calls Try.prog 109 #[.pointer (some ⟨r, 0, none⟩), .int .i64 2, .int .i64 3, .int .i64 cn] w fun x w' => RVals s r p cn 2 3 w x w' := by
  obtain ⟨j0, hj, hy0, hy1, hy2⟩ := info_parts Try.info39
  have hrl : r < w.heap.size := lt_of_block h
  have HR : Hid (w.heap[r]? = some (rb s p false)) := h
  clear h
  go_enter Try.func109, Try.ntmps109
  go_wp2_with fail
  refine (rrun_any s r p cn _ hm hcn hp HR.out).mono ?_
  rintro x w1 ⟨hK1, zs, v, rfl, hzl, hzr, hown1, hAt⟩
  have HK1 : Hid (Kp r w w1) := hK1
  have HAT : Hid (RAt s r w1 _) := hAt
  have HZR : Hid (∀ z ∈ zs, 0 ≤ z ∧ z < 256) := hzr
  obtain ⟨iao, ib, ioff, icap, rfl, i1, i2, i3⟩ := ISl.of_owns hown1
  have HI3 : Hid (∀ j, j < zs.length → w1.cell? ⟨ib, ioff + j, none⟩ = some (.int .i64 (zs.getD j 0))) := i3
  have hsz1 := hK1.size
  clear hK1 hAt hzr hown1 i3 HR
  go_wp2_with fail
  go_loopw [9, 23] (fun lv i wr => ∃ j : Nat, j ≤ zs.length ∧ i = .int .i64 (j : Int) ∧ wr.ownsRow w1.heap.size 39 3 lv j (vcells ((zs.take j).map bitV)) ∧ Below w1.heap.size w1 wr) (fun _ i _ => zs.length - (intOf i).toNat)
  case atStart => exact ⟨0, Nat.zero_le _, rfl, by simpa [vcells] using World.ownsRow_nil _ _ _ _, Below.refl _ _⟩
  case round =>
    obtain ⟨j, hjl, rfl, hown, hB⟩ := hrel
    have HB : Hid (Below w1.heap.size w1 wr) := hB
    have hsz := hB.size
    clear hB
    by_cases hlt : j < zs.length
    · obtain rfl := i1 (by omega)
      have hbl := i2 (by omega)
      have hck : wr.cell? ⟨ib, ioff + j, none⟩ = some (.int .i64 (zs.getD j 0)) := (HB.out.cell (p := ⟨ib, ioff + j, none⟩) hbl).trans (HI3.out j hlt)
      have HV : Hid (vcells ((zs.take j).map bitV) ++ [.bool false, .int .i64 (zs.getD j 0), .string ⟨#[]⟩] = vcells ((zs.take (j + 1)).map bitV)) := by
        show _ = _
        rw [List.take_succ_eq_append_getElem hlt, List.map_append, List.map_singleton, ← vcells_snoc, getD_get hlt]
        rfl
      generalize zs.getD j 0 = z at *
      go_wp2_with (at_builtin; refine wpList_append_keep _ rfl _ _ 30 rfl w1.heap.size 39 j0 _ 3 32 Try.underlying30 hj hy0 hy1 hy2 rfl (by decide) _ j _ rfl (hown.alloc _) ⟨wr.heap.size, 0, none⟩ 1 1 [.bool false, .int .i64 z, .string ⟨#[]⟩] rfl (by decide) rfl (three_at _ _ _ _ _) (three_one ⟨false, z, ⟨#[]⟩⟩) (by unfold maxLen; omega) (by omega) (by simp; omega) ?_; intro v2 w2 hown2 hgr2)
      have hg := Grew.append hgr2
      rw [HV.out] at hown2
      refine ⟨⟨j + 1, by omega, by go_num, hown2, HB.out.trans (hg.below (fun g h => (hown.lt g h).1) hsz)⟩, by simp [intOf]; omega⟩
    · obtain rfl : j = zs.length := by omega
      rw [List.take_length] at hown
      obtain ⟨lao, lcap, hlv⟩ := own_shape hown
      subst hlv
      go_wp2
      go_ret
      obtain ⟨q, b, hq, hR, hbf, hu⟩ := HAT.out
      refine ⟨HK1.out.trans (Kp.of_below HB.out), zs.map bitV, _, rfl, by simpa using hzl, ?_, by rw [List.length_map]; exact ownsRow_base hown hsz1, q, b, hq, by rw [HB.out.block r (lt_of_block hR)]; exact hR, ?_⟩
      · intro y hy
        obtain ⟨z, hz, rfl⟩ := List.mem_map.1 hy
        have := HZR.out z hz
        exact ⟨rfl, ⟨by show _ ≤ z; omega, by show z ≤ _; omega⟩, by show (⟨#[]⟩ : ByteArray).size ≤ 32; decide⟩
      · intro L h1 h2 h3
        have h4 : Starts (bytesOf s) p (runsB (L.map Val.n)) := h3
        obtain ⟨u1, u2, u3⟩ := hu (L.map Val.n) (by rw [List.length_map]; exact h1) (vk2_bits L h2) h4
        exact ⟨by rw [u1, bitV_back L h2], u3⟩
end Go.Proofs.Ytjidbonhhpkljaa.Ec

/- The document's reader: values by Dict. -/
set_option linter.unusedVariables false
namespace Go.Proofs.Ytjidbonhhpkljaa.Ec
open Go.RowKit Go.Proofs.Ytjidbonhhpkljaa.Pk Go.Proofs.Ytjidbonhhpkljaa.Pm

theorem D_pack (wd : Nat) (ps : List Nat) (hlt : ∀ x ∈ ps, x < 2 ^ wd) : D wd (V (packBytes wd ps)) ps.length = ps := by
  have hN := N_lt wd ps hlt
  have hV : V (packBytes wd ps) = N wd ps := by
    rw [V_eq_N, packBytes, N_D, Nat.mod_eq_of_lt]
    exact Nat.lt_of_lt_of_le hN (Nat.pow_le_pow_right (by omega) (fill_le wd ps.length))
  refine N_inj wd _ _ (D_lt _ _ _) hlt (D_length _ _ _) ?_
  rw [N_D, hV, Nat.mod_eq_of_lt hN]

/-- What a list that is written as a dictionary has there, and what it is made of. -/
theorem dict_made {k : Int} {s : ByteArray} {p cn : Nat} {L : List Val} (z : Val) (hcn : cn ≤ 100) (hL : L.length = cn) (hok : ∀ x ∈ L, VK k x) (hs : Starts (bytesOf s) p (dictB k L)) :
    ∃ (d : List Val) (ps : List Nat), d.length ≤ cn ∧ (∀ x ∈ d, VK k x) ∧ ps.length = cn ∧ (∀ x ∈ ps, x < d.length) ∧ L = ps.map (fun q => d.getD q z) ∧ Starts (bytesOf s) p (vint d.length) ∧ Starts (bytesOf s) (p + (vint d.length).length) (plainsB k d) ∧
      Starts (bytesOf s) (p + (vint d.length).length + (plainsB k d).length) (packBytes (wid d.length) ps) := by
  obtain ⟨f1, f2, f3⟩ := dfold_facts L z
  obtain ⟨g1, g2, g3, g4⟩ := dfold_ok L L.length (Nat.le_refl _)
  rw [List.take_length] at g1 g2 g3 g4
  unfold dictB at hs
  rw [starts_append, starts_append] at hs
  exact ⟨(dfold L).1, (dfold L).2, by omega, fun x hx => hok x (g4 x hx), by omega, g3, f3.symm, hs.1, hs.2.1, hs.2.2⟩

/-- A text is taken, whatever stands there. -/
theorem rtake_any (r q n : Nat) (b : Bool) (s : ByteArray) (w1 : World) (hm : s.size ≤ maxLen) (hn : n ≤ 1000000) (hq : q ≤ s.size) (hR : w1.heap[r]? = some (rb s q b)) :
    Calls Try.prog 126 #[.pointer (some ⟨r, 0, none⟩), .int .i64 (n : Int)] w1 fun e w' => Kp r w1 w' ∧ ∃ t : ByteArray, e = .returned (.string t) ∧ t.size ≤ maxLen ∧ RAt s r w' (fun q2 b2 => q + n ≤ s.size → t = s.extract q (q + n) ∧ q2 = q + n ∧ b2 = b) := by
  by_cases hin : q + n ≤ s.size
  · refine (rtake_ok r q n b s w1 hm hin hR).mono ?_
    rintro e w' ⟨hK, rfl, hR⟩
    exact ⟨hK, _, rfl, by rw [ByteArray.size_extract]; omega, q + n, b, hin, hR, fun _ => ⟨rfl, rfl, rfl⟩⟩
  · refine (rtake_bad r q (n : Int) b s w1 hm (by omega) (by omega) hq (.inr (by omega)) hR).mono ?_
    rintro e w' ⟨hK, rfl, hR⟩
    exact ⟨hK, _, rfl, by unfold maxLen; decide, q, true, hq, hR, fun h => absurd h hin⟩

set_option maxRecDepth 100000 in
set_option maxHeartbeats 4000000 in
theorem rvals2 (k : Int) (hk : k = 1 ∨ k = 2 ∨ k = 3) (s : ByteArray) (r p cn : Nat) (w : World) (hm : s.size ≤ maxLen) (hcn : cn ≤ 100) (hp : p ≤ s.size) (h : w.heap[r]? = some (rb s p false)) :
    Calls Try.prog 109 #[.pointer (some ⟨r, 0, none⟩), .int .i64 k, .int .i64 2, .int .i64 cn] w fun x w' => RVals s r p cn k 2 w x w' := by
  obtain ⟨j0, hj, hy0, hy1, hy2⟩ := info_parts Try.info39
  have hrl : r < w.heap.size := lt_of_block h
  have HR : Hid (w.heap[r]? = some (rb s p false)) := h
  clear h
  go_enter Try.func109, Try.ntmps109
  go_wp2_with fail
  refine (rnumber_any r p 100 false s _ (by omega) hm hp HR.out).mono ?_
  rintro x w1 ⟨hK1, n, q1, b1, rfl, hn, hq1, hR1, hu1⟩
  have HK1 : Hid (Kp r w w1) := hK1
  have HR1 : Hid (w1.heap[r]? = some (rb s q1 b1)) := hR1
  have HU1 : Hid _ := hu1
  have hsz1 := hK1.size
  clear hK1 hR1 hu1 HR
  go_wp2_with fail
  go_loopw [16, 17] (fun dv i wr => ∃ (d : List Val) (q : Nat) (b : Bool), d.length ≤ n ∧ i = .int .i64 (d.length : Int) ∧ (∀ y ∈ d, VR y) ∧ wr.ownsRow w.heap.size 39 3 dv d.length (vcells d) ∧ q ≤ s.size ∧ wr.heap[r]? = some (rb s q b) ∧ Kp r w wr ∧
      ((b1 = false ∧ ∃ D : List Val, D.length = n ∧ (∀ y ∈ D, VK k y) ∧ Starts (bytesOf s) q1 (plainsB k D)) → QSt (plainsB k) (VK k) (bytesOf s) q1 n d ∧ q = q1 + (plainsB k d).length ∧ b = false)) (fun _ i _ => n - (intOf i).toNat)
  case atStart => exact ⟨[], q1, b1, Nat.zero_le _, rfl, fun y hy => by simp at hy, World.ownsRow_nil _ _ _ _, hq1, HR1.out, HK1.out, fun h => ⟨QSt.zero rfl, by simp [plainsB], h.1⟩⟩
  case round =>
    clear HR1 HK1
    obtain ⟨d, q, b, hdc, rfl, hvr, hown, hq, hR, hK, hG⟩ := hrel
    have HVR : Hid (∀ y ∈ d, VR y) := hvr
    have HRR : Hid (wr.heap[r]? = some (rb s q b)) := hR
    have HK : Hid (Kp r w wr) := hK
    have HG : Hid ((b1 = false ∧ ∃ D : List Val, D.length = n ∧ (∀ y ∈ D, VK k y) ∧ Starts (bytesOf s) q1 (plainsB k D)) → QSt (plainsB k) (VK k) (bytesOf s) q1 n d ∧ q = q1 + (plainsB k d).length ∧ b = false) := hG
    have hsz := hK.size
    clear hvr hR hK hG
    by_cases hlt : d.length < n
    · go_wp2_with (first
        | (go_at_call 128; refine (rone_any k hk r q b s wr hm hq HRR.out).mono ?_; rintro x w2 ⟨hK2, y, rfl, hy, hAt⟩; have hown1 := hK2.own hown hrl; have hsz2 := hK2.size; have HK2 : Hid (Kp r w w2) := HK.out.trans hK2; have HY : Hid (VR y) := hy; have HAT : Hid (RAt s r w2 _) := hAt; clear hy hAt hK2)
        | (at_builtin; refine wpList_append_keep _ rfl _ _ 30 rfl w.heap.size 39 j0 _ 3 32 Try.underlying30 hj hy0 hy1 hy2 rfl (by decide) _ d.length _ rfl ((hown1.alloc _).alloc _) ⟨w2.heap.size + 1, 0, none⟩ 1 1 [.bool y.null, .int .i64 y.n, .string y.s] rfl (by decide) rfl (by simpa using three_at (w2.alloc _) _ _ _ _) (three_one y) (by unfold maxLen; omega) (by omega) (by simp; omega) ?_; intro v2 w3 hown2 hgr2))
      have hg := Grew.box (Grew.append hgr2)
      rw [vcells_snoc] at hown2
      obtain ⟨q2, b2, hq2, hR2, hu⟩ := HAT.out
      have hR3 : w3.heap[r]? = some (rb s q2 b2) := by
        rw [hg.by_.block r (lt_of_block hR2) (fun e => by have := (hown1.lt r e.symm).1; omega)]; exact hR2
      have hK3 : Kp r w w3 := HK2.out.grown hg.by_ (fun g h => (hown1.lt g h).1)
      refine ⟨⟨d ++ [y], q2, b2, by simp; omega, by simp, ?_, by simpa using hown2, hq2, hR3, hK3, ?_⟩, by simp [intOf]; omega⟩
      · intro z hz
        rcases List.mem_append.1 hz with h1 | h1
        · exact HVR.out z h1
        · simp at h1; rw [h1]; exact HY.out
      · rintro ⟨h0, L, h1, h2, h3⟩
        obtain ⟨g1, g2, g3⟩ := HG.out ⟨h0, L, h1, h2, h3⟩
        obtain ⟨x, m, e1, e2, e3⟩ := g1.next (e := fun _ v => plainB k v) (plainsB_snoc k) hlt L h1 h2 h3
        rw [← g2] at e3
        obtain ⟨u1, u2, u3⟩ := hu x e2 e3
        subst u1
        refine ⟨g1.more (e := fun _ v => plainB k v) (plainsB_snoc k) hlt e2 (by rw [← g2]; exact e3) (fun z hz hs => plain_one hk hz e2 hs (by rw [← g2]; exact e3)), ?_, by rw [u3, g3]⟩
        rw [u2, g2, plainsB_snoc, List.length_append, Nat.add_assoc]
    · have hdl : d.length = n := by omega
      subst hdl
      obtain ⟨dao, dcap, hdv⟩ := own_shape hown
      subst hdv
      have HO : Hid (wr.ownsRow w.heap.size 39 3 (.slice dao d.length dcap) d.length (vcells d)) := hown
      have HW : Hid (∀ w, Calls Try.prog 104 #[.int .i64 (d.length : Int)] w fun e w' => e = .returned (.int .i64 (wid d.length)) ∧ w' = w) := fun w => wide_any d.length (by omega) w
      have hwl := wid_le d.length
      have HGOOD : Hid ((∃ L : List Val, L.length = cn ∧ (∀ y ∈ L, VK k y) ∧ Starts (bytesOf s) p (dictB k L)) → b = false ∧ ∃ ps : List Nat, ps.length = cn ∧ (∀ x ∈ ps, x < d.length) ∧ Starts (bytesOf s) q (packBytes (wid d.length) ps) ∧
          ∀ L : List Val, L.length = cn → (∀ y ∈ L, VK k y) → Starts (bytesOf s) p (dictB k L) → L = ps.map (fun q => d.getD q ⟨false, 0, ⟨#[]⟩⟩)) := by
        have key : ∀ L : List Val, L.length = cn → (∀ y ∈ L, VK k y) → Starts (bytesOf s) p (dictB k L) → b = false ∧ ∃ ps : List Nat, ps.length = cn ∧ (∀ x ∈ ps, x < d.length) ∧ Starts (bytesOf s) q (packBytes (wid d.length) ps) ∧ L = ps.map (fun q => d.getD q ⟨false, 0, ⟨#[]⟩⟩) := by
          intro L h1 h2 h3
          obtain ⟨d', ps, m1, m2, m3, m4, m5, m6, m7, m8⟩ := dict_made ⟨false, 0, ⟨#[]⟩⟩ hcn h1 h2 h3
          obtain ⟨u1, u2, u3⟩ := HU1.out d'.length (by omega) m6
          rw [← u2] at m7 m8
          obtain ⟨g1, g2, g3⟩ := HG.out ⟨u3, d', u1.symm, m2, m7⟩
          have e1 := (g1.done (by omega)).2 d' u1.symm m2 m7
          subst e1
          exact ⟨g3, ps, m3, m4, by rw [g2]; exact m8, m5⟩
        rintro ⟨L, h1, h2, h3⟩
        obtain ⟨k1, ps, k2, k3, k4, k5⟩ := key L h1 h2 h3
        refine ⟨k1, ps, k2, k3, k4, ?_⟩
        intro L' h1' h2' h3'
        obtain ⟨_, ps', k2', k3', k4', k5'⟩ := key L' h1' h2' h3'
        have hf : ∀ (l : List Nat), (∀ x ∈ l, x < d.length) → ∀ x ∈ l, x < 2 ^ wid d.length := fun l h x hx => wid_fits _ (by omega) x (h x hx)
        have r1 := (packed_reads s q (wid d.length) ps hq (hf _ k3) k4).2
        have r2 := (packed_reads s q (wid d.length) ps' hq (hf _ k3') k4').2
        rw [k2] at r1
        rw [k2'] at r2
        rw [r2] at r1
        rw [k5', r1]
      have hmul : wid d.length * cn ≤ 700 := Nat.le_trans (Nat.mul_le_mul hwl hcn) (by omega)
      have HFIT : Hid (∀ x, x < d.length → x < 2 ^ wid d.length) := fun x hx => wid_fits _ (by omega) x hx
      generalize wid d.length = W at *
      obtain ⟨P, hP⟩ : ∃ P, W * cn = P := ⟨_, rfl⟩
      have hPI : (W : Int) * (cn : Int) = (P : Int) := by rw [← hP]; push_cast; rfl
      rw [hP] at hmul
      obtain ⟨M, hM⟩ : ∃ M, M = (P + 7) / 8 := ⟨_, rfl⟩
      have hMi : ((P : Int) + 7) / 8 = (M : Int) := by omega
      have HM : Hid (M = (cn * W + 7) / 8) := by show _ = _; rw [hM, ← hP, Nat.mul_comm]
      have hM2 : M ≤ 1000 := by omega
      have HTK : Hid (Calls Try.prog 126 #[.pointer (some ⟨r, 0, none⟩), .int .i64 (M : Int)] wr fun e w' => Kp r wr w' ∧ ∃ t : ByteArray, e = .returned (.string t) ∧ t.size ≤ maxLen ∧ RAt s r w' (fun q2 b2 => q + M ≤ s.size → t = s.extract q (q + M) ∧ q2 = q + M ∧ b2 = b)) := rtake_any r q M b s wr hm (by omega) hq HRR.out
      clear hown hM hP HU1 HG
      go_wp2_with (go_at_call 104; refine (HW.out _).mono ?_; rintro x w' ⟨rfl, hw⟩; rw [hw]; clear hw w')
      refine HTK.out.mono ?_
      rintro x w2 ⟨hK2, tt, rfl, htt, hAt⟩
      have HK2 : Hid (Kp r w w2) := HK.out.trans hK2
      have HO2 : Hid (w2.ownsRow w.heap.size 39 3 (.slice dao d.length dcap) d.length (vcells d)) := hK2.own HO.out hrl
      have HAT : Hid (RAt s r w2 _) := hAt
      have hsz2 := HK2.out.size
      clear hK2 hAt HK HO HRR HTK
      have HNU : Hid (Calls Try.prog 67 #[.string tt, .int .i64 (W : Int), .int .i64 (cn : Int)] w2 fun e w' => ∃ v, e = .returned v ∧ w'.ownsRow w2.heap.size 3 1 v cn (icells (intsOf (D W (V (bytesOf tt)) cn))) ∧ Below w2.heap.size w2 w') := numbers_any tt W cn w2 htt (by omega) hcn
      go_wp2_with (go_at_call 104; refine (HW.out _).mono ?_; rintro x w' ⟨rfl, hw⟩; rw [hw]; clear hw w')
      refine HNU.out.mono ?_
      rintro x w3 ⟨nv, rfl, hown3, hb3⟩
      obtain ⟨q3, b3, hq3, hR3, hgt⟩ := HAT.out
      have HR3 : Hid (w3.heap[r]? = some (rb s q3 b3)) := by show _ = _; rw [hb3.block r (lt_of_block hR3)]; exact hR3
      have HK3 : Hid (Kp r w w3) := HK2.out.trans (Kp.of_below hb3)
      have HO3 : Hid (w3.ownsRow w.heap.size 39 3 (.slice dao d.length dcap) d.length (vcells d)) := ownsRow_below HO2.out hb3
      have HG2 : Hid ((∃ L : List Val, L.length = cn ∧ (∀ y ∈ L, VK k y) ∧ Starts (bytesOf s) p (dictB k L)) → b3 = false ∧ (∀ x ∈ D W (V (bytesOf tt)) cn, x < d.length) ∧ ∀ L : List Val, L.length = cn → (∀ y ∈ L, VK k y) → Starts (bytesOf s) p (dictB k L) → L = (D W (V (bytesOf tt)) cn).map (fun q => d.getD q ⟨false, 0, ⟨#[]⟩⟩)) := by
        intro hg
        obtain ⟨g1, ps, g2, g3, g4, g5⟩ := HGOOD.out hg
        have hlen := starts_len g4 (by rw [bytesOf_length]; exact hq)
        rw [packBytes_length, g2, bytesOf_length, ← HM.out] at hlen
        obtain ⟨t1, t2, t3⟩ := hgt hlen
        have hbt : bytesOf tt = packBytes W ps := by
          rw [t1, bytesOf_extract, show q + M - q = M by omega]
          refine starts_same (B := bytesOf s) (p := q) (List.take_prefix _ _) g4 ?_
          rw [List.length_take, List.length_drop, bytesOf_length, packBytes_length, g2, ← HM.out]
          omega
        have hD : D W (V (bytesOf tt)) cn = ps := by
          rw [hbt, ← g2]
          exact D_pack W ps (fun x hx => HFIT.out x (g3 x hx))
        rw [hD]
        exact ⟨by rw [t3, g1], g3, g5⟩
      have hDl : (D W (V (bytesOf tt)) cn).length = cn := D_length _ _ _
      have hDb : ∀ q ∈ D W (V (bytesOf tt)) cn, q < 128 := fun q hq => by
        have h1 := D_lt _ _ _ q hq
        have h2 : 2 ^ W ≤ 2 ^ 7 := Nat.pow_le_pow_right (by omega) hwl
        omega
      generalize D W (V (bytesOf tt)) cn = ps at *
      have HPL : Hid (ps.length = cn) := hDl
      have HPB : Hid (∀ q ∈ ps, q < 128) := hDb
      have hil : (intsOf ps).length = cn := by rw [← hDl]; simp [intsOf]
      obtain ⟨iao, ib, ioff, icap, rfl, i1, i2, i3⟩ := ISl.of_owns (show w3.ownsRow w2.heap.size 3 1 nv (intsOf ps).length (icells (intsOf ps)) by rw [hil]; exact hown3)
      rw [hil] at i1 i2 i3 ⊢
      have HI3 : Hid (∀ j, (hj : j < ps.length) → w3.cell? ⟨ib, ioff + j, none⟩ = some (.int .i64 (ps[j] : Int))) := fun j hj => by
        have h1 := i3 j (by rw [← hDl]; exact hj)
        rw [getD_get (by rw [hil, ← hDl]; exact hj)] at h1
        simpa [intsOf] using h1
      have HVS : Hid (VSl w3 (.slice dao d.length dcap) d) := VSl.of_owns HO3.out
      obtain ⟨vao, vb, voff, vcap, ve, hvr⟩ := HVS.out
      simp only [Value.slice.injEq] at ve
      obtain ⟨rfl, _, rfl⟩ := ve
      have HVROW : Hid (VRow w3 dao vb voff d) := hvr
      have hsz3 := HK3.out.size
      have HIB : Hid (0 < cn → w2.heap.size ≤ ib) := fun h0 => (hown3.lt ib (by rw [i1 h0]; rfl)).1
      have HVB : Hid (0 < d.length → w.heap.size ≤ vb) := fun h0 => (HO3.out.lt vb (by rw [hvr.addr h0]; rfl)).1
      clear hown3 hb3 hR3 hgt HAT HK2 HO2 hDl hDb i3 hvr HVS HNU HW HGOOD hPI hMi hil
      go_wp2_with fail
      go_loopw [9, 21] (fun lv i wq => ∃ (j : Nat) (l : List Val) (b : Bool), j ≤ cn ∧ i = .int .i64 (j : Int) ∧ l.length ≤ j ∧ (∀ y ∈ l, VR y) ∧ wq.ownsRow w3.heap.size 39 3 lv l.length (vcells l) ∧ wq.heap[r]? = some (rb s q3 b) ∧ Kp r w3 wq ∧
          ((∃ L : List Val, L.length = cn ∧ (∀ y ∈ L, VK k y) ∧ Starts (bytesOf s) p (dictB k L)) → l = (ps.take j).map (fun q => d.getD q ⟨false, 0, ⟨#[]⟩⟩) ∧ b = false)) (fun _ i _ => cn - (intOf i).toNat)
      case atStart => exact ⟨0, [], b3, Nat.zero_le _, rfl, Nat.le_refl _, fun y hy => by simp at hy, World.ownsRow_nil _ _ _ _, HR3.out, Kp.refl _ _, fun hg => ⟨by simp, (HG2.out hg).1⟩⟩
      case round =>
        obtain ⟨j, l, b4, hjc, rfl, hlj, hvl, hown4, hR4, hK4, hG4⟩ := hrel
        have HVL : Hid (∀ y ∈ l, VR y) := hvl
        have HR4 : Hid (wr.heap[r]? = some (rb s q3 b4)) := hR4
        have HK4 : Hid (Kp r w3 wr) := hK4
        have HG4 : Hid ((∃ L : List Val, L.length = cn ∧ (∀ y ∈ L, VK k y) ∧ Starts (bytesOf s) p (dictB k L)) → l = (ps.take j).map (fun q => d.getD q ⟨false, 0, ⟨#[]⟩⟩) ∧ b4 = false) := hG4
        have hsz4 := hK4.size
        obtain ⟨c0, c1, c2, f0, f1, f2⟩ := rb_cells hR4
        clear hvl hR4 hG4 hK4 c0 c1 f0 f1
        by_cases hlt : j < cn
        · have hjp : j < ps.length := by rw [HPL.out]; exact hlt
          have hio := i1 (by omega)
          have hibr : ib ≠ r := by have := HIB.out (by omega); omega
          have hck : wr.cell? ⟨ib, ioff + j, none⟩ = some (.int .i64 (ps[j] : Int)) := World.grownBy.cell HK4.out (HI3.out j hjp) (fun e => hibr (by cases e; rfl))
          have hqb := HPB.out _ (List.getElem_mem hjp)
          have HTS : Hid ((ps.take (j + 1)).map (fun q => d.getD q ⟨false, 0, ⟨#[]⟩⟩) = (ps.take j).map (fun q => d.getD q ⟨false, 0, ⟨#[]⟩⟩) ++ [d.getD ps[j] ⟨false, 0, ⟨#[]⟩⟩]) := by
            show _ = _
            rw [List.take_succ_eq_append_getElem hjp, List.map_append, List.map_singleton]
          have HLT : Hid ((∃ L : List Val, L.length = cn ∧ (∀ y ∈ L, VK k y) ∧ Starts (bytesOf s) p (dictB k L)) → ps[j] < d.length) := fun hg => (HG2.out hg).2.1 _ (List.getElem_mem hjp)
          rw [hio] at *
          generalize ps[j] = z at *
          by_cases hzd : z < d.length
          · have hr := HVROW.out
            have hdo := hr.addr (by omega)
            have hvbr : vb ≠ r := by have := HVB.out (by omega); omega
            have p0 : wr.cell? ⟨vb, voff + z * 3, none⟩ = some (.bool d[z].null) := World.grownBy.cell HK4.out (hr.c0 z hzd) (fun e => hvbr (by cases e; rfl))
            have p1 : wr.cell? ⟨vb, voff + z * 3 + 1, none⟩ = some (.int .i64 d[z].n) := World.grownBy.cell HK4.out (hr.c1 z hzd) (fun e => hvbr (by cases e; rfl))
            have p2 : wr.cell? ⟨vb, voff + z * 3 + 2, none⟩ = some (.string d[z].s) := World.grownBy.cell HK4.out (hr.c2 z hzd) (fun e => hvbr (by cases e; rfl))
            have HVY : Hid (VR d[z]) := HVR.out _ (List.getElem_mem hzd)
            have HGD : Hid (d.getD z ⟨false, 0, ⟨#[]⟩⟩ = d[z]) := by show _ = _; simp [List.getD, hzd]
            rw [hdo] at *
            generalize d[z] = y at *
            clear hr
            go_wp2_with (at_builtin; refine wpList_append_keep _ rfl _ _ 30 rfl w3.heap.size 39 j0 _ 3 32 Try.underlying30 hj hy0 hy1 hy2 rfl (by decide) _ l.length _ rfl (hown4.alloc _) ⟨wr.heap.size, 0, none⟩ 1 1 [.bool y.null, .int .i64 y.n, .string y.s] rfl (by decide) rfl (three_at _ _ _ _ _) (three_one y) (by unfold maxLen; omega) (by omega) (by simp; omega) ?_; intro v5 w5 hown5 hgr5)
            have hg := Grew.append hgr5
            rw [vcells_snoc] at hown5
            have hR5 : w5.heap[r]? = some (rb s q3 b4) := by
              rw [hg.by_.block r (lt_of_block HR4.out) (fun e => by have := (hown4.lt r e.symm).1; omega)]; exact HR4.out
            have hK5 : Kp r w3 w5 := HK4.out.grown hg.by_ (fun g h => (hown4.lt g h).1)
            refine ⟨⟨j + 1, l ++ [y], b4, by omega, by go_num, by simp; omega, ?_, by simpa using hown5, hR5, hK5, ?_⟩, by simp [intOf]; omega⟩
            · intro u hu
              rcases List.mem_append.1 hu with h1 | h1
              · exact HVL.out u h1
              · simp at h1; rw [h1]; exact HVY.out
            · intro hg
              obtain ⟨g1, g2⟩ := HG4.out hg
              exact ⟨by rw [HTS.out, HGD.out, g1], g2⟩
          · have HF : Hid (¬ ∃ L : List Val, L.length = cn ∧ (∀ y ∈ L, VK k y) ∧ Starts (bytesOf s) p (dictB k L)) := fun hg => hzd (HLT.out hg)
            have HR5 : Hid ((wr.setCell ⟨r, 2, none⟩ (.bool true)).heap[r]? = some (rb s q3 true)) := rb_bad0 HR4.out
            have HK5 : Hid (Kp r w3 (wr.setCell ⟨r, 2, none⟩ (.bool true))) := HK4.out.set0
            have HO5 : Hid ((wr.setCell ⟨r, 2, none⟩ (.bool true)).ownsRow w3.heap.size 39 3 u9 l.length (vcells l)) := (Kp.set0 (Kp.refl r wr)).own hown4 (by omega)
            go_wp2_with fail
            refine ⟨⟨j + 1, l, true, by omega, by go_num, by omega, HVL.out, HO5.out, HR5.out, HK5.out, fun hg => absurd hg HF.out⟩, by simp [intOf]; omega⟩
        · obtain rfl : j = cn := by omega
          obtain ⟨lao, lcap, hlv⟩ := own_shape hown4
          subst hlv
          have htk : ps.take j = ps := List.take_of_length_le (by rw [HPL.out]; omega)
          rw [htk] at HG4
          go_wp2
          go_ret
          refine ⟨HK3.out.trans HK4.out, l, _, rfl, by omega, HVL.out, ownsRow_base hown4 hsz3, q3, b4, hq3, HR4.out, ?_⟩
          intro L h1 h2 h3
          have h3' : Starts (bytesOf s) p (dictB k L) := h3
          obtain ⟨g1, g2⟩ := HG4.out ⟨L, h1, h2, h3'⟩
          exact ⟨by rw [g1]; exact ((HG2.out ⟨L, h1, h2, h3'⟩).2.2 L h1 h2 h3').symm, g2⟩
end Go.Proofs.Ytjidbonhhpkljaa.Ec

/- The contract of ReadWhole at values: what is read of all bytes, or nothing, by the recover at the call. -/
set_option linter.unusedVariables false
namespace Go.Proofs.Ytjidbonhhpkljaa.Ec
open Go.RowKit Go.Proofs.Ytjidbonhhpkljaa.Pk Go.Proofs.Ytjidbonhhpkljaa.Pm

theorem one_frozen {w : World} {g : Nat} {v : Value} {t : TypeId} (h : w.heap[g]? = some (.cells #[v] t (0, 0))) : w.cell? ⟨g, 0, none⟩ = some v ∧ w.frozen? ⟨g, 0, none⟩ = false := by
  constructor
  · simp [World.cell?, h]
  · simp [World.frozen?, h]
theorem one_set {w : World} {g : Nat} {v : Value} (u : Value) {t : TypeId} (h : w.heap[g]? = some (.cells #[v] t (0, 0))) : (w.setCell ⟨g, 0, none⟩ u).heap[g]? = some (.cells #[u] t (0, 0)) := by
  rw [heap_setCell_same w g 0 _ _ _ h]; rfl

/-- The deferred function, where the frame panics. -/
theorem catchV_panicking (pl pe : Addr) (vl ve : Value) (u : TypeId) (pv : Value) (older : List PanicEntry) (w : World) (hl : w.cell? pl = some vl) (hlf : w.frozen? pl = false)
    (he : (w.setCell pl (.slice none 0 0)).cell? pe = some ve) (hef : (w.setCell pl (.slice none 0 0)).frozen? pe = false) :
    CallsD Try.prog 110 #[.pointer (some pl), .pointer (some pe)] (.panicking ({ v := .iface u pv, recovered := false } :: older)) w fun e u' w' =>
      e = .returned (.tuple #[]) ∧ u' = .panicking ({ v := .iface u pv, recovered := true } :: older) ∧ w' = (w.setCell pl (.slice none 0 0)).setCell pe (.bool false) := by
  refine callsD_of_wpS Try.func110 rfl fun c₀ cs hu => ?_
  apply wpS_seq
  apply wpS_region
  simp [wpOpsS, go_sem, recoverD, hu, Try.ntmps110, Exit.thenS]
  refine wpS_cond (t := true) (by simp [Act.eval, Array.replicate]) ?_
  simp only [if_true]
  apply wpS_seq
  apply wpS_region
  simp [wpOpsS, go_sem, Exit.thenS]
  apply wpS_region
  simp [wpOpsS, go_sem, hl, hlf, he, hef, bodyPostS, results, Try.results110]

theorem catchV_idle (pl pe : Addr) (w : World) :
    CallsD Try.prog 110 #[.pointer (some pl), .pointer (some pe)] .returning w fun e u' w' => e = .returned (.tuple #[]) ∧ u' = .returning ∧ w' = w := by
  refine callsD_of_wpS Try.func110 rfl fun c₀ cs hu => ?_
  apply wpS_seq
  apply wpS_region
  simp [wpOpsS, go_sem, recoverD, hu, Try.ntmps110, Exit.thenS]
  refine wpS_cond (t := false) (by simp [Act.eval, Array.replicate]) ?_
  simp only [Bool.false_eq_true, if_false]
  refine wpS_of_wp (wp_skip ?_)
  cases c₀
  simp_all [bodyPostS, results, Try.results110]

theorem catchV_at {w w4 : World} {v : Value} {t1 t2 : TypeId} {v2 : Value} (q : Nat) (hL : w4.heap[w.heap.size]? = some (.cells #[v] t1 (0, 0))) (hE : w4.heap[w.heap.size + 1]? = some (.cells #[v2] t2 (0, 0))) :
    CallsD Try.prog 110 #[.pointer (some ⟨w.heap.size, 0, none⟩), .pointer (some ⟨w.heap.size + 1, 0, none⟩)] (.panicking (badAt q)) w4 fun e u' w' =>
      e = .returned (.tuple #[]) ∧ u' = .panicking [{ v := .iface 183 (.agg #[.int .i64 (q : Int)]), recovered := true }] ∧ w' = (w4.setCell ⟨w.heap.size, 0, none⟩ (.slice none 0 0)).setCell ⟨w.heap.size + 1, 0, none⟩ (.bool false) := by
  have a3 : (w4.setCell ⟨w.heap.size, 0, none⟩ (.slice none 0 0)).heap[w.heap.size + 1]? = some (.cells #[v2] t2 (0, 0)) := by
    rw [heap_setCell_other _ _ _ _ (by simp)]; exact hE
  exact catchV_panicking _ _ _ _ _ _ [] w4 (one_frozen hL).1 (one_frozen hL).2 (one_frozen a3).1 (one_frozen a3).2

theorem whole_bad {w w4 : World} {v v2 : Value} {t1 t2 : TypeId} (u1 u2 : Value) (hL : w4.heap[w.heap.size]? = some (.cells #[v] t1 (0, 0))) (hE : w4.heap[w.heap.size + 1]? = some (.cells #[v2] t2 (0, 0))) (hB : Below w.heap.size w w4) :
    let W := (w4.setCell ⟨w.heap.size, 0, none⟩ u1).setCell ⟨w.heap.size + 1, 0, none⟩ u2
    W.cell? ⟨w.heap.size, 0, none⟩ = some u1 ∧ W.cell? ⟨w.heap.size + 1, 0, none⟩ = some u2 ∧ Below w.heap.size w W := by
  have a1 := one_set u1 hL
  have a3 : (w4.setCell ⟨w.heap.size, 0, none⟩ u1).heap[w.heap.size + 1]? = some (.cells #[v2] t2 (0, 0)) := by
    rw [heap_setCell_other _ _ _ _ (by simp)]; exact hE
  refine ⟨?_, (one_frozen (one_set u2 a3)).1, ?_⟩
  · refine (one_frozen (t := t1) ?_).1
    rw [heap_setCell_other _ _ _ _ (by simp)]
    exact a1
  · exact (hB.setCell (Nat.le_refl _) _).setCell (Nat.le_succ _) _

set_option maxRecDepth 100000 in
set_option maxHeartbeats 2000000 in
theorem wholeV_any (c1 c2 c3 : Value) (s : ByteArray) (w : World) (hm : s.size ≤ maxLen) (el size : Nat) (Q : Nat → List Value → Nat → Prop) (N : Prop)
    (hcl : ∀ (W : World) (r : Nat), Below w.heap.size w W → r = w.heap.size + 1 + 1 → W.heap[r]? = some (rdr s 0) → Calls Try.prog 49 #[.pointer (some ⟨r, 0, none⟩), c1, c2, c3] W fun e w' => Kp r W w' ∧
      ((∃ v n xs q, e = .returned v ∧ w'.heap[r]? = some (rdr s q) ∧ q ≤ s.size ∧ w'.ownsRow W.heap.size el size v n xs ∧ Q n xs q) ∨ (∃ q, e = .panicked (badAt q) ∧ N))) :
    Calls Try.prog 78 #[.string s, .func (.func 49) #[] #[c1, c2, c3]] w fun e w' => Below w.heap.size w w' ∧
      ((∃ v n xs, e = .returned (.tuple #[v, .bool true]) ∧ w'.ownsRow w.heap.size el size v n xs ∧ Q n xs s.size) ∨ (e = .returned (.tuple #[.slice none 0 0, .bool false]) ∧ (N ∨ ∃ n xs q, Q n xs q ∧ q < s.size))) := by
  have HCL : Hid _ := hcl
  clear hcl
  have hmf : ∀ (fn : Fn) (first cap : Array Value) (w : World), (Instr.makeFunc fn first cap).run Try.prog w = .ok (.func fn first cap) w := fun _ _ _ _ => rfl
  go_enter_defers Try.func78, Try.ntmps78
  go_wp2_with (go_at_call 100; refine (newReader_any s _).mono ?_; rintro e w' ⟨rfl, rfl⟩)
  have hL : (((w.alloc (.cells #[.slice none 0 0] 30)).alloc (.cells #[.bool false] 4)).alloc (rdr s 0)).heap[w.heap.size]? = some (.cells #[.slice none 0 0] 30 (0, 0)) := three_0 _ _ _ _
  have hE : (((w.alloc (.cells #[.slice none 0 0] 30)).alloc (.cells #[.bool false] 4)).alloc (rdr s 0)).heap[w.heap.size + 1]? = some (.cells #[.bool false] 4 (0, 0)) := three_1 _ _ _ _
  have hR : (((w.alloc (.cells #[.slice none 0 0] 30)).alloc (.cells #[.bool false] 4)).alloc (rdr s 0)).heap[w.heap.size + 1 + 1]? = some (rdr s 0) := three_2 _ _ _ _
  have hS : (((w.alloc (.cells #[.slice none 0 0] 30)).alloc (.cells #[.bool false] 4)).alloc (rdr s 0)).heap.size = w.heap.size + 3 := by simp
  have hB : Below w.heap.size w (((w.alloc (.cells #[.slice none 0 0] 30)).alloc (.cells #[.bool false] 4)).alloc (rdr s 0)) := (((Below.refl _ _).alloc (Nat.le_refl _) _).alloc (by simp) _).alloc (by simp; omega) _
  generalize (((w.alloc (.cells #[.slice none 0 0] 30)).alloc (.cells #[.bool false] 4)).alloc (rdr s 0)) = W3 at *
  refine (HCL.out W3 (w.heap.size + 1 + 1) hB rfl hR).mono ?_
  rintro e w4 ⟨hK4, ⟨v, n, xs, q, rfl, hR4, hq, hown, hQ⟩ | ⟨q, rfl, hN⟩⟩
  · have hL4 : w4.heap[w.heap.size]? = some (.cells #[.slice none 0 0] 30 (0, 0)) := Kp.block hK4 hL (by omega)
    have hE4 : w4.heap[w.heap.size + 1]? = some (.cells #[.bool false] 4 (0, 0)) := Kp.block hK4 hE (by omega)
    have hB4 : Below w.heap.size w w4 := hB.trans ((hK4.below (by omega)).mono (by omega))
    have hne : v.ownBlock ≠ some w.heap.size ∧ v.ownBlock ≠ some (w.heap.size + 1) := ⟨fun e => by have := (hown.lt _ e).1; omega, fun e => by have := (hown.lt _ e).1; omega⟩
    obtain ⟨ao, cap, hv⟩ := own_shape hown
    subst hv
    have HO4 : Hid (w4.ownsRow w.heap.size el size (.slice ao n cap) n xs) := ownsRow_base hown (by omega)
    have HNE : Hid _ := hne
    have HQ : Hid (Q n xs q) := hQ
    obtain ⟨cl, fl⟩ := one_frozen hL4
    obtain ⟨ce, fe⟩ := one_frozen hE4
    have HL4 : Hid _ := hL4
    have HE4 : Hid _ := hE4
    have HB4 : Hid _ := hB4
    have HR4 : Hid (w4.heap[w.heap.size + 1 + 1]? = some (rdr s q)) := hR4
    clear hL hE hR hS hB hL4 hE4 hK4 hR4 hown hQ hB4 hne
    clear W3
    by_cases hend : q < s.size
    · go_wp2_with (go_at_call 111; refine (end_bad (w.heap.size + 1 + 1) q s _ hm hend (by rw [heap_setCell_other _ _ _ _ (by simp; omega)]; exact HR4.out)).mono ?_; rintro e w' ⟨rfl, m, rfl⟩)
      have hL5 : ((w4.setCell ⟨w.heap.size, 0, none⟩ (.slice ao n cap)).drewN m).heap[w.heap.size]? = some (.cells #[.slice ao n cap] 30 (0, 0)) := one_set _ HL4.out
      have hE5 : ((w4.setCell ⟨w.heap.size, 0, none⟩ (.slice ao n cap)).drewN m).heap[w.heap.size + 1]? = some (.cells #[.bool false] 4 (0, 0)) := by
        show (w4.setCell ⟨w.heap.size, 0, none⟩ (.slice ao n cap)).heap[w.heap.size + 1]? = _
        rw [heap_setCell_other _ _ _ _ (by simp)]; exact HE4.out
      have hB5 := below_drewN (HB4.out.setCell (p := ⟨w.heap.size, 0, none⟩) (Nat.le_refl _) (.slice ao n cap)) m
      generalize (w4.setCell ⟨w.heap.size, 0, none⟩ (.slice ao n cap)).drewN m = w5 at *
      obtain ⟨f1, f2, f3⟩ := whole_bad (.slice none 0 0) (.bool false) hL5 hE5 hB5
      refine leaves_cons (f := 110) (args := #[.pointer (some ⟨w.heap.size, 0, none⟩), .pointer (some ⟨w.heap.size + 1, 0, none⟩)]) (by simp) (by simp [go_sem]) ?_
      refine (catchV_at _ hL5 hE5).mono ?_
      rintro e u' w'' ⟨rfl, rfl, rfl⟩
      simp [Leaves, settle, results, Try.results78, go_sem, f1, f2]
      exact ⟨f3, .inr ⟨n, xs, q, HQ.out, hend⟩⟩
    · obtain rfl : q = s.size := by omega
      go_wp2_with (go_at_call 111; refine (end_ok (w.heap.size + 1 + 1) s.size s _ hm (by omega) (by rw [heap_setCell_other _ _ _ _ (by simp; omega)]; exact HR4.out)).mono ?_; rintro e w' ⟨rfl, m, rfl⟩)
      have hL5 : ((w4.setCell ⟨w.heap.size, 0, none⟩ (.slice ao n cap)).drewN m).heap[w.heap.size]? = some (.cells #[.slice ao n cap] 30 (0, 0)) := one_set _ HL4.out
      have hE5 : ((w4.setCell ⟨w.heap.size, 0, none⟩ (.slice ao n cap)).drewN m).heap[w.heap.size + 1]? = some (.cells #[.bool false] 4 (0, 0)) := by
        show (w4.setCell ⟨w.heap.size, 0, none⟩ (.slice ao n cap)).heap[w.heap.size + 1]? = _
        rw [heap_setCell_other _ _ _ _ (by simp)]; exact HE4.out
      have hB5 := below_drewN (HB4.out.setCell (p := ⟨w.heap.size, 0, none⟩) (Nat.le_refl _) (.slice ao n cap)) m
      have hO5 : ((w4.setCell ⟨w.heap.size, 0, none⟩ (.slice ao n cap)).drewN m).ownsRow w.heap.size el size (.slice ao n cap) n xs := ownsRow_drewN (ownsRow_setCell_other HO4.out HNE.out.1 _) m
      have hO6 : (((w4.setCell ⟨w.heap.size, 0, none⟩ (.slice ao n cap)).drewN m).setCell ⟨w.heap.size, 0, none⟩ (.slice ao n cap)).ownsRow w.heap.size el size (.slice ao n cap) n xs := ownsRow_setCell_other hO5 HNE.out.1 _
      have hO7 : ((((w4.setCell ⟨w.heap.size, 0, none⟩ (.slice ao n cap)).drewN m).setCell ⟨w.heap.size, 0, none⟩ (.slice ao n cap)).setCell ⟨w.heap.size + 1, 0, none⟩ (.bool true)).ownsRow w.heap.size el size (.slice ao n cap) n xs := ownsRow_setCell_other hO6 HNE.out.2 _
      obtain ⟨f1, f2, f3⟩ := whole_bad (.slice ao n cap) (.bool true) hL5 hE5 hB5
      generalize (((w4.setCell ⟨w.heap.size, 0, none⟩ (.slice ao n cap)).drewN m).setCell ⟨w.heap.size, 0, none⟩ (.slice ao n cap)).setCell ⟨w.heap.size + 1, 0, none⟩ (.bool true) = Wf at *
      refine leaves_cons (f := 110) (args := #[.pointer (some ⟨w.heap.size, 0, none⟩), .pointer (some ⟨w.heap.size + 1, 0, none⟩)]) (by simp) (by simp [go_sem]) ?_
      refine (catchV_idle ⟨w.heap.size, 0, none⟩ ⟨w.heap.size + 1, 0, none⟩ _).mono ?_
      rintro e u' w'' ⟨rfl, rfl, rfl⟩
      simp [Leaves, settle, results, Try.results78, go_sem, f1, f2]
      exact ⟨f3, n, xs, hO7, HQ.out⟩
  · have hL4 : w4.heap[w.heap.size]? = some (.cells #[.slice none 0 0] 30 (0, 0)) := Kp.block hK4 hL (by omega)
    have hE4 : w4.heap[w.heap.size + 1]? = some (.cells #[.bool false] 4 (0, 0)) := Kp.block hK4 hE (by omega)
    have hB4 : Below w.heap.size w w4 := hB.trans ((hK4.below (by omega)).mono (by omega))
    clear hL hE hR hS hB hK4
    clear W3
    obtain ⟨f1, f2, f3⟩ := whole_bad (.slice none 0 0) (.bool false) hL4 hE4 hB4
    refine leaves_cons (f := 110) (args := #[.pointer (some ⟨w.heap.size, 0, none⟩), .pointer (some ⟨w.heap.size + 1, 0, none⟩)]) (by simp) (by simp [go_sem]) ?_
    refine (catchV_at _ hL4 hE4).mono ?_
    rintro e u' w'' ⟨rfl, rfl, rfl⟩
    simp [Leaves, settle, results, Try.results78, go_sem, f1, f2]
    exact ⟨f3, .inl hN⟩
end Go.Proofs.Ytjidbonhhpkljaa.Ec

/- The contract of the code's Decode. -/
set_option linter.unusedVariables false
namespace Go.Proofs.Ytjidbonhhpkljaa.Ec
open Go.RowKit Go.Proofs.Ytjidbonhhpkljaa.Pk Go.Proofs.Ytjidbonhhpkljaa.Pm

set_option maxRecDepth 100000 in
set_option maxHeartbeats 1000000 in
theorem decodeC_any (k e : Int) (he : hasEncB k e = true) (s : ByteArray) (r cn x y z : Nat) (w : World) (hm : s.size ≤ maxLen) (hcn : cn ≤ 100) (h : w.heap[r]? = some (rdr s 0))
    (hx : w.cell? ⟨x, 0, none⟩ = some (.int .i64 k)) (hy : w.cell? ⟨y, 0, none⟩ = some (.int .i64 e)) (hz : w.cell? ⟨z, 0, none⟩ = some (.int .i64 cn)) :
    Calls Try.prog 49 #[.pointer (some ⟨r, 0, none⟩), .pointer (some ⟨x, 0, none⟩), .pointer (some ⟨y, 0, none⟩), .pointer (some ⟨z, 0, none⟩)] w fun f w' => Kp r w w' ∧
      ((∃ v n xs q, f = .returned v ∧ w'.heap[r]? = some (rdr s q) ∧ q ≤ s.size ∧ w'.ownsRow w.heap.size 39 3 v n xs ∧
        (∃ l : List Val, n = cn ∧ l.length = cn ∧ xs = vcells l ∧ q = (columnB k e l).length ∧ (∀ x ∈ l, VC k x) ∧ Starts (bytesOf s) 0 (columnB k e l) ∧ ∀ L : List Val, L.length = cn → (∀ x ∈ L, VC k x) → Starts (bytesOf s) 0 (columnB k e L) → L = l)) ∨
       (∃ q, f = .panicked (badAt q) ∧ ∀ L : List Val, L.length = cn → (∀ x ∈ L, VC k x) → ¬ Starts (bytesOf s) 0 (columnB k e L))) := by
  have HR : Hid (w.heap[r]? = some (rdr s 0)) := h
  clear h
  go_enter Try.func49, Try.ntmps49
  go_wp2_with fail
  refine (readColumn_any k e he s r 0 cn _ hm hcn (Nat.zero_le _) HR.out).mono ?_
  rintro f w1 ⟨hK, ⟨l, v, rfl, hl, hok, hs, hu, hle, hR, hown⟩ | ⟨q, rfl, hno⟩⟩
  · have HK : Hid (Kp r w w1) := hK
    have HL : Hid (l.length = cn) := hl
    have HOK : Hid (∀ x ∈ l, VC k x) := hok
    have HS : Hid (Starts (bytesOf s) 0 (columnB k e l)) := hs
    have HU : Hid (∀ L : List Val, L.length = cn → (∀ x ∈ L, VC k x) → Starts (bytesOf s) 0 (columnB k e L) → L = l) := hu
    have HR1 : Hid (w1.heap[r]? = some (rdr s (0 + (columnB k e l).length))) := hR
    have HO : Hid (w1.ownsRow w.heap.size 39 3 v l.length (vcells l)) := hown
    clear hK hl hok hs hu hR hown hx hy hz
    go_wp2
    go_ret
    refine ⟨HK.out, .inl ⟨v, cn, vcells l, (columnB k e l).length, rfl, by simpa using HR1.out, by omega, by rw [← HL.out]; exact HO.out, l, rfl, HL.out, rfl, rfl, HOK.out, HS.out, HU.out⟩⟩
  · have HK : Hid (Kp r w w1) := hK
    have HNO : Hid _ := hno
    clear hK hno hx hy hz
    go_wp2
    exact ⟨rfl, HK.out, .inr ⟨q, rfl, HNO.out⟩⟩

set_option maxRecDepth 100000 in
set_option maxHeartbeats 1000000 in
theorem readWholeV_any (c1 c2 c3 : Value) (s : ByteArray) (w : World) (hm : s.size ≤ maxLen) (el size : Nat) (Q : Nat → List Value → Nat → Prop) (N : Prop)
    (hcl : ∀ (W : World) (r : Nat), Below w.heap.size w W → r = w.heap.size + 1 + 1 → W.heap[r]? = some (rdr s 0) → Calls Try.prog 49 #[.pointer (some ⟨r, 0, none⟩), c1, c2, c3] W fun e w' => Kp r W w' ∧
      ((∃ v n xs q, e = .returned v ∧ w'.heap[r]? = some (rdr s q) ∧ q ≤ s.size ∧ w'.ownsRow W.heap.size el size v n xs ∧ Q n xs q) ∨ (∃ q, e = .panicked (badAt q) ∧ N))) :
    Calls Try.prog 48 #[.string s, .func (.func 49) #[] #[c1, c2, c3]] w fun e w' => Below w.heap.size w w' ∧
      ((∃ v n xs, e = .returned (.tuple #[v, .int .i64 0]) ∧ w'.ownsRow w.heap.size el size v n xs ∧ Q n xs s.size) ∨ (e = .returned (.tuple #[.slice none 0 0, .int .i64 3]) ∧ (N ∨ ∃ n xs q, Q n xs q ∧ q < s.size))) := by
  have HCL : Hid _ := hcl
  clear hcl
  go_enter Try.func48, Try.ntmps48
  go_wp2_with fail
  refine (wholeV_any c1 c2 c3 s w hm el size Q N HCL.out).mono ?_
  rintro e w1 ⟨hB, ⟨v, n, xs, rfl, hown, hQ⟩ | ⟨rfl, hN⟩⟩
  · have HB : Hid _ := hB
    have HO : Hid (w1.ownsRow w.heap.size el size v n xs) := hown
    have HQ : Hid (Q n xs s.size) := hQ
    clear hB hown hQ
    go_wp2
    go_ret2
    exact ⟨HB.out, .inl ⟨v, n, xs, rfl, HO.out, HQ.out⟩⟩
  · have HB : Hid _ := hB
    have HN : Hid _ := hN
    clear hB hN
    go_wp2
    go_ret2
    exact ⟨HB.out, .inr ⟨rfl, HN.out⟩⟩

/-- What is decoded, and that there is nothing else. -/
structure DecOk (s : ByteArray) (k e : Int) (cn : Nat) (l : List Val) : Prop where
  len : l.length = cn
  ok : ∀ x ∈ l, VC k x
  eq : columnB k e l = bytesOf s
  uni : ∀ L : List Val, L.length = cn → (∀ x ∈ L, VC k x) → Starts (bytesOf s) 0 (columnB k e L) → L = l
def DecNo (s : ByteArray) (k e : Int) (cn : Nat) : Prop := ∀ L : List Val, L.length = cn → (∀ x ∈ L, VC k x) → columnB k e L ≠ bytesOf s

theorem col_cases (cn k e : Int) : colE cn k e ≠ 0 ∨ (colE cn k e = 0 ∧ hasEncB k e = true ∧ ∃ c : Nat, cn = (c : Int) ∧ c ≤ 100) := by
  unfold colE
  by_cases h1 : cn < 0 ∨ 100 < cn
  · left; rw [if_pos h1]; omega
  · rw [if_neg h1]
    cases he : hasEncB k e with
    | false => left; simp
    | true => right; exact ⟨by simp, rfl, cn.toNat, by omega, by omega⟩

theorem boxes3 (w : World) (a b c : Obj) : (((w.alloc a).alloc b).alloc c).heap.size = w.heap.size + 3 := by simp

set_option maxRecDepth 100000 in
set_option maxHeartbeats 2000000 in
theorem cDecode_any (s : ByteArray) (k e cn : Int) (w : World) (hm : s.size ≤ maxLen) :
    Calls Try.prog 23 #[.string s, .int .i64 k, .int .i64 e, .int .i64 cn] w fun f w' => Below w.heap.size w w' ∧
      ((colE cn k e ≠ 0 ∧ f = .returned (.tuple #[.slice none 0 0, .int .i64 (colE cn k e)])) ∨
       (∃ c : Nat, cn = (c : Int) ∧ c ≤ 100 ∧ colE cn k e = 0 ∧ hasEncB k e = true ∧ ((∃ v l, f = .returned (.tuple #[v, .int .i64 0]) ∧ w'.ownsRow w.heap.size 39 3 v l.length (vcells l) ∧ DecOk s k e c l) ∨ (f = .returned (.tuple #[.slice none 0 0, .int .i64 3]) ∧ DecNo s k e c)))) := by
  have hB : Below w.heap.size w (((w.alloc (.cells #[.int .i64 k] 3)).alloc (.cells #[.int .i64 e] 3)).alloc (.cells #[.int .i64 cn] 3)) := (((Below.refl _ _).alloc (Nat.le_refl _) _).alloc (by simp) _).alloc (by simp; omega) _
  have HBH : Hid _ := hB
  have H := checkColumn_any cn k e
  have hmf : ∀ (fn : Fn) (first cap : Array Value) (w : World), (Instr.makeFunc fn first cap).run Try.prog w = .ok (.func fn first cap) w := fun _ _ _ _ => rfl
  clear hB
  rcases col_cases cn k e with hne | ⟨h0, henc, c, rfl, hc⟩
  · generalize colE cn k e = E at *
    have hEn : (E != 0) = true := by simpa using hne
    go_enter Try.func23, Try.ntmps23
    go_wp2_with (go_at_call 43; refine (H _).mono ?_; rintro r w' ⟨rfl, rfl⟩)
    go_ret2
    exact ⟨HBH.out, .inl ⟨hne, rfl⟩⟩
  · rw [h0] at H
    have c0 := (one_frozen (three_0 w (.cells #[.int .i64 k] 3 (0, 0)) (.cells #[.int .i64 e] 3 (0, 0)) (.cells #[.int .i64 (c : Int)] 3 (0, 0)))).1
    have c1 := (one_frozen (three_1 w (.cells #[.int .i64 k] 3 (0, 0)) (.cells #[.int .i64 e] 3 (0, 0)) (.cells #[.int .i64 (c : Int)] 3 (0, 0)))).1
    have c2 := (one_frozen (three_2 w (.cells #[.int .i64 k] 3 (0, 0)) (.cells #[.int .i64 e] 3 (0, 0)) (.cells #[.int .i64 (c : Int)] 3 (0, 0)))).1
    have hsz := boxes3 w (.cells #[.int .i64 k] 3) (.cells #[.int .i64 e] 3) (.cells #[.int .i64 (c : Int)] 3)
    have C0 : Hid _ := c0
    have C1 : Hid _ := c1
    have C2 : Hid _ := c2
    have HSZ : Hid _ := hsz
    have HE0 : Hid (colE (c : Int) k e = 0) := h0
    have HENC : Hid (hasEncB k e = true) := henc
    clear c0 c1 c2 hsz h0 henc
    go_enter Try.func23, Try.ntmps23
    go_wp2_with (go_at_call 43; refine (H _).mono ?_; rintro r w' ⟨rfl, rfl⟩)
    generalize (((w.alloc (.cells #[.int .i64 k] 3)).alloc (.cells #[.int .i64 e] 3)).alloc (.cells #[.int .i64 (c : Int)] 3)) = W at *
    have hsz := HSZ.out
    refine (readWholeV_any (.pointer (some ⟨w.heap.size, 0, none⟩)) (.pointer (some ⟨w.heap.size + 1, 0, none⟩)) (.pointer (some ⟨w.heap.size + 1 + 1, 0, none⟩)) s W hm 39 3
      (fun n xs q => ∃ l : List Val, n = c ∧ l.length = c ∧ xs = vcells l ∧ q = (columnB k e l).length ∧ (∀ x ∈ l, VC k x) ∧ Starts (bytesOf s) 0 (columnB k e l) ∧ ∀ L : List Val, L.length = c → (∀ x ∈ L, VC k x) → Starts (bytesOf s) 0 (columnB k e L) → L = l)
      (∀ L : List Val, L.length = c → (∀ x ∈ L, VC k x) → ¬ Starts (bytesOf s) 0 (columnB k e L))
      (fun W2 r hb hr hR => decodeC_any k e HENC.out s r c _ _ _ W2 hm hc hR ((hb.cell (p := ⟨w.heap.size, 0, none⟩) (by show w.heap.size < _; omega)).trans C0.out) ((hb.cell (p := ⟨w.heap.size + 1, 0, none⟩) (by show w.heap.size + 1 < _; omega)).trans C1.out) ((hb.cell (p := ⟨w.heap.size + 1 + 1, 0, none⟩) (by show w.heap.size + 1 + 1 < _; omega)).trans C2.out))).mono ?_
    rintro f w1 ⟨hb, ⟨v, n, xs, rfl, hown, l, rfl, hl, rfl, hq, hok, hs, hu⟩ | ⟨rfl, hN⟩⟩
    · have HB1 : Hid (Below w.heap.size w w1) := HBH.out.trans (hb.mono (by omega))
      have HO : Hid (w1.ownsRow w.heap.size 39 3 v l.length (vcells l)) := by rw [hl]; exact ownsRow_base hown (by omega)
      have HD : Hid (DecOk s k e n l) := ⟨hl, hok, starts_whole hs (by rw [bytesOf_length]; omega), hu⟩
      clear hb hown hq hok hs hu hl
      go_wp2
      go_ret2
      exact ⟨HB1.out, .inr ⟨n, rfl, hc, HE0.out, HENC.out, .inl ⟨v, l, rfl, HO.out, HD.out⟩⟩⟩
    · have HB1 : Hid (Below w.heap.size w w1) := HBH.out.trans (hb.mono (by omega))
      have HD : Hid (DecNo s k e c) := by
        intro L hL hok heq
        rcases hN with hN | ⟨n, xs, q, ⟨l, rfl, hl, rfl, hq, hok2, hs, hu⟩, hlt⟩
        · exact hN L hL hok (starts_of_eq heq)
        · have e1 := hu L hL hok (starts_of_eq heq)
          subst e1
          rw [heq, bytesOf_length] at hq
          omega
      clear hb hN
      go_wp2
      go_ret2
      exact ⟨HB1.out, .inr ⟨c, rfl, hc, HE0.out, HENC.out, .inr ⟨rfl, HD.out⟩⟩⟩
end Go.Proofs.Ytjidbonhhpkljaa.Ec

/- What Back needs: bytes of columns are bytes; the contracts of pick, clean and encodings. -/
set_option linter.unusedVariables false
namespace Go.Proofs.Ytjidbonhhpkljaa.Ec
open Go.RowKit Go.Proofs.Ytjidbonhhpkljaa.Pk Go.Proofs.Ytjidbonhhpkljaa.Pm

theorem vint_lt (n : Nat) : ∀ x ∈ vint n, x < 256 := vintF_lt 10 n
theorem runsF_lt (f : Nat) (l : List Int) : ∀ x ∈ runsF f l, x < 256 := by
  induction f generalizing l with
  | zero => simp [runsF]
  | succ f ih =>
    cases l with
    | nil => simp [runsF]
    | cons y r =>
      intro x hx
      simp only [runsF] at hx
      rcases List.mem_append.1 hx with h | h
      · exact vint_lt _ x h
      · rcases List.mem_append.1 h with h | h
        · simp at h; rw [h]; exact byteOf_lt _
        · exact ih _ x h
theorem plainB_lt (k : Int) (v : Val) : ∀ x ∈ plainB k v, x < 256 := by
  intro x hx
  unfold plainB at hx
  split at hx
  · exact vint_lt _ x hx
  · split at hx
    · simp at hx; rw [hx]; exact byteOf_lt _
    · rcases List.mem_append.1 hx with h | h
      · exact vint_lt _ x h
      · exact bytesOf_lt _ x h
theorem plainsB_lt (k : Int) (l : List Val) : ∀ x ∈ plainsB k l, x < 256 := by
  intro x hx
  unfold plainsB at hx
  obtain ⟨v, _, hv⟩ := List.mem_flatMap.1 hx
  exact plainB_lt k v x hv
theorem deltaF_lt (a : Int) (l : List Val) : ∀ x ∈ deltaF a l, x < 256 := by
  induction l generalizing a with
  | nil => simp [deltaF]
  | cons y r ih =>
    intro x hx
    simp only [deltaF] at hx
    rcases List.mem_append.1 hx with h | h
    · exact vint_lt _ x h
    · exact ih _ x h
theorem columnB_lt (k e : Int) (l : List Val) : ∀ x ∈ columnB k e l, x < 256 := by
  intro x hx
  unfold columnB at hx
  rcases List.mem_append.1 hx with h | h
  · exact runsF_lt _ _ x h
  · unfold codedB at h
    split at h
    · exact deltaF_lt _ _ x h
    · split at h
      · unfold dictB at h
        rcases List.mem_append.1 h with h | h
        · exact vint_lt _ x h
        · rcases List.mem_append.1 h with h | h
          · exact plainsB_lt _ _ x h
          · exact packBytes_lt _ _ x h
      · split at h
        · exact runsF_lt _ _ x h
        · exact plainsB_lt _ _ x h

/-- What Encode gives is decoded; what is longer or shorter is not. -/
theorem dec_there {k e : Int} {l : List Val} (hok : ∀ x ∈ l, VC k x) : ¬ DecNo (strOf (columnB k e l)) k e l.length := fun h => h l rfl hok (by rw [bytesOf_strOf _ (columnB_lt k e l)])
theorem dec_same {k e : Int} {l l' : List Val} (hok : ∀ x ∈ l, VC k x) (h : DecOk (strOf (columnB k e l)) k e l.length l') : l' = l :=
  (h.uni l rfl hok (starts_of_eq (by rw [bytesOf_strOf _ (columnB_lt k e l)]))).symm
theorem dec_longer {k e : Int} {l l' : List Val} (hok : ∀ x ∈ l, VC k x) : ¬ DecOk (strOf (columnB k e l) ++ strOf [0]) k e l.length l' := by
  intro h
  have hb : bytesOf (strOf (columnB k e l) ++ strOf [0]) = columnB k e l ++ [0] := by
    rw [← strOf_append, bytesOf_strOf]
    intro x hx
    rcases List.mem_append.1 hx with h1 | h1
    · exact columnB_lt k e l x h1
    · simp at h1; omega
  have h1 := h.uni l rfl hok (by rw [hb]; unfold Starts; rw [List.drop_zero]; exact List.prefix_append _ _)
  subst h1
  have h2 := h.eq
  rw [hb] at h2
  have := congrArg List.length h2
  simp at this
theorem dec_shorter {k e : Int} {l l' : List Val} {s : ByteArray} (hok : ∀ x ∈ l, VC k x) (hs : bytesOf s = (columnB k e l).take ((columnB k e l).length - 1)) (hne : columnB k e l ≠ []) (h : DecOk (strOf (columnB k e l)) k e l.length l) : ¬ DecOk s k e l.length l' := by
  intro h'
  have h1 := h.uni l' h'.len h'.ok (by
    rw [bytesOf_strOf _ (columnB_lt k e l), h'.eq, hs]
    unfold Starts
    rw [List.drop_zero]
    exact List.take_prefix _ _)
  subst h1
  have h2 := h'.eq
  rw [hs] at h2
  have h3 := congrArg List.length h2
  rw [List.length_take] at h3
  have h4 : 0 < (columnB k e l').length := List.length_pos_iff.2 hne
  omega

theorem tmod_pos (a n : Int) (ha : 0 ≤ a) (hn : 0 < n) : 0 ≤ a.tmod n ∧ a.tmod n < n := by
  rw [Int.tmod_eq_emod_of_nonneg ha]
  exact ⟨Int.emod_nonneg _ (by omega), Int.emod_lt_of_pos _ hn⟩
theorem tmod_neg (a n : Int) (ha : a ≤ 0) (hn : 0 < n) : 0 ≤ -(a.tmod n) ∧ -(a.tmod n) < n := by
  have := tmod_pos (-a) n (by omega) hn
  rwa [Int.neg_tmod] at this

set_option maxRecDepth 100000 in
set_option maxHeartbeats 1000000 in
theorem pick_any (c n : Int) (w : World) (hn : n = 2 ∨ n = 3) (h0 : -9223372036854775808 ≤ c) (h1 : c ≤ 9223372036854775807) : Calls Try.prog 20 #[.int .i64 c, .int .i64 n] w fun e w' => w' = w ∧ ∃ r, e = .returned (.int .i64 r) ∧ 0 ≤ r ∧ r < n := by
  by_cases hc : c < 0
  · have e1 : wrap64 (c + 1) = c + 1 := by unfold wrap64; omega
    have e2 : wrap64 (-(c + 1)) = -(c + 1) := by unfold wrap64; omega
    rcases hn with rfl | rfl
    · go_enter Try.func20, Try.ntmps20
      go_wp2
      go_ret
      exact ⟨rfl, _, rfl, tmod_neg (c + 1) 2 (by omega) (by omega)⟩
    · go_enter Try.func20, Try.ntmps20
      go_wp2
      go_ret
      exact ⟨rfl, _, rfl, tmod_neg (c + 1) 3 (by omega) (by omega)⟩
  · rcases hn with rfl | rfl
    · go_enter Try.func20, Try.ntmps20
      go_wp2
      go_ret
      exact ⟨rfl, _, rfl, by omega, by omega⟩
    · go_enter Try.func20, Try.ntmps20
      go_wp2
      go_ret
      exact ⟨rfl, _, rfl, by omega, by omega⟩

/-- A box that is written anew, above all that was there. -/
theorem box_below {w W w1 : World} {g : Nat} {a b c : Value} (a' b' c' : Value) {t : TypeId} (h : w1.heap[g]? = some (.cells #[a, b, c] t (0, 0))) (hb : Below w.heap.size w w1) (hg : w.heap.size ≤ g) :
    let W := ((w1.setCell ⟨g, 0, none⟩ a').setCell ⟨g, 1, none⟩ b').setCell ⟨g, 2, none⟩ c'
    W.cell? ⟨g, 0, none⟩ = some a' ∧ W.cell? ⟨g, 1, none⟩ = some b' ∧ W.cell? ⟨g, 2, none⟩ = some c' ∧ Below w.heap.size w W := by
  have h1 : (w1.setCell ⟨g, 0, none⟩ a').heap[g]? = some (.cells #[a', b, c] t (0, 0)) := by rw [heap_setCell_same w1 g 0 _ _ _ h]; rfl
  have h2 : ((w1.setCell ⟨g, 0, none⟩ a').setCell ⟨g, 1, none⟩ b').heap[g]? = some (.cells #[a', b', c] t (0, 0)) := by rw [heap_setCell_same _ g 1 _ _ _ h1]; rfl
  have h3 : (((w1.setCell ⟨g, 0, none⟩ a').setCell ⟨g, 1, none⟩ b').setCell ⟨g, 2, none⟩ c').heap[g]? = some (.cells #[a', b', c'] t (0, 0)) := by rw [heap_setCell_same _ g 2 _ _ _ h2]; rfl
  obtain ⟨c0, c1, c2, _⟩ := box_cells h3
  exact ⟨c0, c1, c2, ((hb.setCell hg _).setCell hg _).setCell hg _⟩

theorem two_boxes (w : World) (a b : Obj) : ((w.alloc a).alloc b).heap[w.heap.size + 1]? = some b := by
  have := heap_alloc_new (w.alloc a) b
  rwa [show (w.alloc a).heap.size = w.heap.size + 1 from by simp] at this
theorem two_first (w : World) (a b : Obj) : ((w.alloc a).alloc b).heap[w.heap.size]? = some a := by
  rw [Below.heap_alloc _ _ _ (by simp)]; exact heap_alloc_new w a

set_option maxRecDepth 100000 in
set_option maxHeartbeats 2000000 in
theorem clean_any (x : Val) (k : Int) (w : World) (hk : k = 1 ∨ k = 2 ∨ k = 3) (hx : VIn x) (hs : x.s.size ≤ maxLen) :
    Calls Try.prog 21 #[.agg #[.bool x.null, .int .i64 x.n, .string x.s], .int .i64 k] w fun e w' => Below w.heap.size w w' ∧ ∃ y : Val, e = .returned (.agg #[.bool y.null, .int .i64 y.n, .string y.s]) ∧ VC k y := by
  have HB : Hid (∀ a b : Obj, Below w.heap.size w ((w.alloc a).alloc b)) := fun a b => ((Below.refl _ _).alloc (Nat.le_refl _) _).alloc (by simp) _
  have hlo := hx.lo
  have hhi := hx.hi
  clear hx
  cases hnull : x.null with
  | true =>
    go_enter Try.func21, Try.ntmps21
    go_wp2
    simp [bodyPost, results, Try.results21, go_sem]
    exact ⟨HB.out _ _, ⟨true, 0, ⟨#[]⟩⟩, ⟨rfl, rfl, rfl⟩, .inl ⟨rfl, rfl, rfl⟩⟩
  | false =>
    rcases hk with rfl | rfl | rfl
    · go_enter Try.func21, Try.ntmps21
      go_wp2
      simp [bodyPost, results, Try.results21, go_sem]
      exact ⟨HB.out _ _, ⟨false, x.n, ⟨#[]⟩⟩, ⟨rfl, rfl, rfl⟩, .inr ⟨rfl, hlo, hhi, fun _ => rfl, fun h => by omega, fun h => by omega⟩⟩
    · have HP : Hid (∀ w, Calls Try.prog 20 #[.int .i64 x.n, .int .i64 2] w fun e w' => w' = w ∧ ∃ r, e = .returned (.int .i64 r) ∧ 0 ≤ r ∧ r < 2) := fun w => pick_any x.n 2 w (.inl rfl) hlo hhi
      go_enter Try.func21, Try.ntmps21
      go_wp2_with (go_at_call 20; refine (HP.out _).mono ?_; rintro e w' ⟨hw, r, rfl, hr0, hr1⟩; rw [hw]; clear hw w')
      simp [bodyPost, results, Try.results21, go_sem]
      exact ⟨HB.out _ _, ⟨false, r, ⟨#[]⟩⟩, ⟨rfl, rfl, rfl⟩, .inr ⟨rfl, by show _ ≤ r; omega, by show r ≤ _; omega, fun h => by omega, fun _ => ⟨by show r = 0 ∨ r = 1; omega, rfl⟩, fun h => by omega⟩⟩
    · unfold maxLen at hs
      by_cases hbig : 32 < x.s.size
      · have hxe : (x.s.extract 0 32).size = 32 := by rw [ByteArray.size_extract]; omega
        go_enter Try.func21, Try.ntmps21
        go_wp2
        simp [bodyPost, results, Try.results21, go_sem]
        exact ⟨HB.out _ _, ⟨false, 0, x.s.extract 0 32⟩, ⟨rfl, rfl, rfl⟩, .inr ⟨rfl, by show _ ≤ (0 : Int); omega, by show (0 : Int) ≤ _; omega, fun h => by omega, fun h => by omega, fun _ => ⟨rfl, by show (x.s.extract 0 32).size ≤ 32; omega⟩⟩⟩
      · go_enter Try.func21, Try.ntmps21
        go_wp2
        simp [bodyPost, results, Try.results21, go_sem]
        exact ⟨HB.out _ _, ⟨false, 0, x.s⟩, ⟨rfl, rfl, rfl⟩, .inr ⟨rfl, by show _ ≤ (0 : Int); omega, by show (0 : Int) ≤ _; omega, fun h => by omega, fun h => by omega, fun _ => ⟨rfl, by show x.s.size ≤ 32; omega⟩⟩⟩

theorem rows_at (w : World) (l : List Int) (t : TypeId) : ∀ j, j < l.length → (w.alloc (.cells (l.map (fun z => Value.int .i64 z)).toArray t)).cell? ⟨w.heap.size, 0 + j, none⟩ = some (.int .i64 (l.getD j 0)) := by
  intro j hj
  have : (w.alloc (.cells (l.map (fun z => Value.int .i64 z)).toArray t)).heap[w.heap.size]? = some (.cells (l.map (fun z => Value.int .i64 z)).toArray t (0, 0)) := heap_alloc_new w _
  simp only [World.cell?]
  rw [this]
  simp [hj, List.getD]

/-- The encodings of a kind. -/
def encsOf (k : Int) : List Int := if k = 1 then [0, 1, 2] else if k = 2 then [0, 2, 3] else [0, 2]
theorem encs_ok (k : Int) (hk : k = 1 ∨ k = 2 ∨ k = 3) : ∀ e ∈ encsOf k, hasEncB k e = true := by
  rcases hk with rfl | rfl | rfl <;> decide
theorem encs_len (k : Int) : (encsOf k).length ≤ 3 := by
  unfold encsOf
  split
  · decide
  · split <;> decide

set_option maxRecDepth 100000 in
set_option maxHeartbeats 1000000 in
theorem encodings_any (k : Int) (w : World) (hk : k = 1 ∨ k = 2 ∨ k = 3) : Calls Try.prog 22 #[.int .i64 k] w fun e w' => Below w.heap.size w w' ∧ w.heap.size < w'.heap.size ∧ e = .returned (.slice (some ⟨w.heap.size, 0, none⟩) (encsOf k).length (encsOf k).length) ∧ ∀ j, j < (encsOf k).length → w'.cell? ⟨w.heap.size, 0 + j, none⟩ = some (.int .i64 ((encsOf k).getD j 0)) := by
  rcases hk with rfl | rfl | rfl
  · have H := rows_at w [0, 1, 2] 3
    go_enter Try.func22, Try.ntmps22
    go_wp2
    go_ret
    exact ⟨(Below.refl _ _).alloc (Nat.le_refl _) _, by simp, rfl, H⟩
  · have H := rows_at w [0, 2, 3] 3
    go_enter Try.func22, Try.ntmps22
    go_wp2
    go_ret
    exact ⟨(Below.refl _ _).alloc (Nat.le_refl _) _, by simp, rfl, H⟩
  · have H := rows_at w [0, 2] 3
    go_enter Try.func22, Try.ntmps22
    go_wp2
    go_ret
    exact ⟨(Below.refl _ _).alloc (Nat.le_refl _) _, by simp, rfl, H⟩
end Go.Proofs.Ytjidbonhhpkljaa.Ec

/- The document's Values. -/
set_option linter.unusedVariables false
namespace Go.Proofs.Ytjidbonhhpkljaa.Ec
open Go.RowKit Go.Proofs.Ytjidbonhhpkljaa.Pk Go.Proofs.Ytjidbonhhpkljaa.Pm

theorem rvals_any (k e : Int) (he : hasEncB k e = true) (s : ByteArray) (r p cn : Nat) (w : World) (hm : s.size ≤ maxLen) (hcn : cn ≤ 100) (hp : p ≤ s.size) (h : w.heap[r]? = some (rb s p false)) :
    Calls Try.prog 109 #[.pointer (some ⟨r, 0, none⟩), .int .i64 k, .int .i64 e, .int .i64 cn] w fun x w' => RVals s r p cn k e w x w' := by
  obtain ⟨hk, hee⟩ := enc_kinds he
  rcases hee with rfl | rfl | rfl | rfl
  · exact rvals0 k hk s r p cn w hm hcn hp h
  · have hk1 : k = 1 := by simp [hasEncB] at he; omega
    subst hk1
    exact rvals1 s r p cn w hm hcn hp h
  · exact rvals2 k hk s r p cn w hm hcn hp h
  · have hk1 : k = 2 := by simp [hasEncB] at he; omega
    subst hk1
    exact rvals3 s r p cn w hm hcn hp h

def sumZ : List Int → Int
  | [] => 0
  | z :: r => z + sumZ r
theorem sumZ_append (a : List Int) (z : Int) : sumZ (a ++ [z]) = sumZ a + z := by
  induction a with
  | nil => simp [sumZ]
  | cons y r ih => simp [sumZ, ih]; omega
theorem sumZ_take (zs : List Int) (j : Nat) (hj : j < zs.length) : sumZ (zs.take (j + 1)) = sumZ (zs.take j) + zs.getD j 0 := by
  rw [List.take_succ_eq_append_getElem hj, sumZ_append, getD_get hj]
theorem sumZ_bound (zs : List Int) (h : ∀ z ∈ zs, 0 ≤ z ∧ z < 256) : 0 ≤ sumZ zs ∧ sumZ zs ≤ 256 * zs.length := by
  induction zs with
  | nil => simp [sumZ]
  | cons z r ih =>
    have h1 := ih (fun y hy => h y (by simp [hy]))
    have h2 := h z (by simp)
    simp [sumZ]
    omega
theorem sumZ_ones (zs : List Int) (h : Bits zs) : sumZ zs = (ones zs : Nat) := by
  unfold ones
  induction zs with
  | nil => rfl
  | cons z r ih =>
    have h1 := ih (fun y hy => h y (by simp [hy]))
    rcases h z (by simp) with rfl | rfl
    · simp [sumZ]; rw [h1]
    · simp [sumZ]; rw [h1]; omega

/-- The cells of a row of the call's own that is kept. -/
theorem Kp.isl {r : Nat} {w w1 : World} {base : Nat} {v : Value} {zs : List Int} (k : Kp r w w1) (h : w.ownsRow base 3 1 v zs.length (icells zs)) (hr : r < base) : w1.ownsRow base 3 1 v zs.length (icells zs) := Pk.Kp.own k h hr

set_option maxRecDepth 100000 in
set_option maxHeartbeats 8000000 in
theorem rValues_any (k e : Int) (he : hasEncB k e = true) (s : ByteArray) (cn : Nat) (w : World) (hm : s.size ≤ maxLen) (hcn : cn ≤ 100) :
    Calls Try.prog 77 #[.string s, .int .i64 k, .int .i64 e, .int .i64 cn] w fun x w' => Below w.heap.size w w' ∧ ∃ (ao : Option Addr) (n cap : Nat) (ok : Bool), x = .returned (.tuple #[.slice ao n cap, .bool ok]) ∧
      ((ok = true ∧ ∃ l : List Val, n = l.length ∧ w'.ownsRow w.heap.size 39 3 (.slice ao n cap) l.length (vcells l) ∧ l.length = cn ∧ (∀ y ∈ l, VC k y) ∧ columnB k e l = bytesOf s) ∨ (ok = false ∧ DecNo s k e cn)) := by
  obtain ⟨j0, hj, hy0, hy1, hy2⟩ := info_parts Try.info39
  have hk := (enc_kinds he).1
  have HE : Hid (hasEncB k e = true) := he
  clear he
  go_enter Try.func77, Try.ntmps77
  go_wp2_with fail
  have hr0 : (w.alloc (rb s 0 false)).heap[w.heap.size]? = some (rb s 0 false) := heap_alloc_new w _
  have hB0 : Below w.heap.size w (w.alloc (rb s 0 false)) := (Below.refl _ _).alloc (Nat.le_refl _) _
  have hs0 : (w.alloc (rb s 0 false)).heap.size = w.heap.size + 1 := by simp
  refine (rrun_any s w.heap.size 0 cn (w.alloc (rb s 0 false)) hm hcn (Nat.zero_le _) hr0).mono ?_
  rintro x w1 ⟨hK1, zs, v, rfl, hzl, hzr, hown1, hAt⟩
  have HB1 : Hid (Below w.heap.size w w1) := hB0.trans (hK1.below (by omega))
  have hsz1 : w.heap.size + 1 ≤ w1.heap.size := by have := hK1.size; omega
  have HO1 : Hid (w1.ownsRow (w.heap.size + 1) 3 1 v zs.length (icells zs)) := by rw [hs0] at hown1; exact hown1
  have HAT : Hid (RAt s w.heap.size w1 _) := hAt
  have HZR : Hid (∀ z ∈ zs, 0 ≤ z ∧ z < 256) := hzr
  obtain ⟨iao, ib, ioff, icap, rfl, i1, i2, i3⟩ := ISl.of_owns hown1
  have HI3 : Hid (∀ j, j < zs.length → w1.cell? ⟨ib, ioff + j, none⟩ = some (.int .i64 (zs.getD j 0))) := i3
  have HSB : Hid (∀ j, j ≤ zs.length → 0 ≤ sumZ (zs.take j) ∧ sumZ (zs.take j) ≤ 60000) := fun j hj => by
    have h1 := sumZ_bound (zs.take j) (fun z hz => hzr z (List.mem_of_mem_take hz))
    rw [List.length_take] at h1
    omega
  clear hK1 hAt hzr hown1 i3 hr0 hB0 hs0
  go_wp2_with fail
  go_loopw [12, 13] (fun nv i wr => ∃ j : Nat, j ≤ zs.length ∧ i = .int .i64 (j : Int) ∧ nv = .int .i64 (sumZ (zs.take j)) ∧ wr = w1) (fun _ i _ => zs.length - (intOf i).toNat)
  case atStart => exact ⟨0, Nat.zero_le _, rfl, rfl, rfl⟩
  case round =>
    obtain ⟨j, hjl, rfl, rfl, rfl⟩ := hrel
    by_cases hlt : j < zs.length
    · have hio := i1 (by omega)
      subst hio
      have hck := HI3.out j hlt
      have hs1 := HSB.out j (by omega)
      have hs2 := HSB.out (j + 1) (by omega)
      have hst := sumZ_take zs j hlt
      generalize zs.getD j 0 = z at *
      generalize sumZ (zs.take j) = a at *
      generalize hq : sumZ (zs.take (j + 1)) = a2 at *
      have HQ : Hid (sumZ (zs.take (j + 1)) = a2) := hq
      clear hq
      subst hst
      go_wp2
      go_roundw
      case rel => exact ⟨j + 1, by omega, by go_num, by rw [HQ.out], by trivial⟩
      case measure => simp [intOf]; omega
    · obtain rfl : j = zs.length := by omega
      rename World => w1
      rw [List.take_length]
      obtain ⟨q, b, hq, hR, hbf, hu⟩ := HAT.out
      obtain ⟨c0, c1, c2, f0, f1, f2⟩ := rb_cells hR
      have HR1 : Hid (w1.heap[w.heap.size]? = some (rb s q b)) := hR
      have HU : Hid (∀ L : List Int, L.length = cn → Bits L → Starts (bytesOf s) 0 (runsB L) → zs = L ∧ q = 0 + (runsB L).length ∧ b = false) := hu
      have HCOL : Hid (∀ L : List Val, L.length = cn → (∀ y ∈ L, VC k y) → columnB k e L = bytesOf s → zs = L.map lev ∧ q = 0 + (runsB (L.map lev)).length ∧ b = false ∧ Starts (bytesOf s) q (codedB k e (there L))) := by
        intro L h1 h2 h3
        have h4 := starts_of_eq h3
        unfold columnB at h4
        rw [starts_append] at h4
        obtain ⟨u1, u2, u3⟩ := HU.out (L.map lev) (by rw [List.length_map]; exact h1) (lev_bits L) h4.1
        exact ⟨u1, u2, u3, by rw [u2]; exact h4.2⟩
      clear hR hu c0 c1 f0 f1 f2 HAT hlt hjl
      cases b with
      | true =>
        have HNO : Hid (DecNo s k e cn) := fun L h1 h2 h3 => by have := (HCOL.out L h1 h2 h3).2.2.1; cases this
        go_wp2
        go_ret2
        exact ⟨HB1.out, none, 0, 0, false, rfl, .inr ⟨rfl, HNO.out⟩⟩
      | false =>
        obtain ⟨hzc, hbits⟩ := hbf rfl
        have HBITS : Hid (Bits zs) := hbits
        have HZC : Hid (zs.length = cn) := hzc
        have hso := sumZ_ones zs hbits
        have hon : ones zs ≤ 100 := by have := ones_le zs; omega
        rw [hso]
        clear hbf hbits hso hzc
        go_wp2_with fail
        refine (rvals_any k e HE.out s w.heap.size q (ones zs) w1 hm hon hq HR1.out).mono ?_
        rintro x w2 ⟨hK2, pres, pv, rfl, hpl, hpr, hown2, hAt2⟩
        obtain ⟨q2, b2, hq2, hR2, hu2⟩ := hAt2
        have HB2 : Hid (Below w.heap.size w w2) := HB1.out.trans (hK2.below (by omega))
        have HO2 : Hid (w2.ownsRow (w.heap.size + 1) 3 1 (.slice iao zs.length icap) zs.length (icells zs)) := hK2.own HO1.out (by omega)
        have HPR : Hid (∀ y ∈ pres, VR y) := hpr
        have HCOL2 : Hid (∀ L : List Val, L.length = cn → (∀ y ∈ L, VC k y) → columnB k e L = bytesOf s → zs = L.map lev ∧ pres = there L ∧ b2 = false ∧ pres.length = ones zs) := by
          intro L h1 h2 h3
          obtain ⟨u1, u2, u3, u4⟩ := HCOL.out L h1 h2 h3
          have hto : (there L).length = ones zs := by rw [there_ones, u1]
          obtain ⟨m1, m2⟩ := hu2 (there L) hto (there_vk h2) u4
          exact ⟨u1, m1, m2, by rw [m1]; exact hto⟩
        obtain ⟨d0, d1, d2, e0, e1, e2⟩ := rb_cells hR2
        obtain ⟨pao, pb, poff, pcap, rfl, hpv⟩ := VSl.of_owns hown2
        have HPV : Hid (VRow w2 pao pb poff pres) := hpv
        have hsz2 : w1.heap.size ≤ w2.heap.size := hK2.size
        clear hK2 hpr hown2 hu2 hR2 d0 d1 e0 e1 e2 c2 HB1 HO1 HU HCOL HR1 HI3 i1 i2 hpv
        cases b2 with
        | true =>
          have HNO : Hid (DecNo s k e cn) := fun L h1 h2 h3 => by have := (HCOL2.out L h1 h2 h3).2.2.1; cases this
          go_wp2
          go_ret2
          exact ⟨HB2.out, none, 0, 0, false, rfl, .inr ⟨rfl, HNO.out⟩⟩
        | false =>
          by_cases hpo : pres.length = ones zs
          · have hne : ((pres.length : Int) != (ones zs : Int)) = false := by simp; omega
            have HPO : Hid (pres.length = ones zs) := hpo
            obtain ⟨jao, jb, joff, jcap, hje, j1, j2, j3⟩ := ISl.of_owns HO2.out
            simp only [Value.slice.injEq] at hje
            obtain ⟨rfl, _, rfl⟩ := hje
            have HJ3 : Hid (∀ j, j < zs.length → w2.cell? ⟨jb, joff + j, none⟩ = some (.int .i64 (zs.getD j 0))) := j3
            clear hpo j3 HO2
            go_wp2_with fail
            clear d2
            go_loopw [15, 16, 17] (fun lv nv i wr => ∃ (j nx : Nat) (l : List Val), j ≤ zs.length ∧ nx ≤ j ∧ i = .int .i64 (j : Int) ∧ nv = .int .i64 (nx : Int) ∧ CSt k zs pres j nx l ∧ wr.ownsRow w2.heap.size 39 3 lv j (vcells l) ∧ Below w2.heap.size w2 wr) (fun _ _ i _ => zs.length - (intOf i).toNat)
            case atStart => exact ⟨0, 0, [], Nat.zero_le _, Nat.le_refl _, rfl, rfl, ⟨rfl, rfl, rfl, fun y hy => by simp at hy⟩, World.ownsRow_nil _ _ _ _, Below.refl _ _⟩
            case round =>
              obtain ⟨j, nx, l, hjl, hnj, rfl, rfl, hC, hown, hB⟩ := hrel
              have HC : Hid (CSt k zs pres j nx l) := hC
              have HB : Hid (Below w2.heap.size w2 wr) := hB
              have hsz := hB.size
              clear hC hB
              by_cases hlt : j < zs.length
              · have hio := j1 (by omega)
                subst hio
                have hbl := j2 (by omega)
                have hck : wr.cell? ⟨jb, joff + j, none⟩ = some (.int .i64 (zs.getD j 0)) := (HB.out.cell (p := ⟨jb, joff + j, none⟩) hbl).trans (HJ3.out j hlt)
                by_cases hz : zs.getD j 0 = 0
                · have HC2 : Hid (CSt k zs pres (j + 1) nx (l ++ [nullV])) := HC.out.null HBITS.out hlt hz
                  have hmy : mayB nullV k = true := VC.may hk (.inl ⟨rfl, rfl, rfl⟩)
                  have HMAY : Hid (∀ w, Calls Try.prog 41 #[.agg #[.bool true, .int .i64 0, .string ⟨#[]⟩], .int .i64 k] w fun e w' => e = .returned (.bool true) ∧ Below w.heap.size w w') := fun w => by have := may_any nullV k w hk; rw [hmy] at this; exact this
                  rw [hz] at hck
                  have hckb : ∀ o : Obj, (wr.alloc o).cell? ⟨jb, joff + j, none⟩ = some (.int .i64 0) := fun o => (((Below.refl wr.heap.size wr).alloc (Nat.le_refl _) o).cell (p := ⟨jb, joff + j, none⟩) (by show jb < _; omega)).trans hck
                  clear hz hmy
                  go_wp2_with (first
                    | (go_at_call 41; refine (HMAY.out _).mono ?_; rintro x w3 ⟨rfl, hb3⟩; have hbx : w3.heap[wr.heap.size]? = some (.cells #[.bool true, .int .i64 0, .string ⟨#[]⟩] 39 (0, 0)) := (hb3.block wr.heap.size (by simp)).trans (heap_alloc_new wr _); obtain ⟨y0, y1, y2, _⟩ := box_cells hbx; have hown3 := ownsRow_below (hown.alloc _) hb3; have hsz3 := hb3.size; have HB3 : Hid (Below w2.heap.size w2 w3) := (HB.out.alloc hsz _).trans (hb3.mono (by simp; omega)); clear hbx hb3)
                    | (at_builtin; refine wpList_append_keep _ rfl _ _ 30 rfl w2.heap.size 39 j0 _ 3 32 Try.underlying30 hj hy0 hy1 hy2 rfl (by decide) _ j _ rfl (hown3.alloc _) ⟨w3.heap.size, 0, none⟩ 1 1 [.bool true, .int .i64 0, .string ⟨#[]⟩] rfl (by decide) rfl (three_at _ _ _ _ _) (three_one nullV) (by unfold maxLen; omega) (by omega) (by simp at hsz3 ⊢; omega) ?_; intro v4 w4 hown4 hgr4))
                  have hg := Grew.append hgr4
                  rw [show [Value.bool true, .int .i64 0, .string ⟨#[]⟩] = [.bool nullV.null, .int .i64 nullV.n, .string nullV.s] from rfl, vcells_snoc] at hown4
                  refine ⟨⟨j + 1, nx, l ++ [nullV], by omega, by omega, by go_num, rfl, HC2.out, hown4, HB3.out.trans (hg.below (fun g h => (hown3.lt g h).1) HB3.out.size)⟩, by simp [intOf]; omega⟩
                · have hnp := HC.out.lt HBITS.out hlt hz HPO.out
                  have hz1 : zs.getD j 0 = 1 := by
                    have h3 := HBITS.out _ (List.getElem_mem hlt)
                    rw [← getD_get hlt] at h3
                    omega
                  have HONE : Hid (VK k pres[nx] → CSt k zs pres (j + 1) (nx + 1) (l ++ [pres[nx]])) := fun hv => HC.out.one HBITS.out hlt hz hnp hv
                  have HVY : Hid (VR pres[nx]) := HPR.out _ (List.getElem_mem hnp)
                  have HBADV : Hid (mayB pres[nx] k = false → DecNo s k e cn) := by
                    intro hmf L h1 h2 h3
                    have h4 := (HCOL2.out L h1 h2 h3).2.1
                    have h5 : VK k pres[nx] := there_vk h2 _ (by rw [← h4]; exact List.getElem_mem hnp)
                    rw [may_of_vk hk h5] at hmf
                    cases hmf
                  have hr := HPV.out.below HB.out
                  have hpo := hr.addr (by omega)
                  have hpbl : pb < wr.heap.size := hr.lt (by omega)
                  have hnb : ∀ o : Obj, Below wr.heap.size wr (wr.alloc o) := fun o => (Below.refl wr.heap.size wr).alloc (Nat.le_refl _) o
                  rw [hz1] at hck
                  have hckb : ∀ o : Obj, (wr.alloc o).cell? ⟨jb, joff + j, none⟩ = some (.int .i64 1) := fun o => ((hnb o).cell (p := ⟨jb, joff + j, none⟩) (by show jb < _; omega)).trans hck
                  have p0 : ∀ o : Obj, (wr.alloc o).cell? ⟨pb, poff + nx * 3, none⟩ = some (.bool pres[nx].null) := fun o => ((hnb o).cell (p := ⟨pb, poff + nx * 3, none⟩) hpbl).trans (hr.c0 nx hnp)
                  have p1 : ∀ o : Obj, (wr.alloc o).cell? ⟨pb, poff + nx * 3 + 1, none⟩ = some (.int .i64 pres[nx].n) := fun o => ((hnb o).cell (p := ⟨pb, poff + nx * 3 + 1, none⟩) hpbl).trans (hr.c1 nx hnp)
                  have p2 : ∀ o : Obj, (wr.alloc o).cell? ⟨pb, poff + nx * 3 + 2, none⟩ = some (.string pres[nx].s) := fun o => ((hnb o).cell (p := ⟨pb, poff + nx * 3 + 2, none⟩) hpbl).trans (hr.c2 nx hnp)
                  rw [hpo] at *
                  generalize pres[nx] = y at *
                  clear hz hz1 hr hnb
                  cases hmy : mayB y k with
                  | true =>
                    have HVC : Hid (CSt k zs pres (j + 1) (nx + 1) (l ++ [y])) := HONE.out (vk_of_may hk HVY.out.there HVY.out.vin hmy)
                    have HMAY : Hid (∀ w, Calls Try.prog 41 #[.agg #[.bool y.null, .int .i64 y.n, .string y.s], .int .i64 k] w fun e w' => e = .returned (.bool true) ∧ Below w.heap.size w w') := fun w => by have := may_any y k w hk; rw [hmy] at this; exact this
                    clear hmy
                    go_wp2_with (first
                      | (go_at_call 41; refine (HMAY.out _).mono ?_; rintro x w3 ⟨rfl, hb3⟩; have hbx : w3.heap[wr.heap.size]? = some (.cells #[.bool y.null, .int .i64 y.n, .string y.s] 39 (0, 0)) := (hb3.block wr.heap.size (by simp)).trans (heap_alloc_new wr _); obtain ⟨y0, y1, y2, _⟩ := box_cells hbx; have hown3 := ownsRow_below (hown.alloc _) hb3; have hsz3 := hb3.size; have HB3 : Hid (Below w2.heap.size w2 w3) := (HB.out.alloc hsz _).trans (hb3.mono (by simp; omega)); clear hbx hb3)
                      | (at_builtin; refine wpList_append_keep _ rfl _ _ 30 rfl w2.heap.size 39 j0 _ 3 32 Try.underlying30 hj hy0 hy1 hy2 rfl (by decide) _ j _ rfl (hown3.alloc _) ⟨w3.heap.size, 0, none⟩ 1 1 [.bool y.null, .int .i64 y.n, .string y.s] rfl (by decide) rfl (three_at _ _ _ _ _) (three_one y) (by unfold maxLen; omega) (by omega) (by simp at hsz3 ⊢; omega) ?_; intro v4 w4 hown4 hgr4))
                    have hg := Grew.append hgr4
                    rw [vcells_snoc] at hown4
                    refine ⟨⟨j + 1, nx + 1, l ++ [y], by omega, by omega, by go_num, by go_num, HVC.out, hown4, HB3.out.trans (hg.below (fun g h => (hown3.lt g h).1) HB3.out.size)⟩, by simp [intOf]; omega⟩
                  | false =>
                    have HNO : Hid (DecNo s k e cn) := HBADV.out hmy
                    have HMAY : Hid (∀ w, Calls Try.prog 41 #[.agg #[.bool y.null, .int .i64 y.n, .string y.s], .int .i64 k] w fun e w' => e = .returned (.bool false) ∧ Below w.heap.size w w') := fun w => by have := may_any y k w hk; rw [hmy] at this; exact this
                    clear hmy
                    go_wp2_with (go_at_call 41; refine (HMAY.out _).mono ?_; rintro x w3 ⟨rfl, hb3⟩; have HB3 : Hid (Below w2.heap.size w2 w3) := (HB.out.alloc hsz _).trans (hb3.mono (by simp; omega)); clear hb3)
                    go_ret2
                    exact ⟨HB2.out.trans (HB3.out.mono (by omega)), none, 0, 0, false, rfl, .inr ⟨rfl, HNO.out⟩⟩
              · obtain rfl : j = zs.length := by omega
                have c1 := HC.out.lv
                have c2 := HC.out.th
                have c3 := HC.out.nx_
                rw [List.take_length] at c1 c3
                rw [c3, ← HPO.out, List.take_length] at c2
                have hll : l.length = zs.length := by rw [← c1, List.length_map]
                have HLL : Hid (l.length = zs.length) := hll
                have HC1 : Hid (l.map lev = zs) := c1
                have HC2 : Hid (there l = pres) := c2
                obtain ⟨lao, lcap, hlv⟩ := own_shape hown
                subst hlv
                have HO : Hid (wr.ownsRow w2.heap.size 39 3 (.slice lao zs.length lcap) l.length (vcells l)) := by rw [hll]; exact hown
                have HCH : Hid (Calls Try.prog 42 #[.slice lao zs.length lcap, .int .i64 k, .int .i64 e] wr fun r w' => r = .returned (.string (strOf (columnB k e l))) ∧ Below wr.heap.size wr w') := chunk_any _ l k e wr hk (enc_kinds HE.out).2 (fun x hx => vok_of_may (HC.out.ok x hx).vin ((HC.out.ok x hx).may hk)) (by rw [hll, HZC.out]; exact hcn) (VSl.of_owns HO.out)
                clear hown c1 c2 c3 hll
                go_wp2_with fail
                refine HCH.out.mono ?_
                rintro x w3 ⟨rfl, hb3⟩
                have HB3 : Hid (Below w.heap.size w w3) := HB2.out.trans ((HB.out.trans (hb3.mono hsz)).mono (by omega))
                have HO3 : Hid (w3.ownsRow w2.heap.size 39 3 (.slice lao zs.length lcap) l.length (vcells l)) := ownsRow_below HO.out hb3
                clear hb3 HO HCH
                go_wp2
                go_ret2
                refine ⟨HB3.out, lao, zs.length, lcap, _, rfl, ?_⟩
                by_cases heq : strOf (columnB k e l) = s
                · left
                  refine ⟨by rw [heq]; simp, l, HLL.out.symm, ownsRow_base HO3.out (by omega), by rw [HLL.out]; exact HZC.out, HC.out.ok, ?_⟩
                  rw [← heq, bytesOf_strOf _ (columnB_lt k e l)]
                · right
                  refine ⟨?_, ?_⟩
                  · rw [beq_eq_false_iff_ne]
                    intro h0
                    exact heq (toList_inj h0)
                  · intro L h1 h2 h3
                    obtain ⟨m1, m2, m3, m4⟩ := HCOL2.out L h1 h2 h3
                    have : l = L := mix_one l L HC.out.ok h2 (by rw [HC1.out, m1]) (by rw [HC2.out, m2])
                    subst this
                    apply heq
                    rw [h3, strOf_bytesOf]
          · have HNO : Hid (DecNo s k e cn) := fun L h1 h2 h3 => hpo (HCOL2.out L h1 h2 h3).2.2.2
            have hne : ((pres.length : Int) != (ones zs : Int)) = true := by simp; omega
            clear hpo
            go_wp2
            go_ret2
            exact ⟨HB2.out, none, 0, 0, false, rfl, .inr ⟨rfl, HNO.out⟩⟩
end Go.Proofs.Ytjidbonhhpkljaa.Ec

/- The document's Decode. -/
set_option linter.unusedVariables false
namespace Go.Proofs.Ytjidbonhhpkljaa.Ec
open Go.RowKit Go.Proofs.Ytjidbonhhpkljaa.Pk Go.Proofs.Ytjidbonhhpkljaa.Pm

/-- What the document's Decode answers. -/
def RDec (s : ByteArray) (k e cn : Int) (w : World) (f : Ending) (w' : World) : Prop := Below w.heap.size w w' ∧
      ((colE cn k e ≠ 0 ∧ f = .returned (.tuple #[.slice none 0 0, .int .i64 (colE cn k e)])) ∨
       (∃ c : Nat, cn = (c : Int) ∧ c ≤ 100 ∧ colE cn k e = 0 ∧ hasEncB k e = true ∧ ((∃ v l, f = .returned (.tuple #[v, .int .i64 0]) ∧ w'.ownsRow w.heap.size 39 3 v l.length (vcells l) ∧ l.length = c ∧ (∀ y ∈ l, VC k y) ∧ columnB k e l = bytesOf s) ∨ (f = .returned (.tuple #[.slice none 0 0, .int .i64 3]) ∧ DecNo s k e c))))

set_option maxRecDepth 100000 in
set_option maxHeartbeats 2000000 in
theorem rDecode_any (s : ByteArray) (k e cn : Int) (w : World) (hm : s.size ≤ maxLen) :
    Calls Try.prog 46 #[.string s, .int .i64 k, .int .i64 e, .int .i64 cn] w fun f w' => RDec s k e cn w f w' := by
  have HF := fits_any k e
  by_cases h1 : cn < 0 ∨ 100 < cn
  · have hE : colE cn k e = 6 := by unfold colE; rw [if_pos h1]
    have HE6 : Hid (colE cn k e = 6) := hE
    clear hE HF
    go_enter Try.func46, Try.ntmps46
    go_wp2
    all_goals
      go_ret2
      exact ⟨Below.refl _ _, .inl ⟨by rw [HE6.out]; decide, by rw [HE6.out]; rfl⟩⟩
  · obtain ⟨c, rfl⟩ := Int.eq_ofNat_of_zero_le (show 0 ≤ cn by omega)
    have hc : c ≤ 100 := by omega
    cases he : hasEncB k e with
    | false =>
      have hE : colE (c : Int) k e = 2 := by unfold colE; rw [if_neg h1, he]; rfl
      have HE2 : Hid (colE (c : Int) k e = 2) := hE
      rw [he] at HF
      clear hE he h1
      go_enter Try.func46, Try.ntmps46
      go_wp2_with (go_at_call 40; refine (HF _).mono ?_; rintro r w' ⟨rfl, rfl⟩)
      go_ret2
      exact ⟨Below.refl _ _, .inl ⟨by rw [HE2.out]; decide, by rw [HE2.out]; rfl⟩⟩
    | true =>
      have hE : colE (c : Int) k e = 0 := by unfold colE; rw [if_neg h1, he]; rfl
      have HE0 : Hid (colE (c : Int) k e = 0) := hE
      rw [he] at HF
      have HE : Hid (hasEncB k e = true) := he
      clear hE he h1
      go_enter Try.func46, Try.ntmps46
      go_wp2_with (go_at_call 40; refine (HF _).mono ?_; rintro r w' ⟨rfl, hw⟩; rw [hw]; clear hw w')
      refine (rValues_any k e HE.out s c _ hm hc).mono ?_
      rintro f w1 ⟨hb, ao, n, cap, ok, rfl, ⟨rfl, l, rfl, hown, hl, hok, hcol⟩ | ⟨rfl, hno⟩⟩
      · have HB : Hid _ := hb
        have HO : Hid (w1.ownsRow w.heap.size 39 3 (.slice ao l.length cap) l.length (vcells l)) := hown
        have HL : Hid (l.length = c) := hl
        have HOK : Hid (∀ y ∈ l, VC k y) := hok
        have HC : Hid (columnB k e l = bytesOf s) := hcol
        clear hb hown hl hok hcol HF
        go_wp2
        go_ret2
        exact ⟨HB.out, .inr ⟨c, rfl, hc, HE0.out, HE.out, .inl ⟨_, l, rfl, HO.out, HL.out, HOK.out, HC.out⟩⟩⟩
      · have HB : Hid _ := hb
        have HN : Hid (DecNo s k e c) := hno
        clear hb hno HF
        go_wp2
        go_ret2
        exact ⟨HB.out, .inr ⟨c, rfl, hc, HE0.out, HE.out, .inr ⟨rfl, HN.out⟩⟩⟩
end Go.Proofs.Ytjidbonhhpkljaa.Ec
