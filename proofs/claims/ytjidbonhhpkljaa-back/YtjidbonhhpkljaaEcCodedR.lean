/- Values that are there, in each encoding: the document's side. -/
import Derived.Test.YtjidbonhhpkljaaEcColumnC
set_option linter.unusedVariables false
namespace Go.Proofs.Ytjidbonhhpkljaa.Ec
open Go.RowKit Go.Proofs.Ytjidbonhhpkljaa.Pk Go.Proofs.Ytjidbonhhpkljaa.Pm

theorem runsG (lv : Value) (zs : List Int) (w : World) (hz : zs.length ≤ 100) (h : ISl w lv zs) :
    Calls Try.prog 68 #[lv] w fun e w' => e = .returned (.string (strOf (runsB zs))) ∧ Below w.heap.size w w' := by
  obtain ⟨ao, b, off, cap, rfl, h1, h2, h3⟩ := h
  exact runs_any zs ao b off cap w hz h1 h2 h3

theorem bitsG (lv : Value) (ps : List Nat) (wd : Nat) (w : World) (hw : wd ≤ 16) (hl : ps.length ≤ 100) (hp : ∀ p ∈ ps, p < 2 ^ wd) (h : ISl w lv (ints ps)) :
    Calls Try.prog 35 #[lv, .int .i64 wd] w fun e w' => e = .returned (.string (strOf (packBytes wd ps))) ∧ Below w.heap.size w w' := by
  obtain ⟨ao, b, off, cap, rfl, h1, h2, h3⟩ := h
  have hlen : (ints ps).length = ps.length := List.length_map _
  have hto : (ints ps).map Int.toNat = ps := by
    unfold ints
    rw [List.map_map, List.map_congr_left (g := id) (fun x _ => by simp)]
    simp
  have hf : fitsW wd (ints ps) = true := by
    apply fitsW_all
    intro j hj
    have hj' : j < ps.length := by omega
    have e : (ints ps)[j] = (ps[j] : Int) := by simp [ints]
    have := hp _ (List.getElem_mem hj')
    rw [e]
    unfold pw
    omega
  have := bits_ints (ints ps) wd ao b off cap w hw (by omega) hf h1 h2 h3
  rwa [hto] at this

theorem plc_in {d : List Val} {x : Val} (h : idx d x < d.length) : plc d x = (idx d x : Int) := by unfold plc; rw [if_pos h]
theorem plc_out {d : List Val} {x : Val} (h : ¬ idx d x < d.length) : plc d x = -1 := by unfold plc; rw [if_neg h]

/-- The differing values, one round further. -/
theorem dnext_in {S : List Val × List Nat} {x : Val} (h : idx S.1 x < S.1.length) : dstep S x = (S.1, S.2 ++ [idx S.1 x]) := by
  unfold dstep
  have e : ins S.1 x = S.1 := by unfold ins; rw [if_pos h]
  rw [e]
theorem dnext_out {S : List Val × List Nat} {x : Val} (h : ¬ idx S.1 x < S.1.length) : dstep S x = (S.1 ++ [x], S.2 ++ [S.1.length]) := by
  have h1 := idx_ins S.1 x
  unfold dstep
  rw [h1.1, h1.2.2 h]
  have e : ins S.1 x = S.1 ++ [x] := by unfold ins; rw [if_neg h]
  rw [e]

theorem place_new {w : World} {base : Nat} {v : Value} {d : List Val} {x : Val} (ho : w.ownsRow base 39 3 v (d.length + 1) (vcells d ++ [.bool x.null, .int .i64 x.n, .string x.s])) (hin : ¬ idx d x < d.length) (hl : d.length + 1 ≤ 100) :
    Calls Try.prog 102 #[v, .agg #[.bool x.null, .int .i64 x.n, .string x.s]] w fun e w' => e = .returned (.int .i64 (d.length : Int)) ∧ Below w.heap.size w w' := by
  rw [← vcells_one, ← vcells_append] at ho
  have hlen : (d ++ [x]).length = d.length + 1 := by simp
  have h := place_any (d ++ [x]) v x w (VSl.of_owns (base := base) (by rw [hlen]; exact ho)) (by omega)
  have hi := idx_append_out d x hin x
  rw [veq_iff.2 rfl, if_pos rfl] at hi
  rw [plc_in (by omega), hi] at h
  exact h

set_option maxRecDepth 100000 in
set_option maxHeartbeats 8000000 in
theorem coded0_any (lv : Value) (l : List Val) (k : Int) (w : World) (hk : k = 1 ∨ k = 2 ∨ k = 3) (hv : ∀ x ∈ l, VOk x) (hn : l.length ≤ 100) (hvs : VSl w lv l) :
    Calls Try.prog 69 #[lv, .int .i64 k, .int .i64 0] w fun r w' => r = .returned (.string (strOf (plainsB k l))) ∧ Below w.heap.size w w' := by
  obtain ⟨i0, hi, hz0, hz1, hz2⟩ := info_parts Try.info3
  obtain ⟨j0, hj, hy0, hy1, hy2⟩ := info_parts Try.info39
  obtain ⟨ao, b, off, cap, rfl, hr⟩ := hvs
  have HVO : Hid (∀ x ∈ l, VOk x) := hv
  have HR : Hid (VRow w ao b off l) := hr
  have HOK : Hid (∀ j, j ≤ l.length → (dfold (l.take j)).1.length ≤ j ∧ (dfold (l.take j)).2.length = j ∧ (∀ p ∈ (dfold (l.take j)).2, p < (dfold (l.take j)).1.length) ∧ (∀ x ∈ (dfold (l.take j)).1, x ∈ l)) := dfold_ok l
  clear hv hr
  go_enter Try.func69, Try.ntmps69
  go_wp2_with fail
  go_loopw [7, 8, 9, 10, 11] (fun sv dv li la i wr => ∃ (j : Nat), j ≤ l.length ∧ i = .int .i64 j ∧ sv = .string (strOf (plainsB k (l.take j))) ∧ li = .slice none 0 0 ∧ la = .int .i64 0 ∧ wr.ownsRow w.heap.size 39 3 dv (dfold (l.take j)).1.length (vcells (dfold (l.take j)).1) ∧ Below w.heap.size w wr) (fun _ _ _ _ i _ => l.length - (intOf i).toNat)
  case atStart => exact ⟨0, Nat.zero_le _, rfl, rfl, rfl, rfl, World.ownsRow_nil _ _ _ _, Below.refl _ _⟩
  case round =>
    obtain ⟨j, hjl, rfl, rfl, rfl, rfl, hd, hbel⟩ := hrel
    have HB : Hid (Below w.heap.size w wr) := hbel
    have hsz : w.heap.size ≤ wr.heap.size := hbel.size
    obtain ⟨hd1, hd2, hd3, hd4⟩ := HOK.out j hjl
    by_cases hlt : j < l.length
    · obtain rfl := HR.out.addr (by omega)
      have HC : Hid (∀ W, Below w.heap.size w W → W.cell? ⟨b, off + j * 3, none⟩ = some (.bool l[j].null) ∧ W.cell? ⟨b, off + j * 3 + 1, none⟩ = some (.int .i64 l[j].n) ∧ W.cell? ⟨b, off + j * 3 + 2, none⟩ = some (.string l[j].s)) := fun W hW =>
        ⟨(HR.out.below hW).c0 j hlt, (HR.out.below hW).c1 j hlt, (HR.out.below hW).c2 j hlt⟩
      obtain ⟨p0, p1, p2⟩ := HC.out wr hbel
      have HX : Hid (VOk l[j]) := HVO.out _ (List.getElem_mem hlt)
      have HDS : Hid (dfold (l.take (j + 1)) = dstep (dfold (l.take j)) l[j]) := dfold_succ l j hlt
      have HT : Hid (plainsB k (l.take (j + 1)) = plainsB k (l.take j) ++ plainB k l[j]) := plainsB_take k l j hlt
      have hpl : (strOf (plainsB k (l.take j))).size ≤ 4200 := by
        have := plainsB_length k (l.take j) (fun x hx => HVO.out x (List.mem_of_mem_take hx))
        rw [List.length_take] at this
        rw [Pk.strOf_size]
        omega
      clear hbel HR
      generalize l[j] = x at *
      generalize dfold (l.take j) = S at *
      obtain ⟨d, ps⟩ := S
      simp only at hd1 hd2 hd3 hd4 hd
      have hpl2 : (strOf (plainB k x)).size ≤ 42 := by rw [Pk.strOf_size]; exact plainB_length k x HX.out.sz
      have HPN : Hid (∀ W, Calls Try.prog 88 #[.agg #[.bool x.null, .int .i64 x.n, .string x.s], .int .i64 k] W fun e w' => e = .returned (.string (strOf (plainB k x))) ∧ Below W.heap.size W w') := fun W => plain_any x k W hk HX.out
      have HSN : Hid (strOf (plainsB k (l.take (j + 1))) = strOf (plainsB k (l.take j)) ++ strOf (plainB k x)) := by show _ = _; rw [HT.out, strOf_append]
      clear HT
      generalize strOf (plainsB k (l.take j)) = A at *
      generalize strOf (plainB k x) = C at *
      have hs1 : ¬ 9223372036854775807 < A.size + C.size := by omega
      have HPL : Hid (Calls Try.prog 102 #[u8, .agg #[.bool x.null, .int .i64 x.n, .string x.s]] wr fun e w' => e = .returned (.int .i64 (plc d x)) ∧ Below wr.heap.size wr w') := place_any d u8 x wr (VSl.of_owns hd) (by omega)
      by_cases hin : idx d x < d.length
      · have HDN : Hid (dstep (d, ps) x = (d, ps ++ [idx d x])) := dnext_in hin
        have HPC := plc_in hin
        rw [HPC] at HPL
        clear hd3 hd4
        generalize idx d x = I at *
        go_wp2_with fail
        refine HPL.out.mono ?_
        rintro e w1 ⟨rfl, hb1⟩
        have hbw1 : Below w.heap.size w w1 := HB.out.trans (hb1.mono hsz)
        obtain ⟨q0, q1, q2⟩ := HC.out w1 hbw1
        have hd1' := ownsRow_below hd hb1
        have hsz1 := hb1.size
        clear HPL
        go_wp2_with first
          | (go_at_call 88; refine (HPN.out _).mono ?_; rintro e w3 ⟨rfl, hb3⟩)
        go_roundw
        case rel => exact ⟨j + 1, by omega, by go_num, by rw [HSN.out], rfl, rfl, by rw [HDS.out, HDN.out]; exact ownsRow_below hd1' hb3, hbw1.trans (hb3.mono hbw1.size)⟩
        case measure => simp [intOf]; omega
      · have HDN : Hid (dstep (d, ps) x = (d ++ [x], ps ++ [d.length])) := dnext_out hin
        have HPC := plc_out hin
        rw [HPC] at HPL
        clear hd3 hd4
        go_wp2_with fail
        refine HPL.out.mono ?_
        rintro e w1 ⟨rfl, hb1⟩
        have hbw1 : Below w.heap.size w w1 := HB.out.trans (hb1.mono hsz)
        obtain ⟨q0, q1, q2⟩ := HC.out w1 hbw1
        have hd1' := ownsRow_below hd hb1
        have hsz1 := hb1.size
        clear HPL
        go_wp2_with first
          | (at_builtin; refine wpList_append_keep _ rfl _ _ 30 rfl w.heap.size 39 j0 _ 3 32 Try.underlying30 hj hy0 hy1 hy2 rfl (by decide) _ d.length _ rfl (hd1'.alloc _) ⟨w1.heap.size, 0, none⟩ 1 1 [.bool x.null, .int .i64 x.n, .string x.s] rfl (by decide) rfl (three_at _ _ _ _ _) (three_one x) (by unfold maxLen; omega) (by omega) (by simp; omega) ?_; intro v2 w2 hown2 hgr2; have hg2 := Grew.append hgr2; have hbw2 : Below w.heap.size w w2 := hbw1.trans (hg2.below (fun g hg => (hd1'.lt g hg).1) hbw1.size); obtain ⟨r0, r1, r2⟩ := HC.out w2 hbw2; have hsz2 := hg2.by_.size)
          | (go_at_call 88; refine (HPN.out _).mono ?_; rintro e w3 ⟨rfl, hb3⟩)
        rw [← vcells_one, ← vcells_append] at hown2
        go_roundw
        case rel => exact ⟨j + 1, by omega, by go_num, by rw [HSN.out], rfl, rfl, by rw [HDS.out, HDN.out]; simpa using ownsRow_below hown2 hb3, hbw2.trans (hb3.mono hbw2.size)⟩
        case measure => simp [intOf]; omega
    · have hj2 : l.take j = l := List.take_of_length_le (by omega)
      have HE : Hid (strOf (plainsB k (l.take j)) = strOf (plainsB k l)) := by show _ = _; rw [hj2]
      clear hj2 hd1 hd2 hd3 hd4 hd hbel
      generalize strOf (plainsB k (l.take j)) = A at *
      go_wp2
      go_ret
      exact ⟨by rw [← HE.out]; rfl, HB.out⟩

set_option maxRecDepth 100000 in
set_option maxHeartbeats 8000000 in
theorem coded1_any (lv : Value) (l : List Val) (k : Int) (w : World) (hk : k = 1 ∨ k = 2 ∨ k = 3) (hv : ∀ x ∈ l, VOk x) (hn : l.length ≤ 100) (hvs : VSl w lv l) :
    Calls Try.prog 69 #[lv, .int .i64 k, .int .i64 1] w fun r w' => r = .returned (.string (strOf (deltaF 0 l))) ∧ Below w.heap.size w w' := by
  obtain ⟨i0, hi, hz0, hz1, hz2⟩ := info_parts Try.info3
  obtain ⟨j0, hj, hy0, hy1, hy2⟩ := info_parts Try.info39
  obtain ⟨ao, b, off, cap, rfl, hr⟩ := hvs
  have HVO : Hid (∀ x ∈ l, VOk x) := hv
  have HR : Hid (VRow w ao b off l) := hr
  have HOK : Hid (∀ j, j ≤ l.length → (dfold (l.take j)).1.length ≤ j ∧ (dfold (l.take j)).2.length = j ∧ (∀ p ∈ (dfold (l.take j)).2, p < (dfold (l.take j)).1.length) ∧ (∀ x ∈ (dfold (l.take j)).1, x ∈ l)) := dfold_ok l
  clear hv hr
  go_enter Try.func69, Try.ntmps69
  go_wp2_with fail
  go_loopw [7, 8, 9, 10, 11] (fun sv dv li la i wr => ∃ (j : Nat), j ≤ l.length ∧ i = .int .i64 j ∧ sv = .string (strOf (deltaF 0 (l.take j))) ∧ li = .slice none 0 0 ∧ la = .int .i64 (lastF 0 (l.take j)) ∧ wr.ownsRow w.heap.size 39 3 dv (dfold (l.take j)).1.length (vcells (dfold (l.take j)).1) ∧ Below w.heap.size w wr) (fun _ _ _ _ i _ => l.length - (intOf i).toNat)
  case atStart => exact ⟨0, Nat.zero_le _, rfl, rfl, rfl, rfl, World.ownsRow_nil _ _ _ _, Below.refl _ _⟩
  case round =>
    obtain ⟨j, hjl, rfl, rfl, rfl, rfl, hd, hbel⟩ := hrel
    have HB : Hid (Below w.heap.size w wr) := hbel
    have hsz : w.heap.size ≤ wr.heap.size := hbel.size
    obtain ⟨hd1, hd2, hd3, hd4⟩ := HOK.out j hjl
    by_cases hlt : j < l.length
    · obtain rfl := HR.out.addr (by omega)
      have HC : Hid (∀ W, Below w.heap.size w W → W.cell? ⟨b, off + j * 3, none⟩ = some (.bool l[j].null) ∧ W.cell? ⟨b, off + j * 3 + 1, none⟩ = some (.int .i64 l[j].n) ∧ W.cell? ⟨b, off + j * 3 + 2, none⟩ = some (.string l[j].s)) := fun W hW =>
        ⟨(HR.out.below hW).c0 j hlt, (HR.out.below hW).c1 j hlt, (HR.out.below hW).c2 j hlt⟩
      obtain ⟨p0, p1, p2⟩ := HC.out wr hbel
      have HX : Hid (VOk l[j]) := HVO.out _ (List.getElem_mem hlt)
      have HDS : Hid (dfold (l.take (j + 1)) = dstep (dfold (l.take j)) l[j]) := dfold_succ l j hlt
      have HT : Hid (deltaF 0 (l.take (j + 1)) = deltaF 0 (l.take j) ++ vint (zz (wrap64 (l[j].n - lastF 0 (l.take j))))) := by show _ = _; rw [List.take_succ_eq_append_getElem hlt, deltaF_snoc]
      have HLL : Hid (lastF 0 (l.take (j + 1)) = l[j].n) := by show _ = _; rw [List.take_succ_eq_append_getElem hlt, lastF_snoc]
      have hpl : (strOf (deltaF 0 (l.take j))).size ≤ 1000 := by
        have := deltaF_length 0 (l.take j)
        rw [List.length_take] at this
        rw [Pk.strOf_size]
        omega
      obtain ⟨hlo, hhi⟩ := lastF_ok (l.take j) (fun x hx => HVO.out x (List.mem_of_mem_take hx)) 0 (by omega) (by omega)
      clear hbel HR
      generalize l[j] = x at *
      generalize dfold (l.take j) = S at *
      obtain ⟨d, ps⟩ := S
      simp only at hd1 hd2 hd3 hd4 hd
      generalize lastF 0 (l.take j) = a at *
      obtain ⟨hw0, hw1⟩ := wrap64_range (x.n - a)
      have hvl := vintF_length 10 (zz (wrap64 (x.n - a)))
      have hpl2 : (strOf (vint (zz (wrap64 (x.n - a))))).size ≤ 10 := by rw [Pk.strOf_size]; unfold vint; omega
      have HZ : Hid (∀ W, Calls Try.prog 103 #[.int .i64 (wrap64 (x.n - a))] W fun e w' => e = .returned (.int .u64 (zz (wrap64 (x.n - a)))) ∧ w' = W) := fun W => zigzag_any _ hw0 hw1 W
      have HV : Hid (∀ W, Calls Try.prog 87 #[.int .u64 (zz (wrap64 (x.n - a)))] W fun e w' => e = .returned (.string (strOf (vint (zz (wrap64 (x.n - a)))))) ∧ Below W.heap.size W w') := fun W => varint_any _ W (zz_lt _ hw0 hw1)
      have HSN : Hid (strOf (deltaF 0 (l.take (j + 1))) = strOf (deltaF 0 (l.take j)) ++ strOf (vint (zz (wrap64 (x.n - a))))) := by show _ = _; rw [HT.out, strOf_append]
      clear HT hvl
      generalize strOf (deltaF 0 (l.take j)) = A at *
      generalize strOf (vint (zz (wrap64 (x.n - a)))) = C at *
      have hs1 : ¬ 9223372036854775807 < A.size + C.size := by omega
      have HPL : Hid (Calls Try.prog 102 #[u8, .agg #[.bool x.null, .int .i64 x.n, .string x.s]] wr fun e w' => e = .returned (.int .i64 (plc d x)) ∧ Below wr.heap.size wr w') := place_any d u8 x wr (VSl.of_owns hd) (by omega)
      by_cases hin : idx d x < d.length
      · have HDN : Hid (dstep (d, ps) x = (d, ps ++ [idx d x])) := dnext_in hin
        have HPC := plc_in hin
        rw [HPC] at HPL
        clear hd3 hd4
        generalize idx d x = I at *
        go_wp2_with fail
        refine HPL.out.mono ?_
        rintro e w1 ⟨rfl, hb1⟩
        have hbw1 : Below w.heap.size w w1 := HB.out.trans (hb1.mono hsz)
        obtain ⟨q0, q1, q2⟩ := HC.out w1 hbw1
        have hd1' := ownsRow_below hd hb1
        have hsz1 := hb1.size
        clear HPL
        go_wp2_with first
          | (go_at_call 103; refine (HZ.out _).mono ?_; rintro e w4 ⟨rfl, rfl⟩)
          | (go_at_call 87; refine (HV.out _).mono ?_; rintro e w3 ⟨rfl, hb3⟩; obtain ⟨s0, s1, s2⟩ := HC.out w3 (hbw1.trans (hb3.mono hbw1.size)))
        go_roundw
        case rel => exact ⟨j + 1, by omega, by go_num, by rw [HSN.out], rfl, by rw [HLL.out], by rw [HDS.out, HDN.out]; exact ownsRow_below hd1' hb3, hbw1.trans (hb3.mono hbw1.size)⟩
        case measure => simp [intOf]; omega
      · have HDN : Hid (dstep (d, ps) x = (d ++ [x], ps ++ [d.length])) := dnext_out hin
        have HPC := plc_out hin
        rw [HPC] at HPL
        clear hd3 hd4
        go_wp2_with fail
        refine HPL.out.mono ?_
        rintro e w1 ⟨rfl, hb1⟩
        have hbw1 : Below w.heap.size w w1 := HB.out.trans (hb1.mono hsz)
        obtain ⟨q0, q1, q2⟩ := HC.out w1 hbw1
        have hd1' := ownsRow_below hd hb1
        have hsz1 := hb1.size
        clear HPL
        go_wp2_with first
          | (at_builtin; refine wpList_append_keep _ rfl _ _ 30 rfl w.heap.size 39 j0 _ 3 32 Try.underlying30 hj hy0 hy1 hy2 rfl (by decide) _ d.length _ rfl (hd1'.alloc _) ⟨w1.heap.size, 0, none⟩ 1 1 [.bool x.null, .int .i64 x.n, .string x.s] rfl (by decide) rfl (three_at _ _ _ _ _) (three_one x) (by unfold maxLen; omega) (by omega) (by simp; omega) ?_; intro v2 w2 hown2 hgr2; have hg2 := Grew.append hgr2; have hbw2 : Below w.heap.size w w2 := hbw1.trans (hg2.below (fun g hg => (hd1'.lt g hg).1) hbw1.size); obtain ⟨r0, r1, r2⟩ := HC.out w2 hbw2; have hsz2 := hg2.by_.size)
          | (go_at_call 103; refine (HZ.out _).mono ?_; rintro e w4 ⟨rfl, rfl⟩)
          | (go_at_call 87; refine (HV.out _).mono ?_; rintro e w3 ⟨rfl, hb3⟩; obtain ⟨s0, s1, s2⟩ := HC.out w3 (hbw2.trans (hb3.mono hbw2.size)))
        rw [← vcells_one, ← vcells_append] at hown2
        go_roundw
        case rel => exact ⟨j + 1, by omega, by go_num, by rw [HSN.out], rfl, by rw [HLL.out], by rw [HDS.out, HDN.out]; simpa using ownsRow_below hown2 hb3, hbw2.trans (hb3.mono hbw2.size)⟩
        case measure => simp [intOf]; omega
    · have hj2 : l.take j = l := List.take_of_length_le (by omega)
      have HE : Hid (strOf (deltaF 0 (l.take j)) = strOf (deltaF 0 l)) := by show _ = _; rw [hj2]
      clear hj2 hd1 hd2 hd3 hd4 hd hbel
      generalize lastF 0 (l.take j) = a at *
      generalize strOf (deltaF 0 (l.take j)) = A at *
      go_wp2
      go_ret
      exact ⟨by rw [← HE.out]; rfl, HB.out⟩

set_option maxRecDepth 100000 in
set_option maxHeartbeats 8000000 in
theorem coded3_any (lv : Value) (l : List Val) (k : Int) (w : World) (hk : k = 1 ∨ k = 2 ∨ k = 3) (hv : ∀ x ∈ l, VOk x) (hn : l.length ≤ 100) (hvs : VSl w lv l) :
    Calls Try.prog 69 #[lv, .int .i64 k, .int .i64 3] w fun r w' => r = .returned (.string (strOf (runsB (l.map Val.n)))) ∧ Below w.heap.size w w' := by
  obtain ⟨i0, hi, hz0, hz1, hz2⟩ := info_parts Try.info3
  obtain ⟨j0, hj, hy0, hy1, hy2⟩ := info_parts Try.info39
  obtain ⟨ao, b, off, cap, rfl, hr⟩ := hvs
  have HVO : Hid (∀ x ∈ l, VOk x) := hv
  have HR : Hid (VRow w ao b off l) := hr
  have HOK : Hid (∀ j, j ≤ l.length → (dfold (l.take j)).1.length ≤ j ∧ (dfold (l.take j)).2.length = j ∧ (∀ p ∈ (dfold (l.take j)).2, p < (dfold (l.take j)).1.length) ∧ (∀ x ∈ (dfold (l.take j)).1, x ∈ l)) := dfold_ok l
  clear hv hr
  go_enter Try.func69, Try.ntmps69
  go_wp2_with fail
  go_loopw [7, 8, 9, 10, 11] (fun sv dv li la i wr => ∃ (j : Nat), j ≤ l.length ∧ i = .int .i64 j ∧ sv = .string ⟨#[]⟩ ∧ wr.ownsRow w.heap.size 3 1 li j (icells ((l.take j).map Val.n)) ∧ Apart dv li ∧ la = .int .i64 0 ∧ wr.ownsRow w.heap.size 39 3 dv (dfold (l.take j)).1.length (vcells (dfold (l.take j)).1) ∧ Below w.heap.size w wr) (fun _ _ _ _ i _ => l.length - (intOf i).toNat)
  case atStart => exact ⟨0, Nat.zero_le _, rfl, rfl, World.ownsRow_nil _ _ _ _, Or.inl rfl, rfl, World.ownsRow_nil _ _ _ _, Below.refl _ _⟩
  case round =>
    obtain ⟨j, hjl, rfl, rfl, hli, hap, rfl, hd, hbel⟩ := hrel
    have HB : Hid (Below w.heap.size w wr) := hbel
    have hsz : w.heap.size ≤ wr.heap.size := hbel.size
    obtain ⟨hd1, hd2, hd3, hd4⟩ := HOK.out j hjl
    by_cases hlt : j < l.length
    · obtain rfl := HR.out.addr (by omega)
      have HC : Hid (∀ W, Below w.heap.size w W → W.cell? ⟨b, off + j * 3, none⟩ = some (.bool l[j].null) ∧ W.cell? ⟨b, off + j * 3 + 1, none⟩ = some (.int .i64 l[j].n) ∧ W.cell? ⟨b, off + j * 3 + 2, none⟩ = some (.string l[j].s)) := fun W hW =>
        ⟨(HR.out.below hW).c0 j hlt, (HR.out.below hW).c1 j hlt, (HR.out.below hW).c2 j hlt⟩
      obtain ⟨p0, p1, p2⟩ := HC.out wr hbel
      have HX : Hid (VOk l[j]) := HVO.out _ (List.getElem_mem hlt)
      have HDS : Hid (dfold (l.take (j + 1)) = dstep (dfold (l.take j)) l[j]) := dfold_succ l j hlt
      have HT : Hid ((l.take (j + 1)).map Val.n = (l.take j).map Val.n ++ [l[j].n]) := by show _ = _; rw [List.take_succ_eq_append_getElem hlt, List.map_append]; rfl
      clear hbel HR
      generalize l[j] = x at *
      generalize dfold (l.take j) = S at *
      obtain ⟨d, ps⟩ := S
      simp only at hd1 hd2 hd3 hd4 hd
      have HPL : Hid (Calls Try.prog 102 #[u8, .agg #[.bool x.null, .int .i64 x.n, .string x.s]] wr fun e w' => e = .returned (.int .i64 (plc d x)) ∧ Below wr.heap.size wr w') := place_any d u8 x wr (VSl.of_owns hd) (by omega)
      by_cases hin : idx d x < d.length
      · have HDN : Hid (dstep (d, ps) x = (d, ps ++ [idx d x])) := dnext_in hin
        have HPC := plc_in hin
        rw [HPC] at HPL
        clear hd3 hd4
        generalize idx d x = I at *
        go_wp2_with fail
        refine HPL.out.mono ?_
        rintro e w1 ⟨rfl, hb1⟩
        have hbw1 : Below w.heap.size w w1 := HB.out.trans (hb1.mono hsz)
        obtain ⟨q0, q1, q2⟩ := HC.out w1 hbw1
        have hd1' := ownsRow_below hd hb1
        have hsz1 := hb1.size
        have hli1 := ownsRow_below hli hb1
        clear HPL
        go_wp2_with first
          | (at_builtin; refine wpList_append_keep _ rfl _ _ 22 rfl w.heap.size 3 i0 (.int .i64 0) 1 8 Try.underlying22 hi hz0 hz1 hz2 rfl (by decide) _ j _ rfl (hli1.alloc _) ⟨w1.heap.size, 0, none⟩ 1 1 [.int .i64 x.n] rfl (by decide) rfl (one_at _ _ _) (one_oneI _) (by unfold maxLen; omega) (by omega) (by simp; omega) ?_; intro v3 w3 hown3 hgr3)
        have hg3 := Grew.append hgr3
        rw [icells_snoc] at hown3
        refine ⟨⟨j + 1, by omega, by simp, rfl, by rw [HT.out]; exact hown3, hap.grew hd1' hg3, rfl, by rw [HDS.out, HDN.out]; exact kept_grew hd1' hg3 hap, hbw1.trans (hg3.below (fun g hg => (hli1.lt g hg).1) hbw1.size)⟩, by simp [intOf]; omega⟩
      · have HDN : Hid (dstep (d, ps) x = (d ++ [x], ps ++ [d.length])) := dnext_out hin
        have HPC := plc_out hin
        rw [HPC] at HPL
        clear hd3 hd4
        go_wp2_with fail
        refine HPL.out.mono ?_
        rintro e w1 ⟨rfl, hb1⟩
        have hbw1 : Below w.heap.size w w1 := HB.out.trans (hb1.mono hsz)
        obtain ⟨q0, q1, q2⟩ := HC.out w1 hbw1
        have hd1' := ownsRow_below hd hb1
        have hsz1 := hb1.size
        have hli1 := ownsRow_below hli hb1
        clear HPL
        go_wp2_with first
          | (at_builtin; refine wpList_append_keep _ rfl _ _ 30 rfl w.heap.size 39 j0 _ 3 32 Try.underlying30 hj hy0 hy1 hy2 rfl (by decide) _ d.length _ rfl (hd1'.alloc _) ⟨w1.heap.size, 0, none⟩ 1 1 [.bool x.null, .int .i64 x.n, .string x.s] rfl (by decide) rfl (three_at _ _ _ _ _) (three_one x) (by unfold maxLen; omega) (by omega) (by simp; omega) ?_; intro v2 w2 hown2 hgr2; have hg2 := Grew.append hgr2; have hbw2 : Below w.heap.size w w2 := hbw1.trans (hg2.below (fun g hg => (hd1'.lt g hg).1) hbw1.size); obtain ⟨r0, r1, r2⟩ := HC.out w2 hbw2; have hsz2 := hg2.by_.size; have hli2 := kept_grew hli1 hg2 hap.symm)
          | (at_builtin; refine wpList_append_keep _ rfl _ _ 22 rfl w.heap.size 3 i0 (.int .i64 0) 1 8 Try.underlying22 hi hz0 hz1 hz2 rfl (by decide) _ j _ rfl (hli2.alloc _) ⟨w2.heap.size, 0, none⟩ 1 1 [.int .i64 x.n] rfl (by decide) rfl (one_at _ _ _) (one_oneI _) (by unfold maxLen; omega) (by omega) (by simp; omega) ?_; intro v3 w3 hown3 hgr3)
        rw [← vcells_one, ← vcells_append] at hown2
        have hg3 := Grew.append hgr3
        have ap2 : Apart v2 u9 := (hap.symm.grew hli1 hg2).symm
        rw [icells_snoc] at hown3
        refine ⟨⟨j + 1, by omega, by simp, rfl, by rw [HT.out]; exact hown3, ap2.grew hown2 hg3, rfl, by rw [HDS.out, HDN.out]; simpa using kept_grew hown2 hg3 ap2, hbw2.trans (hg3.below (fun g hg => (hli2.lt g hg).1) hbw2.size)⟩, by simp [intOf]; omega⟩
    · have hj2 : l.take j = l := List.take_of_length_le (by omega)
      have hj3 : j = l.length := by omega
      rw [hj2] at hli
      have hml : (l.map Val.n).length = l.length := List.length_map _
      have HRN : Hid (Calls Try.prog 68 #[u9] wr fun e w' => e = .returned (.string (strOf (runsB (l.map Val.n)))) ∧ Below wr.heap.size wr w') :=
        runsG u9 (l.map Val.n) wr (by omega) (ISl.of_owns (base := w.heap.size) (by rw [hml, ← hj3]; exact hli))
      clear hj2 hd1 hd2 hd3 hd4 hd hbel hli hap hml
      go_wp2_with (go_at_call 68; refine HRN.out.mono ?_; rintro e w3 ⟨rfl, hb3⟩)
      go_ret
      exact ⟨rfl, HB.out.trans (hb3.mono hsz)⟩
end Go.Proofs.Ytjidbonhhpkljaa.Ec
