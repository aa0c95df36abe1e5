/- What the proof stands on: EcCodedR, EcCodedD, EcChunkR, EcEncode, EcLent, EcEncodes, EcOpen, PkReader, PkPackR, PkPackC, PkRead, PkThree. -/
import Derived.Test.YtpijlpeibapogaaMb
import Derived.WalkSpells
import Derived.OpenShut
import Derived.Deep.Slices
import Derived.Deep.Strs
import Derived.WalkLawsBesides
import Derived.Recover

/- Values that are there, in each encoding: the document's side. -/
set_option linter.unusedVariables false
namespace Go.Proofs.Ytpijlpeibapogaa.Ec
open Go.RowKit Go.Proofs.Ytpijlpeibapogaa.Pk Go.Proofs.Ytpijlpeibapogaa.Pm

theorem runsG (lv : Value) (zs : List Int) (w : World) (hz : zs.length ≤ 100) (h : ISl w lv zs) :
    Calls Try.prog 68 #[lv] w fun e w' => e = .returned (.string (strOf (runsB zs))) ∧ Below w.heap.size w w' := by
  obtain ⟨ao, b, off, cap, rfl, h1, h2, h3⟩ := h
  exact runs_any zs ao b off cap w hz h1 h2 h3

theorem bitsG (lv : Value) (ps : List Nat) (wd : Nat) (w : World) (hw : wd ≤ 16) (hl : ps.length ≤ 100) (hp : ∀ p ∈ ps, p < 2 ^ wd) (h : ISl w lv (ints ps)) :
    Calls Try.prog 35 #[lv, .int .i64 wd] w fun e w' => e = .returned (.string (strOf (packBytes wd ps))) ∧ Below w.heap.size w w' := by
  obtain ⟨ao, b, off, cap, rfl, h1, h2, h3⟩ := h
  have hlen : (ints ps).length = ps.length := List.length_map _
  have hto : (ints ps).map Int.toNat = ps := by
    unfold ints
    rw [List.map_map, List.map_congr_left (g := id) (fun x _ => by simp)]
    simp
  have hf : fitsW wd (ints ps) = true := by
    apply fitsW_all
    intro j hj
    have hj' : j < ps.length := by omega
    have e : (ints ps)[j] = (ps[j] : Int) := by simp [ints]
    have := hp _ (List.getElem_mem hj')
    rw [e]
    unfold pw
    omega
  have := bits_ints (ints ps) wd ao b off cap w hw (by omega) hf h1 h2 h3
  rwa [hto] at this

theorem plc_in {d : List Val} {x : Val} (h : idx d x < d.length) : plc d x = (idx d x : Int) := by unfold plc; rw [if_pos h]
theorem plc_out {d : List Val} {x : Val} (h : ¬ idx d x < d.length) : plc d x = -1 := by unfold plc; rw [if_neg h]

/-- The differing values, one round further. -/
theorem dnext_in {S : List Val × List Nat} {x : Val} (h : idx S.1 x < S.1.length) : dstep S x = (S.1, S.2 ++ [idx S.1 x]) := by
  unfold dstep
  have e : ins S.1 x = S.1 := by unfold ins; rw [if_pos h]
  rw [e]
theorem dnext_out {S : List Val × List Nat} {x : Val} (h : ¬ idx S.1 x < S.1.length) : dstep S x = (S.1 ++ [x], S.2 ++ [S.1.length]) := by
  have h1 := idx_ins S.1 x
  unfold dstep
  rw [h1.1, h1.2.2 h]
  have e : ins S.1 x = S.1 ++ [x] := by unfold ins; rw [if_neg h]
  rw [e]

theorem place_new {w : World} {base : Nat} {v : Value} {d : List Val} {x : Val} (ho : w.ownsRow base 39 3 v (d.length + 1) (vcells d ++ [.bool x.null, .int .i64 x.n, .string x.s])) (hin : ¬ idx d x < d.length) (hl : d.length + 1 ≤ 100) :
    Calls Try.prog 101 #[v, .agg #[.bool x.null, .int .i64 x.n, .string x.s]] w fun e w' => e = .returned (.int .i64 (d.length : Int)) ∧ Below w.heap.size w w' := by
  rw [← vcells_one, ← vcells_append] at ho
  have hlen : (d ++ [x]).length = d.length + 1 := by simp
  have h := place_any (d ++ [x]) v x w (VSl.of_owns (base := base) (by rw [hlen]; exact ho)) (by omega)
  have hi := idx_append_out d x hin x
  rw [veq_iff.2 rfl, if_pos rfl] at hi
  rw [plc_in (by omega), hi] at h
  exact h

set_option maxRecDepth 100000 in
set_option maxHeartbeats 8000000 in
theorem coded0_any (lv : Value) (l : List Val) (k : Int) (w : World) (hk : k = 1 ∨ k = 2 ∨ k = 3) (hv : ∀ x ∈ l, VOk x) (hn : l.length ≤ 100) (hvs : VSl w lv l) :
    Calls Try.prog 69 #[lv, .int .i64 k, .int .i64 0] w fun r w' => r = .returned (.string (strOf (plainsB k l))) ∧ Below w.heap.size w w' := by
  obtain ⟨i0, hi, hz0, hz1, hz2⟩ := info_parts Try.info3
  obtain ⟨j0, hj, hy0, hy1, hy2⟩ := info_parts Try.info39
  obtain ⟨ao, b, off, cap, rfl, hr⟩ := hvs
  have HVO : Hid (∀ x ∈ l, VOk x) := hv
  have HR : Hid (VRow w ao b off l) := hr
  have HOK : Hid (∀ j, j ≤ l.length → (dfold (l.take j)).1.length ≤ j ∧ (dfold (l.take j)).2.length = j ∧ (∀ p ∈ (dfold (l.take j)).2, p < (dfold (l.take j)).1.length) ∧ (∀ x ∈ (dfold (l.take j)).1, x ∈ l)) := dfold_ok l
  clear hv hr
  go_enter Try.func69, Try.ntmps69
  go_wp2_with fail
  go_loopw [7, 8, 9, 10, 11] (fun sv dv li la i wr => ∃ (j : Nat), j ≤ l.length ∧ i = .int .i64 j ∧ sv = .string (strOf (plainsB k (l.take j))) ∧ li = .slice none 0 0 ∧ la = .int .i64 0 ∧ wr.ownsRow w.heap.size 39 3 dv (dfold (l.take j)).1.length (vcells (dfold (l.take j)).1) ∧ Below w.heap.size w wr) (fun _ _ _ _ i _ => l.length - (intOf i).toNat)
  case atStart => exact ⟨0, Nat.zero_le _, rfl, rfl, rfl, rfl, World.ownsRow_nil _ _ _ _, Below.refl _ _⟩
  case round =>
    obtain ⟨j, hjl, rfl, rfl, rfl, rfl, hd, hbel⟩ := hrel
    have HB : Hid (Below w.heap.size w wr) := hbel
    have hsz : w.heap.size ≤ wr.heap.size := hbel.size
    obtain ⟨hd1, hd2, hd3, hd4⟩ := HOK.out j hjl
    by_cases hlt : j < l.length
    · obtain rfl := HR.out.addr (by omega)
      have HC : Hid (∀ W, Below w.heap.size w W → W.cell? ⟨b, off + j * 3, none⟩ = some (.bool l[j].null) ∧ W.cell? ⟨b, off + j * 3 + 1, none⟩ = some (.int .i64 l[j].n) ∧ W.cell? ⟨b, off + j * 3 + 2, none⟩ = some (.string l[j].s)) := fun W hW =>
        ⟨(HR.out.below hW).c0 j hlt, (HR.out.below hW).c1 j hlt, (HR.out.below hW).c2 j hlt⟩
      obtain ⟨p0, p1, p2⟩ := HC.out wr hbel
      have HX : Hid (VOk l[j]) := HVO.out _ (List.getElem_mem hlt)
      have HDS : Hid (dfold (l.take (j + 1)) = dstep (dfold (l.take j)) l[j]) := dfold_succ l j hlt
      have HT : Hid (plainsB k (l.take (j + 1)) = plainsB k (l.take j) ++ plainB k l[j]) := plainsB_take k l j hlt
      have hpl : (strOf (plainsB k (l.take j))).size ≤ 4200 := by
        have := plainsB_length k (l.take j) (fun x hx => HVO.out x (List.mem_of_mem_take hx))
        rw [List.length_take] at this
        rw [Pk.strOf_size]
        omega
      clear hbel HR
      generalize l[j] = x at *
      generalize dfold (l.take j) = S at *
      obtain ⟨d, ps⟩ := S
      simp only at hd1 hd2 hd3 hd4 hd
      have hpl2 : (strOf (plainB k x)).size ≤ 42 := by rw [Pk.strOf_size]; exact plainB_length k x HX.out.sz
      have HPN : Hid (∀ W, Calls Try.prog 88 #[.agg #[.bool x.null, .int .i64 x.n, .string x.s], .int .i64 k] W fun e w' => e = .returned (.string (strOf (plainB k x))) ∧ Below W.heap.size W w') := fun W => plain_any x k W hk HX.out
      have HSN : Hid (strOf (plainsB k (l.take (j + 1))) = strOf (plainsB k (l.take j)) ++ strOf (plainB k x)) := by show _ = _; rw [HT.out, strOf_append]
      clear HT
      generalize strOf (plainsB k (l.take j)) = A at *
      generalize strOf (plainB k x) = C at *
      have hs1 : ¬ 9223372036854775807 < A.size + C.size := by omega
      have HPL : Hid (Calls Try.prog 101 #[u8, .agg #[.bool x.null, .int .i64 x.n, .string x.s]] wr fun e w' => e = .returned (.int .i64 (plc d x)) ∧ Below wr.heap.size wr w') := place_any d u8 x wr (VSl.of_owns hd) (by omega)
      by_cases hin : idx d x < d.length
      · have HDN : Hid (dstep (d, ps) x = (d, ps ++ [idx d x])) := dnext_in hin
        have HPC := plc_in hin
        rw [HPC] at HPL
        clear hd3 hd4
        generalize idx d x = I at *
        go_wp2_with fail
        refine HPL.out.mono ?_
        rintro e w1 ⟨rfl, hb1⟩
        have hbw1 : Below w.heap.size w w1 := HB.out.trans (hb1.mono hsz)
        obtain ⟨q0, q1, q2⟩ := HC.out w1 hbw1
        have hd1' := ownsRow_below hd hb1
        have hsz1 := hb1.size
        clear HPL
        go_wp2_with first
          | (go_at_call 88; refine (HPN.out _).mono ?_; rintro e w3 ⟨rfl, hb3⟩)
        go_roundw
        case rel => exact ⟨j + 1, by omega, by go_num, by rw [HSN.out], rfl, rfl, by rw [HDS.out, HDN.out]; exact ownsRow_below hd1' hb3, hbw1.trans (hb3.mono hbw1.size)⟩
        case measure => simp [intOf]; omega
      · have HDN : Hid (dstep (d, ps) x = (d ++ [x], ps ++ [d.length])) := dnext_out hin
        have HPC := plc_out hin
        rw [HPC] at HPL
        clear hd3 hd4
        go_wp2_with fail
        refine HPL.out.mono ?_
        rintro e w1 ⟨rfl, hb1⟩
        have hbw1 : Below w.heap.size w w1 := HB.out.trans (hb1.mono hsz)
        obtain ⟨q0, q1, q2⟩ := HC.out w1 hbw1
        have hd1' := ownsRow_below hd hb1
        have hsz1 := hb1.size
        clear HPL
        go_wp2_with first
          | (at_builtin; refine wpList_append_keep _ rfl _ _ 30 rfl w.heap.size 39 j0 _ 3 32 Try.underlying30 hj hy0 hy1 hy2 rfl (by decide) _ d.length _ rfl (hd1'.alloc _) ⟨w1.heap.size, 0, none⟩ 1 1 [.bool x.null, .int .i64 x.n, .string x.s] rfl (by decide) rfl (three_at _ _ _ _ _) (three_one x) (by unfold maxLen; omega) (by omega) (by simp; omega) ?_; intro v2 w2 hown2 hgr2; have hg2 := Grew.append hgr2; have hbw2 : Below w.heap.size w w2 := hbw1.trans (hg2.below (fun g hg => (hd1'.lt g hg).1) hbw1.size); obtain ⟨r0, r1, r2⟩ := HC.out w2 hbw2; have hsz2 := hg2.by_.size)
          | (go_at_call 88; refine (HPN.out _).mono ?_; rintro e w3 ⟨rfl, hb3⟩)
        rw [← vcells_one, ← vcells_append] at hown2
        go_roundw
        case rel => exact ⟨j + 1, by omega, by go_num, by rw [HSN.out], rfl, rfl, by rw [HDS.out, HDN.out]; simpa using ownsRow_below hown2 hb3, hbw2.trans (hb3.mono hbw2.size)⟩
        case measure => simp [intOf]; omega
    · have hj2 : l.take j = l := List.take_of_length_le (by omega)
      have HE : Hid (strOf (plainsB k (l.take j)) = strOf (plainsB k l)) := by show _ = _; rw [hj2]
      clear hj2 hd1 hd2 hd3 hd4 hd hbel
      generalize strOf (plainsB k (l.take j)) = A at *
      go_wp2
      go_ret
      exact ⟨by rw [← HE.out]; rfl, HB.out⟩

set_option maxRecDepth 100000 in
set_option maxHeartbeats 8000000 in
theorem coded1_any (lv : Value) (l : List Val) (k : Int) (w : World) (hk : k = 1 ∨ k = 2 ∨ k = 3) (hv : ∀ x ∈ l, VOk x) (hn : l.length ≤ 100) (hvs : VSl w lv l) :
    Calls Try.prog 69 #[lv, .int .i64 k, .int .i64 1] w fun r w' => r = .returned (.string (strOf (deltaF 0 l))) ∧ Below w.heap.size w w' := by
  obtain ⟨i0, hi, hz0, hz1, hz2⟩ := info_parts Try.info3
  obtain ⟨j0, hj, hy0, hy1, hy2⟩ := info_parts Try.info39
  obtain ⟨ao, b, off, cap, rfl, hr⟩ := hvs
  have HVO : Hid (∀ x ∈ l, VOk x) := hv
  have HR : Hid (VRow w ao b off l) := hr
  have HOK : Hid (∀ j, j ≤ l.length → (dfold (l.take j)).1.length ≤ j ∧ (dfold (l.take j)).2.length = j ∧ (∀ p ∈ (dfold (l.take j)).2, p < (dfold (l.take j)).1.length) ∧ (∀ x ∈ (dfold (l.take j)).1, x ∈ l)) := dfold_ok l
  clear hv hr
  go_enter Try.func69, Try.ntmps69
  go_wp2_with fail
  go_loopw [7, 8, 9, 10, 11] (fun sv dv li la i wr => ∃ (j : Nat), j ≤ l.length ∧ i = .int .i64 j ∧ sv = .string (strOf (deltaF 0 (l.take j))) ∧ li = .slice none 0 0 ∧ la = .int .i64 (lastF 0 (l.take j)) ∧ wr.ownsRow w.heap.size 39 3 dv (dfold (l.take j)).1.length (vcells (dfold (l.take j)).1) ∧ Below w.heap.size w wr) (fun _ _ _ _ i _ => l.length - (intOf i).toNat)
  case atStart => exact ⟨0, Nat.zero_le _, rfl, rfl, rfl, rfl, World.ownsRow_nil _ _ _ _, Below.refl _ _⟩
  case round =>
    obtain ⟨j, hjl, rfl, rfl, rfl, rfl, hd, hbel⟩ := hrel
    have HB : Hid (Below w.heap.size w wr) := hbel
    have hsz : w.heap.size ≤ wr.heap.size := hbel.size
    obtain ⟨hd1, hd2, hd3, hd4⟩ := HOK.out j hjl
    by_cases hlt : j < l.length
    · obtain rfl := HR.out.addr (by omega)
      have HC : Hid (∀ W, Below w.heap.size w W → W.cell? ⟨b, off + j * 3, none⟩ = some (.bool l[j].null) ∧ W.cell? ⟨b, off + j * 3 + 1, none⟩ = some (.int .i64 l[j].n) ∧ W.cell? ⟨b, off + j * 3 + 2, none⟩ = some (.string l[j].s)) := fun W hW =>
        ⟨(HR.out.below hW).c0 j hlt, (HR.out.below hW).c1 j hlt, (HR.out.below hW).c2 j hlt⟩
      obtain ⟨p0, p1, p2⟩ := HC.out wr hbel
      have HX : Hid (VOk l[j]) := HVO.out _ (List.getElem_mem hlt)
      have HDS : Hid (dfold (l.take (j + 1)) = dstep (dfold (l.take j)) l[j]) := dfold_succ l j hlt
      have HT : Hid (deltaF 0 (l.take (j + 1)) = deltaF 0 (l.take j) ++ vint (zz (wrap64 (l[j].n - lastF 0 (l.take j))))) := by show _ = _; rw [List.take_succ_eq_append_getElem hlt, deltaF_snoc]
      have HLL : Hid (lastF 0 (l.take (j + 1)) = l[j].n) := by show _ = _; rw [List.take_succ_eq_append_getElem hlt, lastF_snoc]
      have hpl : (strOf (deltaF 0 (l.take j))).size ≤ 1000 := by
        have := deltaF_length 0 (l.take j)
        rw [List.length_take] at this
        rw [Pk.strOf_size]
        omega
      obtain ⟨hlo, hhi⟩ := lastF_ok (l.take j) (fun x hx => HVO.out x (List.mem_of_mem_take hx)) 0 (by omega) (by omega)
      clear hbel HR
      generalize l[j] = x at *
      generalize dfold (l.take j) = S at *
      obtain ⟨d, ps⟩ := S
      simp only at hd1 hd2 hd3 hd4 hd
      generalize lastF 0 (l.take j) = a at *
      obtain ⟨hw0, hw1⟩ := wrap64_range (x.n - a)
      have hvl := vintF_length 10 (zz (wrap64 (x.n - a)))
      have hpl2 : (strOf (vint (zz (wrap64 (x.n - a))))).size ≤ 10 := by rw [Pk.strOf_size]; unfold vint; omega
      have HZ : Hid (∀ W, Calls Try.prog 102 #[.int .i64 (wrap64 (x.n - a))] W fun e w' => e = .returned (.int .u64 (zz (wrap64 (x.n - a)))) ∧ w' = W) := fun W => zigzag_any _ hw0 hw1 W
      have HV : Hid (∀ W, Calls Try.prog 87 #[.int .u64 (zz (wrap64 (x.n - a)))] W fun e w' => e = .returned (.string (strOf (vint (zz (wrap64 (x.n - a)))))) ∧ Below W.heap.size W w') := fun W => varint_any _ W (zz_lt _ hw0 hw1)
      have HSN : Hid (strOf (deltaF 0 (l.take (j + 1))) = strOf (deltaF 0 (l.take j)) ++ strOf (vint (zz (wrap64 (x.n - a))))) := by show _ = _; rw [HT.out, strOf_append]
      clear HT hvl
      generalize strOf (deltaF 0 (l.take j)) = A at *
      generalize strOf (vint (zz (wrap64 (x.n - a)))) = C at *
      have hs1 : ¬ 9223372036854775807 < A.size + C.size := by omega
      have HPL : Hid (Calls Try.prog 101 #[u8, .agg #[.bool x.null, .int .i64 x.n, .string x.s]] wr fun e w' => e = .returned (.int .i64 (plc d x)) ∧ Below wr.heap.size wr w') := place_any d u8 x wr (VSl.of_owns hd) (by omega)
      by_cases hin : idx d x < d.length
      · have HDN : Hid (dstep (d, ps) x = (d, ps ++ [idx d x])) := dnext_in hin
        have HPC := plc_in hin
        rw [HPC] at HPL
        clear hd3 hd4
        generalize idx d x = I at *
        go_wp2_with fail
        refine HPL.out.mono ?_
        rintro e w1 ⟨rfl, hb1⟩
        have hbw1 : Below w.heap.size w w1 := HB.out.trans (hb1.mono hsz)
        obtain ⟨q0, q1, q2⟩ := HC.out w1 hbw1
        have hd1' := ownsRow_below hd hb1
        have hsz1 := hb1.size
        clear HPL
        go_wp2_with first
          | (go_at_call 102; refine (HZ.out _).mono ?_; rintro e w4 ⟨rfl, rfl⟩)
          | (go_at_call 87; refine (HV.out _).mono ?_; rintro e w3 ⟨rfl, hb3⟩; obtain ⟨s0, s1, s2⟩ := HC.out w3 (hbw1.trans (hb3.mono hbw1.size)))
        go_roundw
        case rel => exact ⟨j + 1, by omega, by go_num, by rw [HSN.out], rfl, by rw [HLL.out], by rw [HDS.out, HDN.out]; exact ownsRow_below hd1' hb3, hbw1.trans (hb3.mono hbw1.size)⟩
        case measure => simp [intOf]; omega
      · have HDN : Hid (dstep (d, ps) x = (d ++ [x], ps ++ [d.length])) := dnext_out hin
        have HPC := plc_out hin
        rw [HPC] at HPL
        clear hd3 hd4
        go_wp2_with fail
        refine HPL.out.mono ?_
        rintro e w1 ⟨rfl, hb1⟩
        have hbw1 : Below w.heap.size w w1 := HB.out.trans (hb1.mono hsz)
        obtain ⟨q0, q1, q2⟩ := HC.out w1 hbw1
        have hd1' := ownsRow_below hd hb1
        have hsz1 := hb1.size
        clear HPL
        go_wp2_with first
          | (at_builtin; refine wpList_append_keep _ rfl _ _ 30 rfl w.heap.size 39 j0 _ 3 32 Try.underlying30 hj hy0 hy1 hy2 rfl (by decide) _ d.length _ rfl (hd1'.alloc _) ⟨w1.heap.size, 0, none⟩ 1 1 [.bool x.null, .int .i64 x.n, .string x.s] rfl (by decide) rfl (three_at _ _ _ _ _) (three_one x) (by unfold maxLen; omega) (by omega) (by simp; omega) ?_; intro v2 w2 hown2 hgr2; have hg2 := Grew.append hgr2; have hbw2 : Below w.heap.size w w2 := hbw1.trans (hg2.below (fun g hg => (hd1'.lt g hg).1) hbw1.size); obtain ⟨r0, r1, r2⟩ := HC.out w2 hbw2; have hsz2 := hg2.by_.size)
          | (go_at_call 102; refine (HZ.out _).mono ?_; rintro e w4 ⟨rfl, rfl⟩)
          | (go_at_call 87; refine (HV.out _).mono ?_; rintro e w3 ⟨rfl, hb3⟩; obtain ⟨s0, s1, s2⟩ := HC.out w3 (hbw2.trans (hb3.mono hbw2.size)))
        rw [← vcells_one, ← vcells_append] at hown2
        go_roundw
        case rel => exact ⟨j + 1, by omega, by go_num, by rw [HSN.out], rfl, by rw [HLL.out], by rw [HDS.out, HDN.out]; simpa using ownsRow_below hown2 hb3, hbw2.trans (hb3.mono hbw2.size)⟩
        case measure => simp [intOf]; omega
    · have hj2 : l.take j = l := List.take_of_length_le (by omega)
      have HE : Hid (strOf (deltaF 0 (l.take j)) = strOf (deltaF 0 l)) := by show _ = _; rw [hj2]
      clear hj2 hd1 hd2 hd3 hd4 hd hbel
      generalize lastF 0 (l.take j) = a at *
      generalize strOf (deltaF 0 (l.take j)) = A at *
      go_wp2
      go_ret
      exact ⟨by rw [← HE.out]; rfl, HB.out⟩

set_option maxRecDepth 100000 in
set_option maxHeartbeats 8000000 in
theorem coded3_any (lv : Value) (l : List Val) (k : Int) (w : World) (hk : k = 1 ∨ k = 2 ∨ k = 3) (hv : ∀ x ∈ l, VOk x) (hn : l.length ≤ 100) (hvs : VSl w lv l) :
    Calls Try.prog 69 #[lv, .int .i64 k, .int .i64 3] w fun r w' => r = .returned (.string (strOf (runsB (l.map Val.n)))) ∧ Below w.heap.size w w' := by
  obtain ⟨i0, hi, hz0, hz1, hz2⟩ := info_parts Try.info3
  obtain ⟨j0, hj, hy0, hy1, hy2⟩ := info_parts Try.info39
  obtain ⟨ao, b, off, cap, rfl, hr⟩ := hvs
  have HVO : Hid (∀ x ∈ l, VOk x) := hv
  have HR : Hid (VRow w ao b off l) := hr
  have HOK : Hid (∀ j, j ≤ l.length → (dfold (l.take j)).1.length ≤ j ∧ (dfold (l.take j)).2.length = j ∧ (∀ p ∈ (dfold (l.take j)).2, p < (dfold (l.take j)).1.length) ∧ (∀ x ∈ (dfold (l.take j)).1, x ∈ l)) := dfold_ok l
  clear hv hr
  go_enter Try.func69, Try.ntmps69
  go_wp2_with fail
  go_loopw [7, 8, 9, 10, 11] (fun sv dv li la i wr => ∃ (j : Nat), j ≤ l.length ∧ i = .int .i64 j ∧ sv = .string ⟨#[]⟩ ∧ wr.ownsRow w.heap.size 3 1 li j (icells ((l.take j).map Val.n)) ∧ Apart dv li ∧ la = .int .i64 0 ∧ wr.ownsRow w.heap.size 39 3 dv (dfold (l.take j)).1.length (vcells (dfold (l.take j)).1) ∧ Below w.heap.size w wr) (fun _ _ _ _ i _ => l.length - (intOf i).toNat)
  case atStart => exact ⟨0, Nat.zero_le _, rfl, rfl, World.ownsRow_nil _ _ _ _, Or.inl rfl, rfl, World.ownsRow_nil _ _ _ _, Below.refl _ _⟩
  case round =>
    obtain ⟨j, hjl, rfl, rfl, hli, hap, rfl, hd, hbel⟩ := hrel
    have HB : Hid (Below w.heap.size w wr) := hbel
    have hsz : w.heap.size ≤ wr.heap.size := hbel.size
    obtain ⟨hd1, hd2, hd3, hd4⟩ := HOK.out j hjl
    by_cases hlt : j < l.length
    · obtain rfl := HR.out.addr (by omega)
      have HC : Hid (∀ W, Below w.heap.size w W → W.cell? ⟨b, off + j * 3, none⟩ = some (.bool l[j].null) ∧ W.cell? ⟨b, off + j * 3 + 1, none⟩ = some (.int .i64 l[j].n) ∧ W.cell? ⟨b, off + j * 3 + 2, none⟩ = some (.string l[j].s)) := fun W hW =>
        ⟨(HR.out.below hW).c0 j hlt, (HR.out.below hW).c1 j hlt, (HR.out.below hW).c2 j hlt⟩
      obtain ⟨p0, p1, p2⟩ := HC.out wr hbel
      have HX : Hid (VOk l[j]) := HVO.out _ (List.getElem_mem hlt)
      have HDS : Hid (dfold (l.take (j + 1)) = dstep (dfold (l.take j)) l[j]) := dfold_succ l j hlt
      have HT : Hid ((l.take (j + 1)).map Val.n = (l.take j).map Val.n ++ [l[j].n]) := by show _ = _; rw [List.take_succ_eq_append_getElem hlt, List.map_append]; rfl
      clear hbel HR
      generalize l[j] = x at *
      generalize dfold (l.take j) = S at *
      obtain ⟨d, ps⟩ := S
      simp only at hd1 hd2 hd3 hd4 hd
      have HPL : Hid (Calls Try.prog 101 #[u8, .agg #[.bool x.null, .int .i64 x.n, .string x.s]] wr fun e w' => e = .returned (.int .i64 (plc d x)) ∧ Below wr.heap.size wr w') := place_any d u8 x wr (VSl.of_owns hd) (by omega)
      by_cases hin : idx d x < d.length
      · have HDN : Hid (dstep (d, ps) x = (d, ps ++ [idx d x])) := dnext_in hin
        have HPC := plc_in hin
        rw [HPC] at HPL
        clear hd3 hd4
        generalize idx d x = I at *
        go_wp2_with fail
        refine HPL.out.mono ?_
        rintro e w1 ⟨rfl, hb1⟩
        have hbw1 : Below w.heap.size w w1 := HB.out.trans (hb1.mono hsz)
        obtain ⟨q0, q1, q2⟩ := HC.out w1 hbw1
        have hd1' := ownsRow_below hd hb1
        have hsz1 := hb1.size
        have hli1 := ownsRow_below hli hb1
        clear HPL
        go_wp2_with first
          | (at_builtin; refine wpList_append_keep _ rfl _ _ 22 rfl w.heap.size 3 i0 (.int .i64 0) 1 8 Try.underlying22 hi hz0 hz1 hz2 rfl (by decide) _ j _ rfl (hli1.alloc _) ⟨w1.heap.size, 0, none⟩ 1 1 [.int .i64 x.n] rfl (by decide) rfl (one_at _ _ _) (one_oneI _) (by unfold maxLen; omega) (by omega) (by simp; omega) ?_; intro v3 w3 hown3 hgr3)
        have hg3 := Grew.append hgr3
        rw [icells_snoc] at hown3
        refine ⟨⟨j + 1, by omega, by simp, rfl, by rw [HT.out]; exact hown3, hap.grew hd1' hg3, rfl, by rw [HDS.out, HDN.out]; exact kept_grew hd1' hg3 hap, hbw1.trans (hg3.below (fun g hg => (hli1.lt g hg).1) hbw1.size)⟩, by simp [intOf]; omega⟩
      · have HDN : Hid (dstep (d, ps) x = (d ++ [x], ps ++ [d.length])) := dnext_out hin
        have HPC := plc_out hin
        rw [HPC] at HPL
        clear hd3 hd4
        go_wp2_with fail
        refine HPL.out.mono ?_
        rintro e w1 ⟨rfl, hb1⟩
        have hbw1 : Below w.heap.size w w1 := HB.out.trans (hb1.mono hsz)
        obtain ⟨q0, q1, q2⟩ := HC.out w1 hbw1
        have hd1' := ownsRow_below hd hb1
        have hsz1 := hb1.size
        have hli1 := ownsRow_below hli hb1
        clear HPL
        go_wp2_with first
          | (at_builtin; refine wpList_append_keep _ rfl _ _ 30 rfl w.heap.size 39 j0 _ 3 32 Try.underlying30 hj hy0 hy1 hy2 rfl (by decide) _ d.length _ rfl (hd1'.alloc _) ⟨w1.heap.size, 0, none⟩ 1 1 [.bool x.null, .int .i64 x.n, .string x.s] rfl (by decide) rfl (three_at _ _ _ _ _) (three_one x) (by unfold maxLen; omega) (by omega) (by simp; omega) ?_; intro v2 w2 hown2 hgr2; have hg2 := Grew.append hgr2; have hbw2 : Below w.heap.size w w2 := hbw1.trans (hg2.below (fun g hg => (hd1'.lt g hg).1) hbw1.size); obtain ⟨r0, r1, r2⟩ := HC.out w2 hbw2; have hsz2 := hg2.by_.size; have hli2 := kept_grew hli1 hg2 hap.symm)
          | (at_builtin; refine wpList_append_keep _ rfl _ _ 22 rfl w.heap.size 3 i0 (.int .i64 0) 1 8 Try.underlying22 hi hz0 hz1 hz2 rfl (by decide) _ j _ rfl (hli2.alloc _) ⟨w2.heap.size, 0, none⟩ 1 1 [.int .i64 x.n] rfl (by decide) rfl (one_at _ _ _) (one_oneI _) (by unfold maxLen; omega) (by omega) (by simp; omega) ?_; intro v3 w3 hown3 hgr3)
        rw [← vcells_one, ← vcells_append] at hown2
        have hg3 := Grew.append hgr3
        have ap2 : Apart v2 u9 := (hap.symm.grew hli1 hg2).symm
        rw [icells_snoc] at hown3
        refine ⟨⟨j + 1, by omega, by simp, rfl, by rw [HT.out]; exact hown3, ap2.grew hown2 hg3, rfl, by rw [HDS.out, HDN.out]; simpa using kept_grew hown2 hg3 ap2, hbw2.trans (hg3.below (fun g hg => (hli2.lt g hg).1) hbw2.size)⟩, by simp [intOf]; omega⟩
    · have hj2 : l.take j = l := List.take_of_length_le (by omega)
      have hj3 : j = l.length := by omega
      rw [hj2] at hli
      have hml : (l.map Val.n).length = l.length := List.length_map _
      have HRN : Hid (Calls Try.prog 68 #[u9] wr fun e w' => e = .returned (.string (strOf (runsB (l.map Val.n)))) ∧ Below wr.heap.size wr w') :=
        runsG u9 (l.map Val.n) wr (by omega) (ISl.of_owns (base := w.heap.size) (by rw [hml, ← hj3]; exact hli))
      clear hj2 hd1 hd2 hd3 hd4 hd hbel hli hap hml
      go_wp2_with (go_at_call 68; refine HRN.out.mono ?_; rintro e w3 ⟨rfl, hb3⟩)
      go_ret
      exact ⟨rfl, HB.out.trans (hb3.mono hsz)⟩
end Go.Proofs.Ytpijlpeibapogaa.Ec

/- Dict: the document's side. -/
set_option linter.unusedVariables false
namespace Go.Proofs.Ytpijlpeibapogaa.Ec
open Go.RowKit Go.Proofs.Ytpijlpeibapogaa.Pk Go.Proofs.Ytpijlpeibapogaa.Pm

set_option maxRecDepth 100000 in
set_option maxHeartbeats 8000000 in
theorem coded2_any (lv : Value) (l : List Val) (k : Int) (w : World) (hk : k = 1 ∨ k = 2 ∨ k = 3) (hv : ∀ x ∈ l, VOk x) (hn : l.length ≤ 100) (hvs : VSl w lv l) :
    Calls Try.prog 69 #[lv, .int .i64 k, .int .i64 2] w fun r w' => r = .returned (.string (strOf (dictB k l))) ∧ Below w.heap.size w w' := by
  obtain ⟨i0, hi, hz0, hz1, hz2⟩ := info_parts Try.info3
  obtain ⟨j0, hj, hy0, hy1, hy2⟩ := info_parts Try.info39
  obtain ⟨ao, b, off, cap, rfl, hr⟩ := hvs
  have HVO : Hid (∀ x ∈ l, VOk x) := hv
  have HR : Hid (VRow w ao b off l) := hr
  have HOK : Hid (∀ j, j ≤ l.length → (dfold (l.take j)).1.length ≤ j ∧ (dfold (l.take j)).2.length = j ∧ (∀ p ∈ (dfold (l.take j)).2, p < (dfold (l.take j)).1.length) ∧ (∀ x ∈ (dfold (l.take j)).1, x ∈ l)) := dfold_ok l
  clear hv hr
  go_enter Try.func69, Try.ntmps69
  go_wp2_with fail
  go_loopw [7, 8, 9, 10, 11] (fun sv dv li la i wr => ∃ (j : Nat), j ≤ l.length ∧ i = .int .i64 j ∧ sv = .string ⟨#[]⟩ ∧ wr.ownsRow w.heap.size 3 1 li j (icells (ints (dfold (l.take j)).2)) ∧ Apart dv li ∧ la = .int .i64 0 ∧ wr.ownsRow w.heap.size 39 3 dv (dfold (l.take j)).1.length (vcells (dfold (l.take j)).1) ∧ Below w.heap.size w wr) (fun _ _ _ _ i _ => l.length - (intOf i).toNat)
  case atStart => exact ⟨0, Nat.zero_le _, rfl, rfl, World.ownsRow_nil _ _ _ _, Or.inl rfl, rfl, World.ownsRow_nil _ _ _ _, Below.refl _ _⟩
  case round =>
    obtain ⟨j, hjl, rfl, rfl, hli, hap, rfl, hd, hbel⟩ := hrel
    have HB : Hid (Below w.heap.size w wr) := hbel
    have hsz : w.heap.size ≤ wr.heap.size := hbel.size
    obtain ⟨hd1, hd2, hd3, hd4⟩ := HOK.out j hjl
    by_cases hlt : j < l.length
    · obtain rfl := HR.out.addr (by omega)
      have HC : Hid (∀ W, Below w.heap.size w W → W.cell? ⟨b, off + j * 3, none⟩ = some (.bool l[j].null) ∧ W.cell? ⟨b, off + j * 3 + 1, none⟩ = some (.int .i64 l[j].n) ∧ W.cell? ⟨b, off + j * 3 + 2, none⟩ = some (.string l[j].s)) := fun W hW =>
        ⟨(HR.out.below hW).c0 j hlt, (HR.out.below hW).c1 j hlt, (HR.out.below hW).c2 j hlt⟩
      obtain ⟨p0, p1, p2⟩ := HC.out wr hbel
      have HX : Hid (VOk l[j]) := HVO.out _ (List.getElem_mem hlt)
      have HDS : Hid (dfold (l.take (j + 1)) = dstep (dfold (l.take j)) l[j]) := dfold_succ l j hlt
      clear hbel HR
      generalize l[j] = x at *
      generalize dfold (l.take j) = S at *
      obtain ⟨d, ps⟩ := S
      simp only at hd1 hd2 hd3 hd4 hd hli
      have HPL : Hid (Calls Try.prog 101 #[u8, .agg #[.bool x.null, .int .i64 x.n, .string x.s]] wr fun e w' => e = .returned (.int .i64 (plc d x)) ∧ Below wr.heap.size wr w') := place_any d u8 x wr (VSl.of_owns hd) (by omega)
      by_cases hin : idx d x < d.length
      · have HDN : Hid (dstep (d, ps) x = (d, ps ++ [idx d x])) := dnext_in hin
        have HPC := plc_in hin
        rw [HPC] at HPL
        clear hd3 hd4
        generalize idx d x = I at *
        go_wp2_with fail
        refine HPL.out.mono ?_
        rintro e w1 ⟨rfl, hb1⟩
        have hbw1 : Below w.heap.size w w1 := HB.out.trans (hb1.mono hsz)
        obtain ⟨q0, q1, q2⟩ := HC.out w1 hbw1
        have hd1' := ownsRow_below hd hb1
        have hsz1 := hb1.size
        have hli1 := ownsRow_below hli hb1
        have HPL2 : Hid (Calls Try.prog 101 #[u8, .agg #[.bool x.null, .int .i64 x.n, .string x.s]] w1 fun e w' => e = .returned (.int .i64 (I : Int)) ∧ Below w1.heap.size w1 w') := by
          have h0 := place_any d u8 x w1 (VSl.of_owns hd1') (by omega)
          rw [HPC] at h0
          exact h0
        clear HPL
        go_wp2_with first
          | (go_at_call 101; refine HPL2.out.mono ?_; rintro e w3 ⟨rfl, hb3⟩; have hli3 := ownsRow_below hli1 hb3; have hsz3 := hb3.size; have hbw3 : Below w.heap.size w w3 := hbw1.trans (hb3.mono hbw1.size))
          | (at_builtin; refine wpList_append_keep _ rfl _ _ 22 rfl w.heap.size 3 i0 (.int .i64 0) 1 8 Try.underlying22 hi hz0 hz1 hz2 rfl (by decide) _ j _ rfl (hli3.alloc _) ⟨w3.heap.size, 0, none⟩ 1 1 [.int .i64 (I : Int)] rfl (by decide) rfl (one_at _ _ _) (one_oneI _) (by unfold maxLen; omega) (by omega) (by simp; omega) ?_; intro v4 w4 hown4 hgr4)
        have hg4 := Grew.append hgr4
        have hd3' := ownsRow_below hd1' hb3
        rw [icells_snoc] at hown4
        refine ⟨⟨j + 1, by omega, by simp, rfl, ?_, hap.grew hd3' hg4, rfl, by rw [HDS.out, HDN.out]; exact kept_grew hd3' hg4 hap, hbw3.trans (hg4.below (fun g hg => (hli3.lt g hg).1) hbw3.size)⟩, by simp [intOf]; omega⟩
        rw [HDS.out, HDN.out]
        simp only
        rw [show ints (ps ++ [I]) = ints ps ++ [(I : Int)] from by simp [ints]]
        exact hown4
      · have HDN : Hid (dstep (d, ps) x = (d ++ [x], ps ++ [d.length])) := dnext_out hin
        have HPC := plc_out hin
        rw [HPC] at HPL
        clear hd3 hd4
        go_wp2_with fail
        refine HPL.out.mono ?_
        rintro e w1 ⟨rfl, hb1⟩
        have hbw1 : Below w.heap.size w w1 := HB.out.trans (hb1.mono hsz)
        obtain ⟨q0, q1, q2⟩ := HC.out w1 hbw1
        have hd1' := ownsRow_below hd hb1
        have hsz1 := hb1.size
        have hli1 := ownsRow_below hli hb1
        have hdl : d.length + 1 ≤ 100 := by omega
        clear HPL
        go_wp2_with first
          | (at_builtin; refine wpList_append_keep _ rfl _ _ 30 rfl w.heap.size 39 j0 _ 3 32 Try.underlying30 hj hy0 hy1 hy2 rfl (by decide) _ d.length _ rfl (hd1'.alloc _) ⟨w1.heap.size, 0, none⟩ 1 1 [.bool x.null, .int .i64 x.n, .string x.s] rfl (by decide) rfl (three_at _ _ _ _ _) (three_one x) (by unfold maxLen; omega) (by omega) (by simp; omega) ?_; intro v2 w2 hown2 hgr2; have hg2 := Grew.append hgr2; have hbw2 : Below w.heap.size w w2 := hbw1.trans (hg2.below (fun g hg => (hd1'.lt g hg).1) hbw1.size); obtain ⟨r0, r1, r2⟩ := HC.out w2 hbw2; have hsz2 := hg2.by_.size; have hli2 := kept_grew hli1 hg2 hap.symm; have HPL3 : Hid (Calls Try.prog 101 #[v2, .agg #[.bool x.null, .int .i64 x.n, .string x.s]] w2 fun e w' => e = .returned (.int .i64 (d.length : Int)) ∧ Below w2.heap.size w2 w') := place_new hown2 hin hdl)
          | (go_at_call 101; refine HPL3.out.mono ?_; rintro e w3 ⟨rfl, hb3⟩; have hli3 := ownsRow_below hli2 hb3; have hsz3 := hb3.size; have hbw3 : Below w.heap.size w w3 := hbw2.trans (hb3.mono hbw2.size))
          | (at_builtin; refine wpList_append_keep _ rfl _ _ 22 rfl w.heap.size 3 i0 (.int .i64 0) 1 8 Try.underlying22 hi hz0 hz1 hz2 rfl (by decide) _ j _ rfl (hli3.alloc _) ⟨w3.heap.size, 0, none⟩ 1 1 [.int .i64 (d.length : Int)] rfl (by decide) rfl (one_at _ _ _) (one_oneI _) (by unfold maxLen; omega) (by omega) (by simp; omega) ?_; intro v4 w4 hown4 hgr4)
        rw [← vcells_one, ← vcells_append] at hown2
        have hg4 := Grew.append hgr4
        have ap2 : Apart v2 u9 := (hap.symm.grew hli1 hg2).symm
        have hd3' := ownsRow_below hown2 hb3
        rw [icells_snoc] at hown4
        refine ⟨⟨j + 1, by omega, by simp, rfl, ?_, ap2.grew hd3' hg4, rfl, by rw [HDS.out, HDN.out]; simpa using kept_grew hd3' hg4 ap2, hbw3.trans (hg4.below (fun g hg => (hli3.lt g hg).1) hbw3.size)⟩, by simp [intOf]; omega⟩
        rw [HDS.out, HDN.out]
        simp only
        rw [show ints (ps ++ [d.length]) = ints ps ++ [(d.length : Int)] from by simp [ints]]
        exact hown4
    · have hj2 : l.take j = l := List.take_of_length_le (by omega)
      have HDB : Hid (dictB k l = vint (dfold (l.take j)).1.length ++ (plainsB k (dfold (l.take j)).1 ++ packBytes (wid (dfold (l.take j)).1.length) (dfold (l.take j)).2)) := by show _ = _; rw [hj2]; rfl
      have HDV : Hid (∀ x ∈ (dfold (l.take j)).1, VOk x) := fun x hx => HVO.out x (hd4 x hx)
      have hj3 : j = l.length := by omega
      clear hd4 HOK hj2 HVO hbel HR hap
      rename World => wo
      generalize dfold (l.take j) = S at *
      obtain ⟨d, ps⟩ := S
      simp only at hd1 hd2 hd3 hd hli HDB HDV
      obtain ⟨eao, ecap, rfl⟩ := own_shape hd
      have HVD : Hid (∃ b2 off2, VRow wo eao b2 off2 d) := by
        obtain ⟨ao3, b3, off3, cap3, he3, hr3⟩ := VSl.of_owns hd
        cases he3
        exact ⟨b3, off3, hr3⟩
      have hwl := wid_le d.length
      have HBT : Hid (∀ W, Below wo.heap.size wo W → Calls Try.prog 35 #[u9, .int .i64 (wid d.length : Nat)] W fun e w' => e = .returned (.string (strOf (packBytes (wid d.length) ps))) ∧ Below W.heap.size W w') := fun W hW =>
        bitsG u9 ps (wid d.length) W (by omega) (by omega) (fun p hp => wid_fits _ (by omega) p (hd3 p hp)) (ISl.of_owns (base := w.heap.size) (by
          have := ownsRow_below hli hW
          unfold ints at this ⊢
          rw [List.length_map, hd2]
          exact this))
      have HWD : Hid (∀ W, Calls Try.prog 103 #[.int .i64 (d.length : Int)] W fun e w' => e = .returned (.int .i64 (wid d.length)) ∧ w' = W) := fun W => wide_any d.length (by omega) W
      have HV : Hid (∀ W, Calls Try.prog 87 #[.int .u64 (d.length : Int)] W fun e w' => e = .returned (.string (strOf (vint d.length))) ∧ Below W.heap.size W w') := fun W => varint_any d.length W (by omega)
      have hpkl : (strOf (packBytes (wid d.length) ps)).size ≤ 1000 := by
        rw [Pk.strOf_size, packBytes_length]
        have : ps.length * wid d.length ≤ 100 * 7 := Nat.mul_le_mul (by omega) hwl
        omega
      have hvl := vintF_length 10 d.length
      clear hli hd hd3
      go_wp2_with (go_at_call 87; refine (HV.out _).mono ?_; rintro e w3 ⟨rfl, hb3⟩)
      have hb3s := hb3.size
      go_loopw [7, 12] (fun sv i wq => ∃ (t : Nat), t ≤ d.length ∧ i = .int .i64 t ∧ sv = .string (strOf (vint d.length ++ plainsB k (d.take t))) ∧ Below wo.heap.size wo wq) (fun _ i _ => d.length - (intOf i).toNat)
      case atStart => exact ⟨0, Nat.zero_le _, rfl, by simp [plainsB], hb3⟩
      case round =>
        clear hb3
        obtain ⟨t, ht, rfl, rfl, hbq⟩ := hrel
        have hbqs := hbq.size
        have HBQ : Hid (Below wo.heap.size wo wr) := hbq
        have hAl : (strOf (vint d.length ++ plainsB k (d.take t))).size ≤ 4300 := by
          have := plainsB_length k (d.take t) (fun x hx => HDV.out x (List.mem_of_mem_take hx))
          rw [List.length_take] at this
          rw [Pk.strOf_size, List.length_append]
          unfold vint
          omega
        by_cases htl : t < d.length
        · obtain ⟨b2, off2, hrd⟩ := HVD.out
          have hr2 := hrd.below hbq
          obtain rfl := hr2.addr (by omega)
          have p0 := hr2.c0 t htl
          have p1 := hr2.c1 t htl
          have p2 := hr2.c2 t htl
          have HX : Hid (VOk d[t]) := HDV.out _ (List.getElem_mem htl)
          have HSN : Hid (strOf (vint d.length ++ plainsB k (d.take (t + 1))) = strOf (vint d.length ++ plainsB k (d.take t)) ++ strOf (plainB k d[t])) := by
            show _ = _
            rw [plainsB_take k d t htl, ← List.append_assoc, strOf_append]
          clear hr2 hrd hbq
          generalize d[t] = x at *
          have hpl2 : (strOf (plainB k x)).size ≤ 42 := by rw [Pk.strOf_size]; exact plainB_length k x HX.out.sz
          have HPN : Hid (∀ W, Calls Try.prog 88 #[.agg #[.bool x.null, .int .i64 x.n, .string x.s], .int .i64 k] W fun e w' => e = .returned (.string (strOf (plainB k x))) ∧ Below W.heap.size W w') := fun W => plain_any x k W hk HX.out
          generalize strOf (vint d.length ++ plainsB k (d.take t)) = A at *
          generalize strOf (plainB k x) = C at *
          have hs1 : ¬ 9223372036854775807 < A.size + C.size := by omega
          go_wp2_with (go_at_call 88; refine (HPN.out _).mono ?_; rintro e w5 ⟨rfl, hb5⟩)
          go_roundw
          case rel => exact ⟨t + 1, by omega, by go_num, by rw [HSN.out], HBQ.out.trans (hb5.mono hbqs)⟩
          case measure => simp [intOf]; omega
        · have hte : d.take t = d := List.take_of_length_le (by omega)
          have HEN : Hid (strOf (dictB k l) = strOf (vint d.length ++ plainsB k (d.take t)) ++ strOf (packBytes (wid d.length) ps)) := by
            show _ = _
            rw [hte, HDB.out, ← List.append_assoc, strOf_append]
          clear hte hbq
          generalize strOf (vint d.length ++ plainsB k (d.take t)) = A at *
          have HBT2 : Hid (Calls Try.prog 35 #[u9, .int .i64 (wid d.length : Nat)] wr fun e w' => e = .returned (.string (strOf (packBytes (wid d.length) ps))) ∧ Below wr.heap.size wr w') := HBT.out wr HBQ.out
          clear HBT
          generalize strOf (packBytes (wid d.length) ps) = C at *
          have hs1 : ¬ 9223372036854775807 < A.size + C.size := by omega
          go_wp2_with first
            | (go_at_call 103; refine (HWD.out _).mono ?_; rintro e w5 ⟨rfl, rfl⟩)
            | (go_at_call 35; refine HBT2.out.mono ?_; rintro e w6 ⟨rfl, hb6⟩)
          go_ret
          exact ⟨by rw [HEN.out]; rfl, (HB.out.trans (HBQ.out.mono hsz)).trans (hb6.mono (by omega))⟩
end Go.Proofs.Ytpijlpeibapogaa.Ec

/- A whole column, and Encode: the document's side. -/
set_option linter.unusedVariables false
namespace Go.Proofs.Ytpijlpeibapogaa.Ec
open Go.RowKit Go.Proofs.Ytpijlpeibapogaa.Pk Go.Proofs.Ytpijlpeibapogaa.Pm

theorem coded_any (lv : Value) (l : List Val) (k e : Int) (w : World) (hk : k = 1 ∨ k = 2 ∨ k = 3) (he : e = 0 ∨ e = 1 ∨ e = 2 ∨ e = 3) (hv : ∀ x ∈ l, VOk x) (hn : l.length ≤ 100) (hvs : VSl w lv l) :
    Calls Try.prog 69 #[lv, .int .i64 k, .int .i64 e] w fun r w' => r = .returned (.string (strOf (codedB k e l))) ∧ Below w.heap.size w w' := by
  rcases he with rfl | rfl | rfl | rfl
  · exact coded0_any lv l k w hk hv hn hvs
  · exact coded1_any lv l k w hk hv hn hvs
  · exact coded2_any lv l k w hk hv hn hvs
  · exact coded3_any lv l k w hk hv hn hvs

theorem codedB_length (k e : Int) (l : List Val) (h : ∀ x ∈ l, VOk x) (hl : l.length ≤ 100) : (codedB k e l).length ≤ 100000 := by
  unfold codedB
  split
  · have := deltaF_length 0 l; omega
  · split
    · unfold dictB
      have ho := dfold_ok l l.length (Nat.le_refl _)
      rw [List.take_length] at ho
      obtain ⟨h1, h2, h3, h4⟩ := ho
      have hp := plainsB_length k (dfold l).1 (fun x hx => h x (h4 x hx))
      have hv := vintF_length 10 (dfold l).1.length
      have hw := wid_le (dfold l).1.length
      have hm : (dfold l).2.length * wid (dfold l).1.length ≤ 100 * 7 := Nat.mul_le_mul (by omega) hw
      rw [List.length_append, List.length_append, packBytes_length]
      unfold vint
      omega
    · split
      · have := runsB_length (l.map Val.n) (by rw [List.length_map]; omega); omega
      · have := plainsB_length k l h; omega

set_option maxRecDepth 100000 in
set_option maxHeartbeats 8000000 in
theorem chunk_any (lv : Value) (l : List Val) (k e : Int) (w : World) (hk : k = 1 ∨ k = 2 ∨ k = 3) (he : e = 0 ∨ e = 1 ∨ e = 2 ∨ e = 3) (hv : ∀ x ∈ l, VOk x) (hn : l.length ≤ 100) (hvs : VSl w lv l) :
    Calls Try.prog 42 #[lv, .int .i64 k, .int .i64 e] w fun r w' => r = .returned (.string (strOf (columnB k e l))) ∧ Below w.heap.size w w' := by
  obtain ⟨i0, hi, hz0, hz1, hz2⟩ := info_parts Try.info3
  obtain ⟨j0, hj, hy0, hy1, hy2⟩ := info_parts Try.info39
  obtain ⟨ao, b, off, cap, rfl, hr⟩ := hvs
  have HVO : Hid (∀ x ∈ l, VOk x) := hv
  have HR : Hid (VRow w ao b off l) := hr
  have HE : Hid (e = 0 ∨ e = 1 ∨ e = 2 ∨ e = 3) := he
  clear hv hr he
  go_enter Try.func42, Try.ntmps42
  go_wp2_with fail
  go_loopw [7, 8, 9] (fun lev' pv i wr => ∃ (j : Nat), j ≤ l.length ∧ i = .int .i64 j ∧ wr.ownsRow w.heap.size 3 1 lev' j (icells ((l.take j).map lev)) ∧ wr.ownsRow w.heap.size 39 3 pv (there (l.take j)).length (vcells (there (l.take j))) ∧ Apart lev' pv ∧ Below w.heap.size w wr) (fun _ _ i _ => l.length - (intOf i).toNat)
  case atStart => exact ⟨0, Nat.zero_le _, rfl, World.ownsRow_nil _ _ _ _, World.ownsRow_nil _ _ _ _, Or.inl rfl, Below.refl _ _⟩
  case round =>
    obtain ⟨j, hjl, rfl, ho, hp, hap, hbel⟩ := hrel
    have HB : Hid (Below w.heap.size w wr) := hbel
    have hsz : w.heap.size ≤ wr.heap.size := hbel.size
    have htl : (there (l.take j)).length ≤ j := by have := there_length (l.take j); rw [List.length_take] at this; omega
    by_cases hlt : j < l.length
    · obtain rfl := HR.out.addr (by omega)
      have HC : Hid (∀ W, Below w.heap.size w W → W.cell? ⟨b, off + j * 3, none⟩ = some (.bool l[j].null) ∧ W.cell? ⟨b, off + j * 3 + 1, none⟩ = some (.int .i64 l[j].n) ∧ W.cell? ⟨b, off + j * 3 + 2, none⟩ = some (.string l[j].s)) := fun W hW =>
        ⟨(HR.out.below hW).c0 j hlt, (HR.out.below hW).c1 j hlt, (HR.out.below hW).c2 j hlt⟩
      have HT := there_succ l j hlt
      have HL : Hid ((l.take (j + 1)).map lev = (l.take j).map lev ++ [lev l[j]]) := levs_succ l j hlt
      generalize l[j] = x at *
      cases hx : x.null
      · rw [hx] at HT HC
        obtain ⟨p0, p1, p2⟩ := HC.out wr hbel
        have HTH : Hid (there (l.take (j + 1)) = there (l.take j) ++ [x]) := by show _ = _; simpa using HT
        have HLV : Hid (lev x = 1) := by show _ = _; unfold lev; rw [hx]; rfl
        have hcx : vcells [x] = [.bool false, .int .i64 x.n, .string x.s] := by rw [vcells_one, hx]
        have h1c : ∀ u ∈ [Value.bool false, .int .i64 x.n, .string x.s], u.oneCell' = true := by have := three_one x; rwa [hx] at this
        clear HT hx hbel
        go_wp2_with (first
          | (at_builtin; refine wpList_append_keep _ rfl _ _ 22 rfl w.heap.size 3 i0 (.int .i64 0) 1 8 Try.underlying22 hi hz0 hz1 hz2 rfl (by decide) _ j _ rfl (ho.alloc _) ⟨wr.heap.size, 0, none⟩ 1 1 [.int .i64 1] rfl (by decide) rfl (one_at _ _ _) (one_oneI _) (by unfold maxLen; omega) (by omega) (by simp; omega) ?_; intro v2 w2 hown2 hgr2; have hg2 := Grew.append hgr2; have hb2 : Below w.heap.size w w2 := HB.out.trans (hg2.below (fun g hg => (ho.lt g hg).1) hsz); obtain ⟨q0, q1, q2⟩ := HC.out w2 hb2; have hp2 := kept_grew hp hg2 hap.symm; have hs2 := hg2.by_.size)
          | (at_builtin; refine wpList_append_keep _ rfl _ _ 30 rfl w.heap.size 39 j0 _ 3 32 Try.underlying30 hj hy0 hy1 hy2 rfl (by decide) _ _ _ rfl (hp2.alloc _) ⟨w2.heap.size, 0, none⟩ 1 1 [.bool false, .int .i64 x.n, .string x.s] rfl (by decide) rfl (three_at _ _ _ _ _) h1c (by unfold maxLen; omega) (by omega) (by simp; omega) ?_; intro v3 w3 hown3 hgr3))
        have hg3 := Grew.append hgr3
        have ap2 : Apart v2 u8 := (hap.symm.grew hp hg2).symm
        have ho3 := kept_grew hown2 hg3 ap2
        rw [icells_snoc] at ho3
        rw [← hcx, ← vcells_append] at hown3
        refine ⟨⟨j + 1, by omega, by simp, by rw [HL.out, HLV.out]; exact ho3, by rw [HTH.out]; simpa using hown3, ap2.grew hown2 hg3, hb2.trans (hg3.below (fun g hg => (hp2.lt g hg).1) hb2.size)⟩, by simp [intOf]; omega⟩
      · rw [hx] at HT HC
        obtain ⟨p0, p1, p2⟩ := HC.out wr hbel
        have HTH : Hid (there (l.take (j + 1)) = there (l.take j)) := by show _ = _; simpa using HT
        have HLV : Hid (lev x = 0) := by show _ = _; unfold lev; rw [hx]; rfl
        clear HT hx hbel
        go_wp2_with (at_builtin; refine wpList_append_keep _ rfl _ _ 22 rfl w.heap.size 3 i0 (.int .i64 0) 1 8 Try.underlying22 hi hz0 hz1 hz2 rfl (by decide) _ j _ rfl (ho.alloc _) ⟨wr.heap.size, 0, none⟩ 1 1 [.int .i64 0] rfl (by decide) rfl (one_at _ _ _) (one_oneI _) (by unfold maxLen; omega) (by omega) (by simp; omega) ?_; intro v2 w2 hown2 hgr2)
        have hg2 := Grew.append hgr2
        rw [icells_snoc] at hown2
        refine ⟨⟨j + 1, by omega, by simp, by rw [HL.out, HLV.out]; exact hown2, by rw [HTH.out]; exact kept_grew hp hg2 hap.symm, (hap.symm.grew hp hg2).symm, HB.out.trans (hg2.below (fun g hg => (ho.lt g hg).1) hsz)⟩, by simp [intOf]; omega⟩
    · have hj3 : j = l.length := by omega
      have hj2 : l.take j = l := List.take_of_length_le (by omega)
      rw [hj2] at ho hp
      have hml : ((l.map lev).length) = l.length := List.length_map _
      have ho' : wr.ownsRow w.heap.size 3 1 u7 (l.map lev).length (icells (l.map lev)) := by rw [hml, ← hj3]; exact ho
      have htv : ∀ x ∈ there l, VOk x := fun x hx => HVO.out x (there_mem hx)
      have htl2 := there_length l
      have hrl := runsB_length (l.map lev) (by omega)
      have hcl := codedB_length k e (there l) htv (by omega)
      have HA1 : Hid (Calls Try.prog 68 #[u7] wr fun e w' => e = .returned (.string (strOf (runsB (l.map lev)))) ∧ Below wr.heap.size wr w') := runsG u7 (l.map lev) wr (by omega) (ISl.of_owns ho')
      have HA2 : Hid (∀ W, Below wr.heap.size wr W → Calls Try.prog 69 #[u8, .int .i64 k, .int .i64 e] W fun r w' => r = .returned (.string (strOf (codedB k e (there l)))) ∧ Below W.heap.size W w') := fun W hW =>
        coded_any u8 (there l) k e W hk HE.out htv (by omega) (VSl.of_owns (ownsRow_below hp hW))
      have HCO : Hid (strOf (columnB k e l) = strOf (runsB (l.map lev)) ++ strOf (codedB k e (there l))) := strOf_append _ _
      have hz1' : (strOf (runsB (l.map lev))).size ≤ 1100 := by rw [Pk.strOf_size]; exact hrl
      have hz2' : (strOf (codedB k e (there l))).size ≤ 100000 := by rw [Pk.strOf_size]; exact hcl
      generalize strOf (runsB (l.map lev)) = A at *
      generalize strOf (codedB k e (there l)) = C at *
      have hs1 : ¬ 9223372036854775807 < A.size + C.size := by omega
      clear hml ho ho' hap hbel hj2 hj3 HVO hrl hcl htv hp
      go_wp2_with first
        | (go_at_call 68; refine HA1.out.mono ?_; rintro e w1 ⟨rfl, hb1⟩)
        | (go_at_call 69; refine (HA2.out _ hb1).mono ?_; rintro e w2 ⟨rfl, hb2⟩)
      go_ret
      exact ⟨by rw [HCO.out]; rfl, (HB.out.trans (hb1.mono hsz)).trans (hb2.mono (Nat.le_trans hsz hb1.size))⟩
end Go.Proofs.Ytpijlpeibapogaa.Ec

/- Encode on both sides: what it answers, as a plain function. -/
set_option linter.unusedVariables false
namespace Go.Proofs.Ytpijlpeibapogaa.Ec
open Go.RowKit Go.Proofs.Ytpijlpeibapogaa.Pk Go.Proofs.Ytpijlpeibapogaa.Pm

/-- A value as it may come in. -/
structure VIn (v : Val) : Prop where
  lo : -9223372036854775808 ≤ v.n
  hi : v.n ≤ 9223372036854775807

theorem size_nil {s : ByteArray} (h : s.toList = []) : s.size = 0 := by
  have h1 : s.toList = s.data.toList := ByteArray.toList_eq s
  rw [h1] at h
  show s.data.size = 0
  rw [← Array.length_toList, h]
  rfl
theorem vok_of_may {x : Val} {k : Int} (h : VIn x) (hm : mayB x k = true) : VOk x := by
  refine ⟨h.lo, h.hi, ?_⟩
  unfold mayB at hm
  split at hm
  · simp at hm; have := size_nil hm.2; omega
  · split at hm
    · simp at hm; have := size_nil hm; omega
    · split at hm
      · simp at hm; have := size_nil hm.2; omega
      · simp at hm; omega

def encOf (l : List Val) (k e : Int) : ByteArray × Int :=
  if 100 < l.length then (⟨#[]⟩, 6) else if hasEncB k e = false then (⟨#[]⟩, 2) else if (l.all fun x => mayB x k) = false then (⟨#[]⟩, 1) else (strOf (columnB k e l), 0)

theorem enc_long {l : List Val} {k e : Int} (h : 100 < l.length) : encOf l k e = (⟨#[]⟩, 6) := by unfold encOf; rw [if_pos h]
theorem enc_opt {l : List Val} {k e : Int} (h : ¬ 100 < l.length) (h2 : hasEncB k e = false) : encOf l k e = (⟨#[]⟩, 2) := by unfold encOf; rw [if_neg h, if_pos h2]
theorem enc_bad {l : List Val} {k e : Int} (h : ¬ 100 < l.length) (h2 : hasEncB k e = true) (j : Nat) (hj : j < l.length) (hm : mayB l[j] k = false) : encOf l k e = (⟨#[]⟩, 1) := by
  unfold encOf
  rw [if_neg h, if_neg (by simp [h2]), if_pos]
  rw [Bool.eq_false_iff]
  intro ha
  have := List.all_eq_true.1 ha _ (List.getElem_mem hj)
  rw [hm] at this
  cases this
theorem enc_ok {l : List Val} {k e : Int} (h : ¬ 100 < l.length) (h2 : hasEncB k e = true) (ha : ∀ j, (hj : j < l.length) → mayB l[j] k = true) : encOf l k e = (strOf (columnB k e l), 0) := by
  unfold encOf
  rw [if_neg h, if_neg (by simp [h2]), if_neg]
  have : (l.all fun x => mayB x k) = true := by
    rw [List.all_eq_true]
    intro x hx
    obtain ⟨j, hj, rfl⟩ := List.getElem_of_mem hx
    exact ha j hj
  simp [this]

theorem enc_kinds {k e : Int} (h : hasEncB k e = true) : (k = 1 ∨ k = 2 ∨ k = 3) ∧ (e = 0 ∨ e = 1 ∨ e = 2 ∨ e = 3) := by
  constructor
  · rcases cases4 k with rfl | rfl | rfl | rfl | ⟨k0, k1, k2, k3⟩
    · simp [hasEncB, isKindB] at h
    · exact .inl rfl
    · exact .inr (.inl rfl)
    · exact .inr (.inr rfl)
    · rw [not_kind k1 k2 k3] at h; cases h
  · rcases cases4 e with rfl | rfl | rfl | rfl | ⟨h0, h1, h2, h3⟩
    · exact .inl rfl
    · exact .inr (.inl rfl)
    · exact .inr (.inr (.inl rfl))
    · exact .inr (.inr (.inr rfl))
    · rw [not_enc h0 h1 h2 h3] at h; cases h

set_option maxRecDepth 100000 in
set_option maxHeartbeats 4000000 in
theorem rEncode_any (lv : Value) (l : List Val) (k e : Int) (w : World) (hm : l.length ≤ maxLen) (hin : ∀ x ∈ l, VIn x) (hvs : VSl w lv l) :
    Calls Try.prog 15 #[lv, .int .i64 k, .int .i64 e] w fun r w' => r = .returned (.tuple #[.string (encOf l k e).1, .int .i64 (encOf l k e).2]) ∧ Below w.heap.size w w' := by
  obtain ⟨ao, b, off, cap, rfl, hr⟩ := hvs
  unfold maxLen at hm
  have HF := fits_any k e
  by_cases h1 : 100 < l.length
  · rw [enc_long h1]
    go_enter Try.func15, Try.ntmps15
    go_wp2
    all_goals go_ret2
    all_goals exact ⟨rfl, Below.refl _ _⟩
  cases h2 : hasEncB k e
  · rw [enc_opt h1 h2]
    rw [h2] at HF
    go_enter Try.func15, Try.ntmps15
    go_wp2_with (go_at_call 40; refine (HF _).mono ?_; rintro e w' ⟨rfl, rfl⟩)
    all_goals go_ret2
    all_goals exact ⟨rfl, Below.refl _ _⟩
  rw [h2] at HF
  obtain ⟨hk, he⟩ := enc_kinds h2
  have HEE : Hid (hasEncB k e = true) := h2
  have HE : Hid (e = 0 ∨ e = 1 ∨ e = 2 ∨ e = 3) := he
  have HK : Hid (k = 1 ∨ k = 2 ∨ k = 3) := hk
  have HIN : Hid (∀ x ∈ l, VIn x) := hin
  have HR : Hid (VRow w ao b off l) := hr
  clear h2 he hk hin hr
  go_enter Try.func15, Try.ntmps15
  go_wp2_with (go_at_call 40; refine (HF _).mono ?_; rintro e w' ⟨rfl, hw'⟩; rw [hw']; clear hw')
  go_loopw [8, 9] (fun ok i wr => ∃ j : Nat, j ≤ l.length ∧ i = .int .i64 j ∧ ok = .bool true ∧ (∀ t, (ht : t < l.length) → t < j → mayB l[t] k = true) ∧ Below w.heap.size w wr) (fun _ i _ => l.length - (intOf i).toNat)
  case atStart => exact ⟨0, Nat.zero_le _, rfl, rfl, fun t _ h => by omega, Below.refl _ _⟩
  case round =>
    obtain ⟨j, hj, rfl, rfl, hall, hbel⟩ := hrel
    have HA : Hid (∀ t, (ht : t < l.length) → t < j → mayB l[t] k = true) := hall
    have HB : Hid (Below w.heap.size w wr) := hbel
    have hsz := hbel.size
    clear hall
    by_cases hlt : j < l.length
    · have hr := HR.out.below hbel
      obtain rfl := hr.addr (by omega)
      have p0 := hr.c0 j hlt
      have p1 := hr.c1 j hlt
      have p2 := hr.c2 j hlt
      have HX : Hid (mayB l[j] k = false → encOf l k e = (⟨#[]⟩, 1)) := fun h => enc_bad h1 HEE.out j hlt h
      have HY : Hid (mayB l[j] k = true → ∀ t, (ht : t < l.length) → t < j + 1 → mayB l[t] k = true) := fun h t ht h2 => by
        by_cases e2 : t = j
        · subst e2; exact h
        · exact HA.out t ht (by omega)
      have HM : Hid (∀ W, Calls Try.prog 41 #[.agg #[.bool l[j].null, .int .i64 l[j].n, .string l[j].s], .int .i64 k] W fun e w' => e = .returned (.bool (mayB l[j] k)) ∧ Below W.heap.size W w') := fun W => may_any l[j] k W HK.out
      clear hr hbel HA HR
      generalize l[j] = x at *
      cases hmb : mayB x k
      · have HX2 : Hid (encOf l k e = (⟨#[]⟩, 1)) := HX.out hmb
        rw [hmb] at HM
        clear HX HY hmb
        go_wp2_with (go_at_call 41; refine (HM.out _).mono ?_; rintro e w1 ⟨rfl, hb1⟩)
        go_ret2
        rw [HX2.out]
        exact ⟨rfl, HB.out.trans (hb1.mono hsz)⟩
      · have HY2 : Hid (∀ t, (ht : t < l.length) → t < j + 1 → mayB l[t] k = true) := HY.out hmb
        rw [hmb] at HM
        clear HX HY hmb
        go_wp2_with (go_at_call 41; refine (HM.out _).mono ?_; rintro e w1 ⟨rfl, hb1⟩)
        go_roundw
        case rel => exact ⟨j + 1, by omega, by go_num, rfl, HY2.out, HB.out.trans (hb1.mono hsz)⟩
        case measure => simp [intOf]; omega
    · have hall : ∀ t, (ht : t < l.length) → mayB l[t] k = true := fun t ht => HA.out t ht (by omega)
      have HP : Hid (encOf l k e = (strOf (columnB k e l), 0)) := enc_ok h1 HEE.out hall
      have hvo : ∀ x ∈ l, VOk x := fun x hx => by
        obtain ⟨t, ht, rfl⟩ := List.getElem_of_mem hx
        exact vok_of_may (HIN.out _ hx) (hall t ht)
      have HCK : Hid (Calls Try.prog 42 #[.slice ao l.length cap, .int .i64 k, .int .i64 e] wr fun r w' => r = .returned (.string (strOf (columnB k e l))) ∧ Below wr.heap.size wr w') :=
        chunk_any _ l k e wr HK.out HE.out hvo (by omega) ⟨ao, b, off, cap, rfl, HR.out.below hbel⟩
      clear HA hall hvo hbel
      go_wp2_with (go_at_call 42; refine HCK.out.mono ?_; rintro e w1 ⟨rfl, hb1⟩)
      go_ret2
      rw [HP.out]
      exact ⟨rfl, HB.out.trans (hb1.mono hsz)⟩

set_option maxRecDepth 100000 in
set_option maxHeartbeats 4000000 in
theorem cEncode_any (lv : Value) (l : List Val) (k e : Int) (w : World) (hm : l.length ≤ maxLen) (hin : ∀ x ∈ l, VIn x) (hvs : VSl w lv l) :
    Calls Try.prog 17 #[lv, .int .i64 k, .int .i64 e] w fun r w' => r = .returned (.tuple #[.string (encOf l k e).1, .int .i64 (encOf l k e).2]) ∧ Below w.heap.size w w' := by
  obtain ⟨ao, b, off, cap, rfl, hr⟩ := hvs
  unfold maxLen at hm
  have HF := checkColumn_any (l.length : Int) k e
  by_cases h1 : 100 < l.length
  · rw [enc_long h1]
    rw [show colE (l.length : Int) k e = 6 from by unfold colE; rw [if_pos (by omega)]] at HF
    go_enter Try.func17, Try.ntmps17
    go_wp2_with (go_at_call 43; refine (HF _).mono ?_; rintro e w' ⟨rfl, rfl⟩)
    all_goals go_ret2
    all_goals exact ⟨rfl, Below.refl _ _⟩
  cases h2 : hasEncB k e
  · rw [enc_opt h1 h2]
    rw [show colE (l.length : Int) k e = 2 from by unfold colE; rw [if_neg (by omega), h2]; rfl] at HF
    go_enter Try.func17, Try.ntmps17
    go_wp2_with (go_at_call 43; refine (HF _).mono ?_; rintro e w' ⟨rfl, rfl⟩)
    all_goals go_ret2
    all_goals exact ⟨rfl, Below.refl _ _⟩
  rw [show colE (l.length : Int) k e = 0 from by unfold colE; rw [if_neg (by omega), h2]; rfl] at HF
  obtain ⟨hk, he⟩ := enc_kinds h2
  have HEE : Hid (hasEncB k e = true) := h2
  have HK : Hid (k = 1 ∨ k = 2 ∨ k = 3) := hk
  have HIN : Hid (∀ x ∈ l, VIn x) := hin
  have HR : Hid (VRow w ao b off l) := hr
  clear h2 he hk hin hr
  go_enter Try.func17, Try.ntmps17
  go_wp2_with (go_at_call 43; refine (HF _).mono ?_; rintro e w' ⟨rfl, hw'⟩; rw [hw']; clear hw')
  go_loopw [21] (fun i wr => ∃ j : Nat, j ≤ l.length ∧ i = .int .i64 j ∧ (∀ t, (ht : t < l.length) → t < j → mayB l[t] k = true) ∧ Below w.heap.size w wr) (fun i _ => l.length - (intOf i).toNat)
  case atStart => exact ⟨0, Nat.zero_le _, rfl, fun t _ h => by omega, Below.refl _ _⟩
  case round =>
    obtain ⟨j, hj, rfl, hall, hbel⟩ := hrel
    have HA : Hid (∀ t, (ht : t < l.length) → t < j → mayB l[t] k = true) := hall
    have HB : Hid (Below w.heap.size w wr) := hbel
    have hsz := hbel.size
    clear hall
    by_cases hlt : j < l.length
    · have hr := HR.out.below hbel
      obtain rfl := hr.addr (by omega)
      have p0 := hr.c0 j hlt
      have p1 := hr.c1 j hlt
      have p2 := hr.c2 j hlt
      have HX : Hid (mayB l[j] k = false → encOf l k e = (⟨#[]⟩, 1)) := fun h => enc_bad h1 HEE.out j hlt h
      have HY : Hid (mayB l[j] k = true → ∀ t, (ht : t < l.length) → t < j + 1 → mayB l[t] k = true) := fun h t ht h2 => by
        by_cases e2 : t = j
        · subst e2; exact h
        · exact HA.out t ht (by omega)
      have HM : Hid (∀ W, Calls Try.prog 44 #[.agg #[.bool l[j].null, .int .i64 l[j].n, .string l[j].s], .int .i64 k] W fun e w' => e = .returned (.bool (mayB l[j] k)) ∧ Below W.heap.size W w') := fun W => mayBe_any l[j] k W HK.out
      clear hr hbel HA HR
      generalize l[j] = x at *
      cases hmb : mayB x k
      · have HX2 : Hid (encOf l k e = (⟨#[]⟩, 1)) := HX.out hmb
        rw [hmb] at HM
        clear HX HY hmb
        go_wp2_with (go_at_call 44; refine (HM.out _).mono ?_; rintro e w1 ⟨rfl, hb1⟩)
        go_ret2
        rw [HX2.out]
        exact ⟨rfl, HB.out.trans ((below_box hb1).mono hsz)⟩
      · have HY2 : Hid (∀ t, (ht : t < l.length) → t < j + 1 → mayB l[t] k = true) := HY.out hmb
        rw [hmb] at HM
        clear HX HY hmb
        go_wp2_with (go_at_call 44; refine (HM.out _).mono ?_; rintro e w1 ⟨rfl, hb1⟩)
        go_roundw
        case rel => exact ⟨j + 1, by omega, by go_num, HY2.out, HB.out.trans ((below_box hb1).mono hsz)⟩
        case measure => simp [intOf]; omega
    · have hall : ∀ t, (ht : t < l.length) → mayB l[t] k = true := fun t ht => HA.out t ht (by omega)
      have HP : Hid (encOf l k e = (strOf (columnB k e l), 0)) := enc_ok h1 HEE.out hall
      have hvo : ∀ x ∈ l, VOk x := fun x hx => by
        obtain ⟨t, ht, rfl⟩ := List.getElem_of_mem hx
        exact vok_of_may (HIN.out _ hx) (hall t ht)
      have HCK : Hid (Calls Try.prog 45 #[.slice none 0 0, .slice ao l.length cap, .int .i64 k, .int .i64 e] wr fun r w' => ∃ u', r = .returned u' ∧ w'.ownsRow wr.heap.size 5 1 u' (columnB k e l).length (bcells (columnB k e l)) ∧ Grew wr w' (.slice none 0 0) u') := by
        have h0 := appendColumn_any (.slice none 0 0) (.slice ao l.length cap) [] l k e wr.heap.size wr HK.out hvo (by omega) (by simp) (Nat.le_refl _) (World.ownsRow_nil _ _ _ _) ⟨ao, b, off, cap, rfl, HR.out.below hbel⟩
        rw [List.nil_append] at h0
        exact h0
      clear HA hall hvo hbel
      go_wp2_with (go_at_call 45; refine HCK.out.mono ?_; rintro e w1 ⟨u1, rfl, ho1, hg1⟩; have hcv := run_string_own ho1 rfl)
      go_ret2
      rw [HP.out]
      exact ⟨rfl, HB.out.trans ((hg1.below (fun g hg => by simp [Value.ownBlock] at hg) (Nat.le_refl _)).mono hsz)⟩
end Go.Proofs.Ytpijlpeibapogaa.Ec

/- Values as a caller hands them in: the contract of lentValues. -/
set_option linter.unusedVariables false
namespace Go.Proofs.Ytpijlpeibapogaa.Ec
open Go.RowKit Go.Proofs.Ytpijlpeibapogaa.Pk Go.Proofs.Ytpijlpeibapogaa.Pm

/-- 'copy' over elements of more than one cell. -/
theorem run_copy_wide {P : Program} (w : World) (dT sT ty elem : TypeId) (g o dLen dCap : Nat) (a : Addr) (sLen sCap s : Nat) (cur : Array Value) (t : TypeId) (cs : List Value) (i : TypeInfo)
    (hu : P.underlying dT = some (.slice elem)) (hi : P.info? elem = some i) (hs : i.size = s) (hg : w.heap[g]? = some (.cells cur t (0, 0))) (hn : cs.length = Nat.min sLen dLen * s)
    (hsrc : ∀ j v, cs[j]? = some v → w.cell? (a.add j) = some v) (hfit : o + cs.length ≤ cur.size) (h1 : ∀ v ∈ cs, v.oneCell' = true) :
    (Builtin.copy_ #[dT, sT] ty #[.slice (some ⟨g, o, none⟩) dLen dCap, .slice (some a) sLen sCap]).run P w = .ok (goInt (Nat.min sLen dLen)) (w.setRow g (cur.toList.take o ++ cs ++ cur.toList.drop (o + cs.length)).toArray) := by
  have hl := run_loadCells_list (P := P) w a cs hsrc
  have hst := run_storeCells_at P g o t cs 0 cur w hg (by simpa using hfit) h1
  rw [hn] at hl
  simp [Builtin.copy_, run_underlying hu, Builtin.lenOf, Builtin.firstCells, sizeOf, typeInfo, hi, hs, hl, hst]
theorem run_copy_wide_none {P : Program} (w : World) (dT sT ty elem : TypeId) (d a : Option Addr) (dLen dCap sLen sCap : Nat) (i : TypeInfo) (hu : P.underlying dT = some (.slice elem)) (hi : P.info? elem = some i) (hn : Nat.min sLen dLen = 0) :
    (Builtin.copy_ #[dT, sT] ty #[.slice d dLen dCap, .slice a sLen sCap]).run P w = .ok (goInt 0) w := by
  have hl : ∀ (x : Addr), (loadCells x 0).run P w = .ok #[] w := fun x => by simpa using run_loadCells_list (P := P) w x [] (by simp)
  cases d <;> cases a <;> simp [Builtin.copy_, run_underlying hu, Builtin.lenOf, Builtin.firstCells, sizeOf, typeInfo, hi, hn, storeCells, hl]

def zeroV : Val := ⟨false, 0, ⟨#[]⟩⟩
def beyV : Val := ⟨false, -77, ⟨#[98, 101, 121, 111, 110, 100]⟩⟩
def lentV (l : List Val) (t : Nat) : List Val := l ++ (List.replicate t beyV ++ List.replicate (8 - t) zeroV)
theorem lentV_length (l : List Val) (t : Nat) (h : t ≤ 8) : (lentV l t).length = l.length + 8 := by unfold lentV; simp; omega

theorem vcells_set (L : List Val) : ∀ (j : Nat) (v : Val), j < L.length → (((vcells L).set (j * 3) (.bool v.null)).set (j * 3 + 1) (.int .i64 v.n)).set (j * 3 + 2) (.string v.s) = vcells (L.set j v) := by
  induction L with
  | nil => intro j v h; simp at h
  | cons x r ih =>
    intro j v h
    cases j with
    | zero => simp [vcells_cons]
    | succ j =>
      have := ih j v (by simpa using h)
      rw [List.set_cons_succ, vcells_cons, vcells_cons, ← this]
      rw [show (j + 1) * 3 = j * 3 + 1 + 1 + 1 by omega]
      simp [List.set_cons_succ]

theorem lentV_set (l : List Val) (t : Nat) (ht : t < 8) : (lentV l t).set (l.length + t) beyV = lentV l (t + 1) := by
  unfold lentV
  rw [List.set_append_right _ _ (by omega), show l.length + t - l.length = t by omega, List.set_append_right _ _ (by simp)]
  simp only [List.length_replicate, Nat.sub_self]
  rw [show 8 - t = (8 - (t + 1)) + 1 by omega, List.replicate_succ, List.set_cons_zero, List.replicate_succ' (n := t)]
  simp

theorem vcells_oneCell (l : List Val) : ∀ v ∈ vcells l, v.oneCell' = true := by
  intro v hv
  unfold vcells at hv
  obtain ⟨x, _, hx⟩ := List.mem_flatMap.1 hv
  exact three_one x v hx

theorem made_vals (n : Nat) : (madeCells (Value.cells (.agg #[.bool false, .int .i64 0, .string ⟨#[]⟩])) (n * 3)).toList = vcells (List.replicate n zeroV) := by
  apply List.ext_getElem?
  intro j
  by_cases hj : j < n * 3
  · obtain ⟨q, hq, hjq⟩ : ∃ q, q < n ∧ (j = q * 3 ∨ j = q * 3 + 1 ∨ j = q * 3 + 2) := ⟨j / 3, by omega, by omega⟩
    obtain ⟨c0, c1, c2⟩ := vcells_at (List.replicate n zeroV) q (by simpa using hq)
    rw [List.getElem_replicate] at c0 c1 c2
    rcases hjq with rfl | rfl | rfl
    · rw [c0]; simp [madeCells, Value.cells, zeroV, hj]
    · rw [c1]; simp [madeCells, Value.cells, zeroV, hj, show (q * 3 + 1) % 3 = 1 by omega]
    · rw [c2]; simp [madeCells, Value.cells, zeroV, hj, show (q * 3 + 2) % 3 = 2 by omega]
  · rw [List.getElem?_eq_none (by simp [size_madeCells]; omega), List.getElem?_eq_none (by rw [vcells_length]; simp; omega)]

/-- A row of values of the call's own, out of its block, and back. -/
theorem vowns_of_block {w : World} {base g n : Nat} {xs : List Value} (h : w.heap[g]? = some (.cells xs.toArray 39 (0, 0))) (hl : xs.length = n * 3) (hb : base ≤ g) (hn : n ≤ maxLen) :
    w.ownsRow base 39 3 (.slice (some ⟨g, 0, none⟩) n n) n xs :=
  ⟨hl, .inr ⟨g, n, xs.toArray, rfl, hb, h, Nat.le_refl _, hn, by simp [hl], by simp; exact List.take_of_length_le (by omega)⟩⟩
theorem vblock_of_owns {w : World} {base g n : Nat} {xs : List Value} (h : w.ownsRow base 39 3 (.slice (some ⟨g, 0, none⟩) n n) n xs) : w.heap[g]? = some (.cells xs.toArray 39 (0, 0)) := by
  rcases h.2 with ⟨h1, _⟩ | ⟨g', cap, cur, h1, _, h3, _, _, h6, h7⟩
  · simp at h1
  · simp only [Value.slice.injEq, Option.some.injEq, Addr.mk.injEq, and_true, true_and] at h1
    obtain ⟨rfl, rfl⟩ := h1
    rw [h3]
    have : cur.toList = xs := by rw [← h7]; exact (List.take_of_length_le (by simp [h6])).symm
    rw [← this]

theorem vlent_copy (l : List Val) {ao : Option Addr} {b off cap : Nat} {w w0 : World} {g : Nat} (hr : VRow w ao b off l) (hbel : Below w.heap.size w w0) (hg : w.heap.size ≤ g)
    (hB : w0.heap[g]? = some (.cells (vcells (List.replicate (l.length + 8) zeroV)).toArray 39 (0, 0))) :
    ∃ w1, (Builtin.copy_ #[30, 30] 3 #[.slice (some ⟨g, 0, none⟩) (l.length + 8) (l.length + 8), .slice ao l.length cap]).run Try.prog w0 = .ok (.int .i64 (l.length : Int)) w1 ∧
      Hid (w1.heap[g]? = some (.cells (vcells (lentV l 0)).toArray 39 (0, 0))) ∧ Below w.heap.size w w1 := by
  obtain ⟨j0, hj, hy0, hy1, hy2⟩ := info_parts Try.info39
  have hr0 := hr.below hbel
  by_cases h : 0 < l.length
  · obtain rfl := hr.addr h
    have hsrc : ∀ j v, (vcells l)[j]? = some v → w0.cell? ((⟨b, off, none⟩ : Addr).add j) = some v := by
      intro j v hv
      have hjl : j < l.length * 3 := by have := (List.getElem?_eq_some_iff.1 hv).1; rwa [vcells_length] at this
      obtain ⟨q, hq, hjq⟩ : ∃ q, q < l.length ∧ (j = q * 3 ∨ j = q * 3 + 1 ∨ j = q * 3 + 2) := ⟨j / 3, by omega, by omega⟩
      obtain ⟨c0, c1, c2⟩ := vcells_at l q hq
      rw [Addr.add_lit]
      rcases hjq with rfl | rfl | rfl
      · rw [← hv, c0]; exact hr0.c0 q hq
      · rw [← hv, c1, ← Nat.add_assoc]; exact hr0.c1 q hq
      · rw [← hv, c2, ← Nat.add_assoc]; exact hr0.c2 q hq
    have hmin : Nat.min l.length (l.length + 8) = l.length := Nat.min_eq_left (by omega)
    have hrr := run_copy_wide (P := Try.prog) w0 30 30 3 39 g 0 (l.length + 8) (l.length + 8) ⟨b, off, none⟩ l.length cap 3 _ 39 (vcells l) j0 Try.underlying30 hj hy1 hB (by rw [vcells_length, hmin]) hsrc (by simp [vcells_length]; omega) (vcells_oneCell l)
    rw [hmin] at hrr
    refine ⟨_, hrr, ?_, below_setRow hbel hg _⟩
    show _ = _
    have hsp : (vcells (List.replicate (l.length + 8) zeroV)).take 0 ++ vcells l ++ (vcells (List.replicate (l.length + 8) zeroV)).drop (0 + (vcells l).length) = vcells (lentV l 0) := by
      rw [List.take_zero, List.nil_append, Nat.zero_add, ← List.replicate_append_replicate, vcells_append, List.drop_append_of_le_length (by simp [vcells_length]), List.drop_of_length_le (by simp [vcells_length]), List.nil_append]
      unfold lentV
      rw [vcells_append]
      simp
    have := setRow_heap w0 g _ (vcells (lentV l 0)).toArray 39 _ hB
    rw [← hsp]
    rw [← hsp] at this
    simpa using this
  · have h0 : l = [] := List.eq_nil_of_length_eq_zero (by omega)
    subst h0
    exact ⟨w0, run_copy_wide_none (P := Try.prog) w0 30 30 3 39 _ ao _ _ _ cap j0 Try.underlying30 hj (by simp), by show _ = _; simpa [lentV] using hB, hbel⟩

theorem stored3 {w : World} {base g n cap : Nat} {L : List Val} (h : w.ownsRow base 39 3 (.slice (some ⟨g, 0, none⟩) n cap) n (vcells L)) (j : Nat) (v : Val) (hj : j < L.length) :
    (((w.setCell ⟨g, j * 3, none⟩ (.bool v.null)).setCell ⟨g, j * 3 + 1, none⟩ (.int .i64 v.n)).setCell ⟨g, j * 3 + 2, none⟩ (.string v.s)).ownsRow base 39 3 (.slice (some ⟨g, 0, none⟩) n cap) n (vcells (L.set j v)) := by
  rw [← vcells_set L j v hj]
  exact ((((h.stored (j * 3) (.bool v.null)).1).stored (j * 3 + 1) (.int .i64 v.n)).1.stored (j * 3 + 2) (.string v.s)).1

set_option maxRecDepth 100000 in
set_option maxHeartbeats 4000000 in
theorem lentValues_any (lv : Value) (l : List Val) (w : World) (hreach : l.length * 32 ≤ 140737488351232) (hvs : VSl w lv l) :
    Calls Try.prog 16 #[lv] w fun e w' => ∃ g, e = .returned (.slice (some ⟨g, 0, none⟩) (l.length + 8) (l.length + 8)) ∧
      w'.ownsRow w.heap.size 39 3 (.slice (some ⟨g, 0, none⟩) (l.length + 8) (l.length + 8)) (l.length + 8) (vcells (lentV l 8)) ∧ Below w.heap.size w w' := by
  obtain ⟨ao, b, off, cap, rfl, hr⟩ := hvs
  obtain ⟨j0, hj, hy0, hy1, hy2⟩ := info_parts Try.info39
  go_enter Try.func16, Try.ntmps16
  go_wp2_with (first
    | (at_make; refine wpList_make_full _ rfl _ _ 30 rfl w.heap.size 39 j0 _ 3 Try.underlying30 hj hy0 hy1 .i64 .i64 _ _ (l.length + 8) rfl rfl (by first | omega | (push_cast; omega)) (by first | omega | (push_cast; omega)) (by rw [hy2]; omega) (by unfold maxLen; omega) (Nat.le_refl _) ?_; intro w0 hown0 hgrow0; have hbel0 : Below w.heap.size w w0 := (Below.refl _ _).grown hgrow0 (Nat.le_refl _) (by simp); rw [made_vals] at hown0; have HB : Hid _ := vblock_of_owns hown0; clear hown0 hgrow0))
  obtain ⟨w1, hrun, HB1, hbel1⟩ := vlent_copy l (cap := cap) hr hbel0 (Nat.le_refl _) HB.out
  clear hbel0 HB hr
  rw [hrun]
  clear hrun
  go_wp2_with fail
  have hown1 : w1.ownsRow w.heap.size 39 3 (.slice (some ⟨w.heap.size, 0, none⟩) (l.length + 8) (l.length + 8)) (l.length + 8) (vcells (lentV l 0)) :=
    vowns_of_block HB1.out (by rw [vcells_length, lentV_length l 0 (by omega)]) (Nat.le_refl _) (by unfold maxLen; omega)
  clear HB1
  go_loopw [4] (fun i wr => ∃ (t p : Nat), t ≤ 8 ∧ p = l.length + t ∧ i = .int .i64 (p : Int) ∧
      wr.ownsRow w.heap.size 39 3 (.slice (some ⟨w.heap.size, 0, none⟩) (l.length + 8) (l.length + 8)) (l.length + 8) (vcells (lentV l t)) ∧ Below w.heap.size w wr) (fun i _ => l.length + 8 - (intOf i).toNat)
  case atStart => exact ⟨0, _, by omega, rfl, rfl, hown1, hbel1⟩
  case round =>
    clear hown1 hbel1
    obtain ⟨t, p, ht, hp, rfl, hown, hbel⟩ := hrel
    have HP : Hid (p = l.length + t) := hp
    have hp1 : p ≤ l.length + 8 := by omega
    by_cases h8 : t < 8
    · have hp2 : p < l.length + 8 := by omega
      have hll := lentV_length l t ht
      have hce : ∀ q, q < (l.length + 8) * 3 → ∃ u, wr.cell? ⟨w.heap.size, q, none⟩ = some u := fun q hq => by
        rw [hown.cellAt q hq]
        exact ⟨_, List.getElem?_eq_getElem (by rw [vcells_length, hll]; exact hq)⟩
      obtain ⟨u0, hc0⟩ := hce (p * 3) (by omega)
      obtain ⟨u1, hc1⟩ := hce (p * 3 + 1) (by omega)
      obtain ⟨u2, hc2⟩ := hce (p * 3 + 2) (by omega)
      have hf0 := hown.frozenAt (p * 3)
      have hf1 := hown.frozenAt (p * 3 + 1)
      have hf2 := hown.frozenAt (p * 3 + 2)
      have hst := stored3 hown p beyV (by omega)
      rw [hp, lentV_set l t h8, ← hp] at hst
      have HS : Hid _ := hst
      clear hst hown hp hce
      go_wp2
      refine ⟨⟨t + 1, p + 1, by omega, by have := HP.out; omega, by go_num, HS.out, ((hbel.setCell (Nat.le_refl _) _).setCell (Nat.le_refl _) _).setCell (Nat.le_refl _) _⟩, by simp [intOf]; omega⟩
    · have ht8 : t = 8 := by omega
      subst ht8
      have hp3 : ¬ p < l.length + 8 := by omega
      clear hp
      go_wp2
      go_ret
      exact ⟨_, rfl, by simpa using hown, hbel⟩
end Go.Proofs.Ytpijlpeibapogaa.Ec

/- The walk of the statement Encodes: it answers true at every list, kind and encoding. -/
set_option linter.unusedVariables false
namespace Go.Proofs.Ytpijlpeibapogaa.Ec
open Go.RowKit Go.Proofs.Ytpijlpeibapogaa.Pk Go.Proofs.Ytpijlpeibapogaa.Pm

theorem lentV_same (l : List Val) {w : World} {base base2 g g2 : Nat} (hreach : l.length * 32 ≤ 140737488351232)
    (h1 : w.ownsRow base 39 3 (.slice (some ⟨g, 0, none⟩) (l.length + 8) (l.length + 8)) (l.length + 8) (vcells (lentV l 8)))
    (h2 : w.ownsRow base2 39 3 (.slice (some ⟨g2, 0, none⟩) (l.length + 8) (l.length + 8)) (l.length + 8) (vcells (lentV l 8))) :
    Calls Try.prog 18 #[.slice (some ⟨g, 0, none⟩) (l.length + 8) (l.length + 8), .slice (some ⟨g2, 0, none⟩) (l.length + 8) (l.length + 8)] w fun e w' => e = .returned (.bool true) ∧ ∃ n, w' = w.drewN n := by
  have hl : (lentV l 8).length = l.length + 8 := lentV_length l 8 (by omega)
  have key : ∀ b g, w.ownsRow b 39 3 (.slice (some ⟨g, 0, none⟩) (l.length + 8) (l.length + 8)) (l.length + 8) (vcells (lentV l 8)) → VRow w (some ⟨g, 0, none⟩) g 0 (lentV l 8) := by
    intro b g h
    obtain ⟨ao, b2, off2, cap2, he, hr⟩ := VSl.of_owns (l := lentV l 8) (by rw [hl]; exact h)
    simp only [Value.slice.injEq] at he
    obtain ⟨rfl, -, -⟩ := he
    have ha := hr.addr (by omega)
    simp only [Option.some.injEq, Addr.mk.injEq, and_true] at ha
    obtain ⟨rfl, rfl⟩ := ha
    exact hr
  have H := sameValues_any (lentV l 8) (lentV l 8) (some ⟨g, 0, none⟩) (some ⟨g2, 0, none⟩) g 0 (l.length + 8) g2 0 (l.length + 8) w (by rw [hl]; unfold maxLen; omega) (by rw [hl]; unfold maxLen; omega) (key base g h1) (key base2 g2 h2)
  rw [hl] at H
  refine H.mono ?_
  rintro e w' ⟨b, rfl, hb, hn⟩
  rw [hb.2 rfl]
  exact ⟨rfl, hn⟩

/-- The first of a lent list are the list. -/
theorem lentV_front {w : World} {base g : Nat} (l : List Val) (h : w.ownsRow base 39 3 (.slice (some ⟨g, 0, none⟩) (l.length + 8) (l.length + 8)) (l.length + 8) (vcells (lentV l 8))) (cap : Nat) : VSl w (.slice (some ⟨g, 0, none⟩) l.length cap) l := by
  have hl : (lentV l 8).length = l.length + 8 := lentV_length l 8 (by omega)
  have hc := h.cells (g := g) rfl
  have hget : ∀ j, (hj : j < l.length) → (lentV l 8)[j]'(by omega) = l[j] := fun j hj => by unfold lentV; exact List.getElem_append_left hj
  refine ⟨some ⟨g, 0, none⟩, g, 0, cap, rfl, ⟨fun _ => rfl, fun _ => (h.lt g rfl).2, ?_, ?_, ?_⟩⟩
  · intro j hj
    have := hc _ _ (vcells_at (lentV l 8) j (by omega)).1
    rw [hget j hj] at this
    simpa [Addr.add_lit] using this
  · intro j hj
    have := hc _ _ (vcells_at (lentV l 8) j (by omega)).2.1
    rw [hget j hj] at this
    simpa [Addr.add_lit] using this
  · intro j hj
    have := hc _ _ (vcells_at (lentV l 8) j (by omega)).2.2
    rw [hget j hj] at this
    simpa [Addr.add_lit] using this

set_option maxRecDepth 100000 in
set_option maxHeartbeats 4000000 in
theorem encodes_some (l : List Val) (k e : Int) (x : Addr) (cap : Nat) (w : World) (hreach : l.length * 32 ≤ 140737488351232) (hin : ∀ x ∈ l, VIn x) (hvs : VSl w (.slice (some x) l.length cap) l) :
    Calls Try.prog 4 #[.slice (some x) l.length cap, .int .i64 k, .int .i64 e] w fun r w' => r = .returned (.bool true) ∧ Below w.heap.size w w' := by
  have hml : l.length ≤ maxLen := by unfold maxLen; omega
  have heq : ∀ w, (binOp .eql 30 (.slice (some x) l.length cap) (.slice none 0 0)).run Try.prog w = .ok (.bool false) w := fun w => by
    rw [Lib.run_eql_slice_nil w 30 39 _ _ _ _ _ Try.underlying30]; rfl
  have HVS : Hid (VSl w (.slice (some x) l.length cap) l) := hvs
  have HIN : Hid (∀ x ∈ l, VIn x) := hin
  clear hvs hin
  go_enter Try.func4, Try.ntmps4
  go_wp2_with fail
  refine (rEncode_any _ l k e w hml HIN.out HVS.out).mono ?_
  rintro r w1 ⟨rfl, b1⟩
  go_wp2_with fail
  refine (lentValues_any _ l _ hreach (HVS.out.below b1)).mono ?_
  rintro r w2 ⟨g, rfl, o2, b2⟩
  go_wp2_with fail
  have bb2 : Below w.heap.size w w2 := b1.trans (b2.mono b1.size)
  refine (cEncode_any _ l k e w2 hml HIN.out (lentV_front l o2 _)).mono ?_
  rintro r w3 ⟨rfl, b3⟩
  have bb3 : Below w.heap.size w w3 := bb2.trans (b3.mono bb2.size)
  go_wp2_with fail
  refine (lentValues_any _ l _ hreach (HVS.out.below bb3)).mono ?_
  rintro r w4 ⟨g4, rfl, o4, b4⟩
  have bb4 : Below w.heap.size w w4 := bb3.trans (b4.mono bb3.size)
  go_wp2_with fail
  have o2' := ownsRow_below (ownsRow_below o2 b3) b4
  have HSM : Hid (Calls Try.prog 18 #[.slice (some ⟨g, 0, none⟩) (l.length + 8) (l.length + 8), .slice (some ⟨g4, 0, none⟩) (l.length + 8) (l.length + 8)] w4 fun e w' => e = .returned (.bool true) ∧ ∃ n, w' = w4.drewN n) := lentV_same l hreach o2' o4
  refine HSM.out.mono ?_
  rintro r w5 ⟨rfl, n5, rfl⟩
  have bb5 := below_drewN bb4 n5
  clear HSM o2' o2 o4 bb2 bb3 bb4 b1 b2 b3 b4 heq HVS HIN
  generalize w4.drewN n5 = w6 at *
  generalize (encOf l k e).1 = t at *
  generalize (encOf l k e).2 = f at *
  have hts : (t.toList == t.toList) = true := by simp
  go_wp2
  go_ret
  exact ⟨rfl, bb5⟩

set_option maxRecDepth 100000 in
set_option maxHeartbeats 4000000 in
theorem encodes_none (k e : Int) (w : World) :
    Calls Try.prog 4 #[.slice none 0 0, .int .i64 k, .int .i64 e] w fun r w' => r = .returned (.bool true) ∧ Below w.heap.size w w' := by
  have heq : ∀ w, (binOp .eql 30 (.slice none 0 0) (.slice none 0 0)).run Try.prog w = .ok (.bool true) w := fun w => by
    rw [Lib.run_eql_slice_nil w 30 39 _ _ _ _ _ Try.underlying30]; rfl
  have hv : ∀ W, VSl W (.slice none 0 0) [] := fun W => VSl.of_owns (base := 0) (World.ownsRow_nil _ _ _ _)
  have HP : Hid (∀ w, Calls Try.prog 15 #[.slice none 0 0, .int .i64 k, .int .i64 e] w fun r w' => r = .returned (.tuple #[.string (encOf [] k e).1, .int .i64 (encOf [] k e).2]) ∧ Below w.heap.size w w') := fun w =>
    rEncode_any _ [] k e w (by simp) (by simp) (hv w)
  have HC : Hid (∀ w, Calls Try.prog 17 #[.slice none 0 0, .int .i64 k, .int .i64 e] w fun r w' => r = .returned (.tuple #[.string (encOf [] k e).1, .int .i64 (encOf [] k e).2]) ∧ Below w.heap.size w w') := fun w =>
    cEncode_any _ [] k e w (by simp) (by simp) (hv w)
  have HL : Hid (∀ w, Calls Try.prog 16 #[.slice none 0 0] w fun e w' => ∃ g, e = .returned (.slice (some ⟨g, 0, none⟩) 8 8) ∧ w'.ownsRow w.heap.size 39 3 (.slice (some ⟨g, 0, none⟩) 8 8) 8 (vcells (lentV [] 8)) ∧ Below w.heap.size w w') := fun w =>
    lentValues_any _ [] w (by simp) (hv w)
  clear hv
  go_enter Try.func4, Try.ntmps4
  go_wp2_with fail
  refine (HP.out _).mono ?_
  rintro r w1 ⟨rfl, b1⟩
  go_wp2_with fail
  refine (HL.out _).mono ?_
  rintro r w2 ⟨g, rfl, o2, b2⟩
  go_wp2_with fail
  have bb2 : Below w.heap.size w w2 := b1.trans (b2.mono b1.size)
  refine (HC.out _).mono ?_
  rintro r w3 ⟨rfl, b3⟩
  have bb3 : Below w.heap.size w w3 := bb2.trans (b3.mono bb2.size)
  go_wp2_with fail
  refine (HL.out _).mono ?_
  rintro r w4 ⟨g4, rfl, o4, b4⟩
  have bb4 : Below w.heap.size w w4 := bb3.trans (b4.mono bb3.size)
  go_wp2_with fail
  have o2' := ownsRow_below (ownsRow_below o2 b3) b4
  have HSM : Hid (Calls Try.prog 18 #[.slice (some ⟨g, 0, none⟩) 8 8, .slice (some ⟨g4, 0, none⟩) 8 8] w4 fun e w' => e = .returned (.bool true) ∧ ∃ n, w' = w4.drewN n) := lentV_same [] (by simp) o2' o4
  refine HSM.out.mono ?_
  rintro r w5 ⟨rfl, n5, rfl⟩
  have bb5 := below_drewN bb4 n5
  clear HSM o2' o2 o4 bb2 bb3 bb4 b1 b2 b3 b4 heq HP HC HL
  generalize w4.drewN n5 = w6 at *
  generalize (encOf [] k e).1 = t at *
  generalize (encOf [] k e).2 = f at *
  have hts : (t.toList == t.toList) = true := by simp
  go_wp2
  go_ret
  exact ⟨rfl, bb5⟩
end Go.Proofs.Ytpijlpeibapogaa.Ec

/- A slice of values that came in, opened. -/
set_option linter.unusedVariables false
namespace Go.Proofs.Ytpijlpeibapogaa.Ec
open Go.RowKit Go.Proofs.Ytpijlpeibapogaa.Pk Go.Proofs.Ytpijlpeibapogaa.Pm

theorem vin_of_wf {n : Int} (h : (Lit.int .i64 n).wf = true) : -9223372036854775808 ≤ n ∧ n ≤ 9223372036854775807 := by
  simp [Lit.wf, IntKind.min, IntKind.max, IntKind.signed, IntKind.bits] at h
  omega

theorem list3 {α : Type} {l : List α} (h : l.length = 3) : ∃ a b c, l = [a, b, c] := by
  match l, h with
  | [a, b, c], _ => exact ⟨a, b, c, rfl⟩

set_option maxRecDepth 100000 in
theorem open_valsS {H : Type} {enc : TypeId × Value → H} {w : World} {spare : Nat → Bool} {held : Bool} {fuel : Nat} {a : Option Addr} {len cap : Nat} {x : DataW H × List MemPlace}
    (h : DataW.trod enc Try.prog w 0 spare held fuel 30 [.slice a len cap] = some x) :
    (a = none ∧ len = 0 ∧ cap = 0) ∨ ∃ (ad : Addr) (l : List Val) (es sp : List (DataW H)), a = some ad ∧ l.length = len ∧ es.length = len ∧ x.1 = .slice es sp ∧ (∀ v ∈ l, VIn v ∧ v.s.size ≤ maxLen) ∧ VSl w (.slice (some ad) l.length cap) l := by
  rcases Deep.open_slice Try.underlying30 h with ⟨hcs, _⟩ | ⟨ad, ln, cp, m, n, D, Pl, hcs, _, hl, hm, hmm, rfl, hx⟩
  · simp at hcs
    exact .inl hcs
  · simp at hcs
    obtain ⟨rfl, rfl, rfl⟩ := hcs
    right
    have hlm : len ≤ m := by rw [hmm]; split <;> omega
    rw [cellsV] at hx
    have each : ∀ i, i < len → ∃ v : Val, w.cell? (ad.add (i * 3)) = some (.bool v.null) ∧ w.cell? (ad.add (i * 3 + 1)) = some (.int .i64 v.n) ∧ w.cell? (ad.add (i * 3 + 2)) = some (.string v.s) ∧ (VIn v ∧ v.s.size ≤ maxLen) := by
      intro i hi
      obtain ⟨cs', h1, h2⟩ := hx i (by omega)
      obtain ⟨_, hlen, hcell⟩ := World.cells?_some h1
      obtain ⟨y0, y1, y2, k, _, _, g0, g1, g2⟩ := Deep.trod_struct3 Try.underlying39 h2
      obtain ⟨v0, v1, v2, rfl⟩ := list3 hlen
      simp [cellsB1, cellsI1, cellsS1] at g0 g1 g2
      obtain ⟨b, hb, _⟩ := DataW.trod_bool Try.underlying4 g0
      obtain ⟨n1, hn, _, hwf⟩ := DataW.trod_int Try.underlying3 g1
      obtain ⟨s, hs, _, hsz⟩ := DataW.trod_string Try.underlying9 g2
      simp at hb hn hs
      subst hb hn hs
      have e0 := hcell 0 (by omega)
      have e1 := hcell 1 (by omega)
      have e2 := hcell 2 (by omega)
      rw [Deep.add_add] at e0 e1 e2
      exact ⟨⟨b, n1, s⟩, by simpa using e0, by simpa using e1, by simpa using e2, ⟨(vin_of_wf hwf).1, (vin_of_wf hwf).2⟩, hsz⟩
    obtain ⟨f, hf⟩ := @Deep.choose_lt Val ⟨zeroV⟩ _ _ each
    have hlen : ((List.range len).map f).length = len := by simp
    have hget : ∀ j, (hj : j < ((List.range len).map f).length) → ((List.range len).map f)[j] = f j := fun j hj => by simp
    refine ⟨ad, (List.range len).map f, _, _, rfl, hlen, by simp, rfl, ?_, ?_⟩
    · intro v hv
      obtain ⟨i, hi, rfl⟩ := List.mem_map.1 hv
      exact (hf i (List.mem_range.1 hi)).2.2.2
    · by_cases h0 : 0 < len
      · obtain ⟨b, off, spot⟩ := ad
        have hspot : spot = none := by simpa [Addr.add] using World.cell?_spot (hf 0 h0).1
        subst hspot
        have c0 : ∀ j, j < len → w.cell? ⟨b, off + j * 3, none⟩ = some (.bool (f j).null) := fun j hj => by have := (hf j hj).1; rwa [Addr.add_lit] at this
        refine ⟨some ⟨b, off, none⟩, b, off, cap, by rw [hlen], ⟨fun _ => rfl, fun _ => World.block_lt_of_cell? w ⟨b, off + 0 * 3, none⟩ (c0 0 h0), ?_, ?_, ?_⟩⟩
        · intro j hj
          rw [hget j hj]
          exact c0 j (by simpa using hj)
        · intro j hj
          rw [hget j hj]
          have := (hf j (by simpa using hj)).2.1
          rwa [Addr.add_lit, ← Nat.add_assoc] at this
        · intro j hj
          rw [hget j hj]
          have := (hf j (by simpa using hj)).2.2.1
          rwa [Addr.add_lit, ← Nat.add_assoc] at this
      · refine ⟨some ad, 0, 0, cap, by rw [hlen], ⟨fun h => ?_, fun h => ?_, fun j h => ?_, fun j h => ?_, fun j h => ?_⟩⟩
        all_goals (rw [hlen] at h; omega)
theorem open_vals {H : Type} {enc : TypeId × Value → H} {w : World} {spare : Nat → Bool} {held : Bool} {fuel : Nat} {a : Option Addr} {len cap : Nat} {x : DataW H × List MemPlace}
    (h : DataW.trod enc Try.prog w 0 spare held fuel 30 [.slice a len cap] = some x) :
    (a = none ∧ len = 0 ∧ cap = 0) ∨ ∃ (ad : Addr) (l : List Val) (es sp : List (DataW H)), a = some ad ∧ l.length = len ∧ es.length = len ∧ x.1 = .slice es sp ∧ (∀ v ∈ l, VIn v) ∧ VSl w (.slice (some ad) l.length cap) l := by
  rcases open_valsS h with h | ⟨ad, l, es, sp, h1, h2, h3, h4, h5, h6⟩
  · exact .inl h
  · exact .inr ⟨ad, l, es, sp, h1, h2, h3, h4, fun v hv => (h5 v hv).1, h6⟩
end Go.Proofs.Ytpijlpeibapogaa.Ec

/- The contracts of the code's Reader: a byte is taken, or the bytes are given up by a panic. -/
set_option linter.unusedVariables false
namespace Go.Proofs.Ytpijlpeibapogaa.Pk
open Go.RowKit Go.Proofs.Ytpijlpeibapogaa.Pm

theorem extract_one (s : ByteArray) (p : Nat) (h : p < s.size) : s.extract p (p + 1) = ⟨#[s[p]]⟩ := by
  apply bytesOf_inj
  unfold bytesOf
  congr 1
  rw [ByteArray.data_extract]
  simp only [Array.toList_extract]
  have h2 : p < s.data.toList.length := h
  rw [show List.extract s.data.toList p (p + 1) = (s.data.toList.drop p).take 1 from by simp [List.extract], List.drop_eq_getElem_cons h2]
  rfl

/-- The block of a Reader. -/
def rdr (s : ByteArray) (p : Nat) : Obj := .cells #[.string s, .int .i64 (p : Int)] 180 (0, 0)

/-- The panic by which a Reader gives up. -/
def badAt (p : Nat) : List PanicEntry := [{ v := .iface 182 (.agg #[.int .i64 (p : Int)]), recovered := false }]

theorem rdr_cells {w : World} {r p : Nat} {s : ByteArray} (h : w.heap[r]? = some (rdr s p)) :
    w.cell? ⟨r, 0, none⟩ = some (.string s) ∧ w.cell? ⟨r, 1, none⟩ = some (.int .i64 (p : Int)) ∧ w.frozen? ⟨r, 0, none⟩ = false ∧ w.frozen? ⟨r, 1, none⟩ = false := by
  unfold rdr at h
  refine ⟨?_, ?_, ?_, ?_⟩
  · simp [World.cell?, h]
  · simp [World.cell?, h]
  · simp [World.frozen?, h]
  · simp [World.frozen?, h]

theorem drew_set (w : World) (a : Addr) (v : Value) (m n : Nat) : ((w.drewN m).setCell a v).drewN n = (w.setCell a v).drewN (m + n) := by
  rw [show (w.drewN m).setCell a v = (w.setCell a v).drewN m from by unfold World.setCell; rfl, World.drewN_drewN]

set_option maxRecDepth 100000 in
set_option maxHeartbeats 1000000 in
theorem giveUp_any (r p : Nat) (s : ByteArray) (w : World) (h : w.heap[r]? = some (rdr s p)) :
    Calls Try.prog 84 #[.pointer (some ⟨r, 0, none⟩)] w fun e w' => e = .panicked (badAt p) ∧ w' = w := by
  obtain ⟨c0, c1, f0, f1⟩ := rdr_cells h
  clear h
  go_enter Try.func84, Try.ntmps84
  go_wp2
  exact ⟨rfl, rfl, rfl⟩

set_option maxRecDepth 100000 in
set_option maxHeartbeats 1000000 in
theorem take_bad (r p : Nat) (s : ByteArray) (w : World) (hm : s.size ≤ maxLen) (hp : ¬ p < s.size) (hp2 : p ≤ s.size) (h : w.heap[r]? = some (rdr s p)) :
    Calls Try.prog 118 #[.pointer (some ⟨r, 0, none⟩), .int .i64 1] w fun e w' => e = .panicked (badAt p) ∧ ∃ n, w' = w.drewN n := by
  obtain ⟨c0, c1, f0, f1⟩ := rdr_cells h
  unfold maxLen at hm
  have HR : Hid (w.heap[r]? = some (rdr s p)) := h
  clear h
  have hd : decide ((s.size : Int) - (p : Int) < 1) = true := by simp; omega
  go_enter Try.func118, Try.ntmps118
  go_wp2_with fail
  go_quiet (fail)
  go_wp2_with (go_at_call 84; refine (giveUp_any r p s _ (by exact HR.out)).mono ?_; rintro e w' ⟨rfl, rfl⟩)
  exact ⟨rfl, rfl, nq, rfl⟩

set_option maxRecDepth 100000 in
set_option maxHeartbeats 1000000 in
theorem take_ok (r p : Nat) (s : ByteArray) (w : World) (hm : s.size ≤ maxLen) (hp : p < s.size) (h : w.heap[r]? = some (rdr s p)) :
    Calls Try.prog 118 #[.pointer (some ⟨r, 0, none⟩), .int .i64 1] w fun e w' => e = .returned (.string ⟨#[s[p]]⟩) ∧ ∃ n, w' = (w.setCell ⟨r, 1, none⟩ (.int .i64 ((p + 1 : Nat) : Int))).drewN n := by
  obtain ⟨c0, c1, f0, f1⟩ := rdr_cells h
  unfold maxLen at hm
  clear h
  have hd : decide ((s.size : Int) - (p : Int) < 1) = false := by simp; omega
  have q1 : (0 : Int) ≤ (p : Int) + 1 := by omega
  have q2 : (p : Int) + 1 ≤ (s.size : Int) := by omega
  have q3 : (p : Int) ≤ (p : Int) + 1 := by omega
  have q4 : ((p : Int) + 1).toNat = p + 1 := by omega
  have q5 := extract_one s p hp
  go_enter Try.func118, Try.ntmps118
  go_wp2_with fail
  go_quiet (fail)
  generalize nq = m at *
  go_wp2_with fail
  go_quiet (fail)
  go_wp2
  go_ret
  exact ⟨rfl, m + nq, drew_set _ _ _ _ _⟩

set_option maxRecDepth 100000 in
set_option maxHeartbeats 1000000 in
theorem byte_bad (r p : Nat) (s : ByteArray) (w : World) (hm : s.size ≤ maxLen) (hp : ¬ p < s.size) (hp2 : p ≤ s.size) (h : w.heap[r]? = some (rdr s p)) :
    Calls Try.prog 83 #[.pointer (some ⟨r, 0, none⟩)] w fun e w' => e = .panicked (badAt p) ∧ ∃ n, w' = w.drewN n := by
  have HR : Hid (w.heap[r]? = some (rdr s p)) := h
  clear h
  go_enter Try.func83, Try.ntmps83
  go_wp2_with (go_at_call 118; refine (take_bad r p s _ hm hp hp2 HR.out).mono ?_; rintro e w' ⟨rfl, n, rfl⟩)
  exact ⟨rfl, rfl, n, rfl⟩

set_option maxRecDepth 100000 in
set_option maxHeartbeats 1000000 in
theorem byte_ok (r p : Nat) (s : ByteArray) (w : World) (hm : s.size ≤ maxLen) (hp : p < s.size) (h : w.heap[r]? = some (rdr s p)) :
    Calls Try.prog 83 #[.pointer (some ⟨r, 0, none⟩)] w fun e w' => e = .returned (.int .u8 (s[p].toNat : Int)) ∧ ∃ n, w' = (w.setCell ⟨r, 1, none⟩ (.int .i64 ((p + 1 : Nat) : Int))).drewN n := by
  have HR : Hid (w.heap[r]? = some (rdr s p)) := h
  clear h
  go_enter Try.func83, Try.ntmps83
  go_wp2_with (go_at_call 118; refine (take_ok r p s _ hm hp HR.out).mono ?_; rintro e w' ⟨rfl, n, rfl⟩)
  go_ret
  exact ⟨rfl, n, rfl⟩

set_option maxRecDepth 100000 in
set_option maxHeartbeats 1000000 in
theorem end_bad (r p : Nat) (s : ByteArray) (w : World) (hm : s.size ≤ maxLen) (hp : p < s.size) (h : w.heap[r]? = some (rdr s p)) :
    Calls Try.prog 110 #[.pointer (some ⟨r, 0, none⟩)] w fun e w' => e = .panicked (badAt p) ∧ ∃ n, w' = w.drewN n := by
  obtain ⟨c0, c1, f0, f1⟩ := rdr_cells h
  unfold maxLen at hm
  have HR : Hid (w.heap[r]? = some (rdr s p)) := h
  clear h
  have hd : decide ((p : Int) < (s.size : Int)) = true := by simp; omega
  go_enter Try.func110, Try.ntmps110
  go_wp2_with fail
  go_quiet (fail)
  go_wp2_with (go_at_call 84; refine (giveUp_any r p s _ (by exact HR.out)).mono ?_; rintro e w' ⟨rfl, rfl⟩)
  exact ⟨rfl, rfl, nq, rfl⟩

set_option maxRecDepth 100000 in
set_option maxHeartbeats 1000000 in
theorem end_ok (r p : Nat) (s : ByteArray) (w : World) (hm : s.size ≤ maxLen) (hp : ¬ p < s.size) (h : w.heap[r]? = some (rdr s p)) :
    Calls Try.prog 110 #[.pointer (some ⟨r, 0, none⟩)] w fun e w' => e = .returned (.tuple #[]) ∧ ∃ n, w' = w.drewN n := by
  obtain ⟨c0, c1, f0, f1⟩ := rdr_cells h
  unfold maxLen at hm
  clear h
  have hd : decide ((p : Int) < (s.size : Int)) = false := by simp; omega
  go_enter Try.func110, Try.ntmps110
  go_wp2_with fail
  go_quiet (fail)
  go_wp2
  go_end0
  exact ⟨rfl, nq, rfl⟩

set_option maxRecDepth 100000 in
set_option maxHeartbeats 1000000 in
theorem newReader_any (s : ByteArray) (w : World) :
    Calls Try.prog 100 #[.string s] w fun e w' => e = .returned (.pointer (some ⟨w.heap.size, 0, none⟩)) ∧ w' = w.alloc (rdr s 0) := by
  go_enter Try.func100, Try.ntmps100
  go_wp2
  go_ret
  exact ⟨rfl, rfl⟩

theorem rdr_set {w : World} {r p q : Nat} {s : ByteArray} (h : w.heap[r]? = some (rdr s p)) (n : Nat) : ((w.setCell ⟨r, 1, none⟩ (.int .i64 (q : Int))).drewN n).heap[r]? = some (rdr s q) := by
  show (w.setCell ⟨r, 1, none⟩ (.int .i64 (q : Int))).heap[r]? = _
  unfold rdr at *
  rw [heap_setCell_same w r 1 _ _ _ h]
  rfl

/-- But for the Reader's block all that was there has stayed. -/
def Kp (r : Nat) (w w' : World) : Prop := w.grownBy w' (some r)
theorem Kp.refl (r : Nat) (w : World) : Kp r w w := World.grownBy.refl w _
theorem Kp.size {r : Nat} {w w' : World} (h : Kp r w w') : w.heap.size ≤ w'.heap.size := World.grownBy.size h
theorem Kp.trans {r : Nat} {w w1 w2 : World} (h : Kp r w w1) (k : Kp r w1 w2) : Kp r w w2 :=
  ⟨k.os.trans h.os, k.tape.trans h.tape, k.output.trans h.output, Nat.le_trans (World.grownBy.size h) (World.grownBy.size k), fun i hi hne => (World.grownBy.block k i (Nat.lt_of_lt_of_le hi (World.grownBy.size h)) hne).trans (World.grownBy.block h i hi hne)⟩
theorem Kp.drewN {r : Nat} {w w1 : World} (h : Kp r w w1) (n : Nat) : Kp r w (w1.drewN n) := Kp.trans h ⟨rfl, rfl, rfl, Nat.le_refl _, fun _ _ _ => rfl⟩
theorem Kp.alloc {r : Nat} {w w1 : World} (h : Kp r w w1) (o : Obj) : Kp r w (w1.alloc o) := Kp.trans h (World.grownBy_alloc w1 o _)
theorem Kp.grown {r : Nat} {w w1 w2 : World} {row : Option Nat} (h : Kp r w w1) (k : w1.grownBy w2 row) (hr : ∀ g, row = some g → w.heap.size ≤ g) : Kp r w w2 :=
  ⟨k.os.trans h.os, k.tape.trans h.tape, k.output.trans h.output, Nat.le_trans (World.grownBy.size h) k.size, fun i hi hne => (k.block i (Nat.lt_of_lt_of_le hi (World.grownBy.size h)) (fun e => by have := hr i e.symm; omega)).trans (World.grownBy.block h i hi hne)⟩
theorem Kp.set {r : Nat} {w w1 : World} (h : Kp r w w1) (o : Nat) (v : Value) (n : Nat) : Kp r w ((w1.setCell ⟨r, o, none⟩ v).drewN n) :=
  Kp.trans h ⟨rfl, rfl, rfl, by simp, fun i hi hne => by
    show (w1.setCell ⟨r, o, none⟩ v).heap[i]? = _
    exact heap_setCell_other _ _ _ _ (fun e => hne (by cases e; rfl))⟩
theorem Kp.below {r : Nat} {w w1 : World} (h : Kp r w w1) (hr : r ≤ w.heap.size) : Below r w w1 := ⟨h.os, h.tape, h.output, World.grownBy.size h, fun i hi => World.grownBy.block h i (by omega) (fun e => by cases e; omega)⟩
theorem Kp.of_below {r : Nat} {w w1 : World} (h : Below w.heap.size w w1) : Kp r w w1 := ⟨h.os, h.tape, h.output, h.size, fun i hi _ => h.block i hi⟩
theorem Kp.own {r : Nat} {w w1 : World} {base e size n : Nat} {v : Value} {xs : List Value} (k : Kp r w w1) (h : w.ownsRow base e size v n xs) (hr : r < base) : w1.ownsRow base e size v n xs :=
  h.kept k (by
    cases hv : v.ownBlock with
    | none => exact .inl rfl
    | some g => exact .inr (fun e => by cases e; have := (h.lt r hv).1; omega))
theorem Kp.block {r : Nat} {w w1 : World} (k : Kp r w w1) {i : Nat} {o : Obj} (h : w.heap[i]? = some o) (hne : i ≠ r) : w1.heap[i]? = some o := by
  rw [World.grownBy.block k i (lt_of_block h) (fun e => hne (by cases e; rfl))]; exact h
end Go.Proofs.Ytpijlpeibapogaa.Pk

/- The contract of the document's Pack. -/
set_option linter.unusedVariables false
namespace Go.Proofs.Ytpijlpeibapogaa.Pk
open Go.RowKit Go.Proofs.Ytpijlpeibapogaa.Pm

set_option maxRecDepth 100000 in
set_option maxHeartbeats 2000000 in
theorem rPack_any (zs : List Int) (wd : Int) (ao : Option Addr) (b off cap : Nat) (w : World) (hm : zs.length ≤ maxLen)
    (hs : 0 < zs.length → ao = some ⟨b, off, none⟩) (hb : 0 < zs.length → b < w.heap.size) (hc : ∀ j, j < zs.length → w.cell? ⟨b, off + j, none⟩ = some (.int .i64 (zs.getD j 0))) :
    Calls Try.prog 10 #[.slice ao zs.length cap, .int .i64 wd] w fun e w' => e = .returned (.tuple #[.string (packOf zs wd).1, .int .i64 (packOf zs wd).2]) ∧ Below w.heap.size w w' := by
  unfold maxLen at hm
  by_cases h1 : 100 < zs.length
  · rw [packOf_long h1]
    go_enter Try.func10, Try.ntmps10
    go_wp2
    all_goals go_ret2
    all_goals exact ⟨rfl, Below.refl _ _⟩
  by_cases h2 : wd < 0 ∨ 16 < wd
  · rw [packOf_wide h1 h2]
    rcases h2 with h2 | h2
    all_goals
      go_enter Try.func10, Try.ntmps10
      go_wp2
      all_goals go_ret2
      all_goals exact ⟨rfl, Below.refl _ _⟩
  have h3 : 0 ≤ wd := by omega
  have h4 : wd ≤ 16 := by omega
  clear h2
  obtain ⟨wn, rfl⟩ := Int.eq_ofNat_of_zero_le h3
  have hwn : wn ≤ 16 := by omega
  have hp0 := pw_pos wn
  have hp1 := pw_16 wn (by omega)
  go_enter Try.func10, Try.ntmps10
  go_wp2_with fail
  go_loopw [6] (fun i wr => ∃ k : Nat, k ≤ zs.length ∧ i = .int .i64 k ∧ (∀ j, j < k → (hj : j < zs.length) → 0 ≤ zs[j] ∧ zs[j] < pw wn) ∧ ∃ n, wr = w.drewN n) (fun i _ => zs.length - (intOf i).toNat)
  case atStart => exact ⟨0, Nat.zero_le _, rfl, fun j hj => by omega, 0, rfl⟩
  case round =>
    obtain ⟨k, hk, rfl, hall, n, hwr⟩ := hrel
    have HW : Hid (wr = w.drewN n) := hwr
    clear hwr
    have HA : Hid (∀ j, j < k → (hj : j < zs.length) → 0 ≤ zs[j] ∧ zs[j] < pw wn) := hall
    clear hall
    by_cases hlt : k < zs.length
    · obtain rfl := hs (by omega)
      have hcx := hc k hlt
      rw [getD_get hlt, show w.cell? ⟨b, off + k, none⟩ = wr.cell? ⟨b, off + k, none⟩ from by rw [HW.out]; rfl] at hcx
      have HX : Hid ((zs[k] < 0 ∨ pw wn ≤ zs[k]) → packOf zs (wn : Int) = (ByteArray.empty, 1)) := fun h => packOf_bad h1 (by omega) (fitsW_bad hlt h)
      have HY : Hid (¬ (zs[k] < 0 ∨ pw wn ≤ zs[k]) → ∀ j, j < k + 1 → (hj : j < zs.length) → 0 ≤ zs[j] ∧ zs[j] < pw wn) := by
        intro h j hj hjl
        by_cases e : j = k
        · subst e; omega
        · exact HA.out j (by omega) hjl
      clear hc hs hb HA
      generalize zs[k] = z at *
      by_cases hz : z < 0
      · have hzd : decide (z < 0) = true := by simpa using hz
        have HX2 := HX.out (.inl hz)
        have HX3 : Hid (packOf zs (wn : Int) = (ByteArray.empty, 1)) := HX2
        clear HX HX2 HY
        go_wp2_with fail
        go_quiet (fail)
        go_wp2
        go_ret2
        rw [HX3.out, HW.out]
        exact ⟨rfl, below_drewN (below_drewN (Below.refl _ _) _) _⟩
      · have hzd : decide (z < 0) = false := by simpa using hz
        by_cases hz2 : pw wn ≤ z
        · have HX3 : Hid (packOf zs (wn : Int) = (ByteArray.empty, 1)) := HX.out (.inr hz2)
          clear HX HY
          go_wp2_with fail
          go_quiet ((go_at_call 34; exact Calls.quiet_of_same (power_nat wn hwn _)))
          go_wp2
          go_ret2
          rw [HX3.out]
          rw [HW.out]
          exact ⟨rfl, below_drewN (below_drewN (Below.refl _ _) _) _⟩
        · have HY2 : Hid (∀ j, j < k + 1 → (hj : j < zs.length) → 0 ≤ zs[j] ∧ zs[j] < pw wn) := HY.out (by omega)
          clear HX HY
          go_wp2_with fail
          go_quiet ((go_at_call 34; exact Calls.quiet_of_same (power_nat wn hwn _)))
          go_wp2
          go_roundw
          case rel => exact ⟨k + 1, by omega, by go_num, HY2.out, n + nq, by rw [HW.out]; exact World.drewN_drewN _ _ _⟩
          case measure => simp [intOf]; omega
    · have hkl : k = zs.length := by omega
      subst hkl
      have hf : fitsW wn zs = true := fitsW_all fun j hj => HA.out j hj hj
      have HP : Hid (packOf zs (wn : Int) = (strOf (packBytes wn (zs.map Int.toNat)), 0)) := packOf_ok h1 (by omega) hf
      clear HA
      have HF : Hid (fitsW wn zs = true) := hf
      clear hf
      go_wp2_with (go_at_call 35; refine (bits_ints zs wn ao b off cap _ (by omega) h1 HF.out hs (by rw [HW.out]; exact hb) (by rw [HW.out]; exact hc)).mono ?_; rintro e w' ⟨rfl, hbel⟩)
      go_ret2
      rw [HP.out]
      rw [HW.out] at hbel
      exact ⟨rfl, (below_drewN (Below.refl _ _) n).trans hbel⟩
end Go.Proofs.Ytpijlpeibapogaa.Pk

/- The contract of the code's Pack: the document's answer. -/
set_option linter.unusedVariables false
namespace Go.Proofs.Ytpijlpeibapogaa.Pk
open Go.RowKit Go.Proofs.Ytpijlpeibapogaa.Pm

theorem wrap_pow (wn : Nat) (h : wn ≤ 16) : wrap64 ((2 : Int) ^ wn) = pw wn := by
  have h0 := pw_pos wn
  have h1 := pw_16 wn h
  have e : (2 : Int) ^ wn = pw wn := by unfold pw; push_cast; rfl
  rw [e]; unfold wrap64; omega

set_option maxRecDepth 100000 in
set_option maxHeartbeats 2000000 in
theorem cPack_any (zs : List Int) (wd : Int) (ao : Option Addr) (b off cap : Nat) (w : World) (hm : zs.length ≤ maxLen)
    (hs : 0 < zs.length → ao = some ⟨b, off, none⟩) (hb : 0 < zs.length → b < w.heap.size) (hc : ∀ j, j < zs.length → w.cell? ⟨b, off + j, none⟩ = some (.int .i64 (zs.getD j 0))) :
    Calls Try.prog 12 #[.slice ao zs.length cap, .int .i64 wd] w fun e w' => e = .returned (.tuple #[.string (packOf zs wd).1, .int .i64 (packOf zs wd).2]) ∧ Below w.heap.size w w' := by
  unfold maxLen at hm
  by_cases h1 : 100 < zs.length
  · rw [packOf_long h1]
    have H := checkPacking_any (zs.length : Int) wd
    rw [show packE (zs.length : Int) wd = 6 from by simp [packE]; omega] at H
    go_enter Try.func12, Try.ntmps12
    go_wp2_with (go_at_call 36; refine (H _).mono ?_; rintro e w' ⟨rfl, rfl⟩)
    all_goals go_ret2
    all_goals exact ⟨rfl, Below.refl _ _⟩
  by_cases h2 : wd < 0 ∨ 16 < wd
  · rw [packOf_wide h1 h2]
    have H := checkPacking_any (zs.length : Int) wd
    rw [show packE (zs.length : Int) wd = 2 from by simp [packE, h2]; omega] at H
    go_enter Try.func12, Try.ntmps12
    go_wp2_with (go_at_call 36; refine (H _).mono ?_; rintro e w' ⟨rfl, rfl⟩)
    all_goals go_ret2
    all_goals exact ⟨rfl, Below.refl _ _⟩
  have h3 : 0 ≤ wd := by omega
  have h4 : wd ≤ 16 := by omega
  clear h2
  obtain ⟨wn, rfl⟩ := Int.eq_ofNat_of_zero_le h3
  have H := checkPacking_any (zs.length : Int) (wn : Int)
  rw [show packE (zs.length : Int) (wn : Int) = 0 from by simp [packE]; omega] at H
  have hp0 := pw_pos wn
  have hp1 := pw_16 wn (by omega)
  have hpw := wrap_pow wn (by omega)
  go_enter Try.func12, Try.ntmps12
  go_wp2_with (go_at_call 36; refine (H _).mono ?_; rintro e w' ⟨rfl, rfl⟩)
  clear H
  go_loop [18] (fun i => ∃ k : Nat, k ≤ zs.length ∧ i = .int .i64 k ∧ (∀ j, j < k → (hj : j < zs.length) → 0 ≤ zs[j] ∧ zs[j] < pw wn)) (fun i => zs.length - (intOf i).toNat)
  case atStart => exact ⟨0, Nat.zero_le _, rfl, fun j hj => by omega⟩
  case round =>
    obtain ⟨k, hk, rfl, hall⟩ := hrel
    have HA : Hid (∀ j, j < k → (hj : j < zs.length) → 0 ≤ zs[j] ∧ zs[j] < pw wn) := hall
    clear hall
    by_cases hlt : k < zs.length
    · obtain rfl := hs (by omega)
      have hcx := hc k hlt
      rw [getD_get hlt] at hcx
      have HX : Hid ((zs[k] < 0 ∨ pw wn ≤ zs[k]) → packOf zs (wn : Int) = (ByteArray.empty, 1)) := fun h => packOf_bad h1 (by omega) (fitsW_bad hlt h)
      have HY : Hid (¬ (zs[k] < 0 ∨ pw wn ≤ zs[k]) → ∀ j, j < k + 1 → (hj : j < zs.length) → 0 ≤ zs[j] ∧ zs[j] < pw wn) := by
        intro h j hj hjl
        by_cases e : j = k
        · subst e; omega
        · exact HA.out j (by omega) hjl
      clear hc hs hb HA
      generalize zs[k] = z at *
      by_cases hz : z < 0
      · have HX3 : Hid (packOf zs (wn : Int) = (ByteArray.empty, 1)) := HX.out (.inl hz)
        clear HX HY
        go_wp2
        go_ret2
        rw [HX3.out]
        exact ⟨rfl, Below.refl _ _⟩
      · by_cases hz2 : pw wn ≤ z
        · have HX3 : Hid (packOf zs (wn : Int) = (ByteArray.empty, 1)) := HX.out (.inr hz2)
          clear HX HY
          go_wp2
          go_ret2
          rw [HX3.out]
          exact ⟨rfl, Below.refl _ _⟩
        · have HY2 : Hid (∀ j, j < k + 1 → (hj : j < zs.length) → 0 ≤ zs[j] ∧ zs[j] < pw wn) := HY.out (by omega)
          clear HX HY
          go_wp2
          go_round
          case rel => exact ⟨k + 1, by omega, by go_num, HY2.out⟩
          case measure => simp [intOf]; omega
    · have hkl : k = zs.length := by omega
      subst hkl
      have hf : fitsW wn zs = true := fitsW_all fun j hj => HA.out j hj hj
      have HP : Hid (packOf zs (wn : Int) = (strOf (packBytes wn (zs.map Int.toNat)), 0)) := packOf_ok h1 (by omega) hf
      clear HA
      have HF : Hid (fitsW wn zs = true) := hf
      clear hf
      go_wp2_with (go_at_call 37; refine (appendPacked_ints zs wn ao b off cap _ (by omega) h1 HF.out hs hb hc).mono ?_; rintro e w' ⟨v, rfl, hown, hbel⟩; have hcv := run_string_own hown rfl)
      go_ret2
      rw [HP.out]
      exact ⟨rfl, hbel⟩
end Go.Proofs.Ytpijlpeibapogaa.Pk

/- The contract of the code's readPacked: the numbers of so many bits that stand in the next bytes, or a panic. -/
set_option linter.unusedVariables false
namespace Go.Proofs.Ytpijlpeibapogaa.Pm

theorem mod_div_mod (v a b c : Nat) (h : c ≤ b) : v % 2 ^ (a + b) / 2 ^ a % 2 ^ c = v / 2 ^ a % 2 ^ c := by
  rw [Nat.pow_add, Nat.mod_mul_right_div_self, show b = c + (b - c) by omega, Nat.pow_add, Nat.mod_mul_right_mod]

/-- What is held behind nb bytes and i numbers. -/
def heldOf (v wd nb i : Nat) : Nat := v % 2 ^ (8 * nb) / 2 ^ (wd * i)

theorem heldOf_lt (v wd nb i q : Nat) (h : 8 * nb = wd * i + q) : heldOf v wd nb i < 2 ^ q := by
  unfold heldOf
  rw [Nat.div_lt_iff_lt_mul (Nat.pow_pos (by omega)), ← Nat.pow_add, show q + wd * i = 8 * nb by omega]
  exact Nat.mod_lt _ (Nat.pow_pos (by omega))

theorem heldOf_byte (v wd nb i q : Nat) (h : 8 * nb = wd * i + q) : heldOf v wd (nb + 1) i = heldOf v wd nb i + 2 ^ q * (v / 256 ^ nb % 256) := by
  unfold heldOf
  rw [show 8 * (nb + 1) = 8 * nb + 8 by omega, Nat.pow_add, Nat.mod_mul, pow256, show (2 : Nat) ^ 8 = 256 by rfl]
  conv => lhs; rw [h, Nat.pow_add, Nat.mul_assoc]
  rw [Nat.add_mul_div_left _ _ (Nat.pow_pos (by omega)), h, Nat.pow_add]

theorem heldOf_num (v wd nb i : Nat) (q : Nat) (h : 8 * nb = wd * i + q) (hq : wd ≤ q) : heldOf v wd nb i % 2 ^ wd = v / 2 ^ (wd * i) % 2 ^ wd := by
  unfold heldOf
  rw [h, mod_div_mod _ _ _ _ hq]

theorem heldOf_next (v wd nb i : Nat) : heldOf v wd nb i / 2 ^ wd = heldOf v wd nb (i + 1) := by
  unfold heldOf
  rw [Nat.div_div_eq_div_mul, ← Nat.pow_add, Nat.mul_succ]

theorem heldOf_zero (v wd : Nat) : heldOf v wd 0 0 = 0 := by simp [heldOf, Nat.mod_one]
end Go.Proofs.Ytpijlpeibapogaa.Pm

namespace Go.Proofs.Ytpijlpeibapogaa.Pk
open Go.RowKit Go.Proofs.Ytpijlpeibapogaa.Pm

/-- The number that the bytes from a place on spell. -/
def restV (s : ByteArray) (p : Nat) : Nat := V ((bytesOf s).drop p)

theorem restV_byte (s : ByteArray) (p nb : Nat) (h : p + nb < s.size) : s[p + nb].toNat = restV s p / 256 ^ nb % 256 := by
  unfold restV
  have h1 : ∀ x ∈ (bytesOf s).drop p, x < 256 := fun x hx => bytesOf_lt s x (List.mem_of_mem_drop hx)
  rw [← V_get _ nb h1, List.getElem?_drop, List.getElem?_eq_getElem (by rw [bytesOf_length]; exact h), Option.getD_some, bytesOf_get s _ h]

/-- Are the next bytes just those of so many numbers? -/
def readOk (s : ByteArray) (p wd cn : Nat) : Prop := p + (cn * wd + 7) / 8 ≤ s.size ∧ heldOf (restV s p) wd ((cn * wd + 7) / 8) cn = 0

theorem and_mask (hh wd : Nat) (hw : wd ≤ 16) (hh0 : hh < 16777216) : bits .and .i64 (hh : Int) (wrap64 (pw wd - 1)) = ((hh % 2 ^ wd : Nat) : Int) := by
  have h0 := pw_pos wd
  have h1 := pw_16 wd hw
  rw [show wrap64 (pw wd - 1) = pw wd - 1 from by unfold wrap64; omega]
  have e : pw wd = (2 : Int) ^ wd := by unfold pw; push_cast; rfl
  rw [e, bits_mask .i64 62 (by decide) wraps_i64 wd (by omega) (hh : Int) (by omega) (by omega)]
  push_cast; rfl

theorem shr_wd (hh wd : Nat) : (hh : Int) / 2 ^ wd = ((hh / 2 ^ wd : Nat) : Int) := by push_cast; rfl

set_option maxRecDepth 100000 in
set_option maxHeartbeats 2000000 in
theorem readPacked_any (s : ByteArray) (r p wd cn : Nat) (w : World) (hm : s.size ≤ maxLen) (hw : wd ≤ 16) (hcn : cn ≤ 100) (hp : p ≤ s.size) (h : w.heap[r]? = some (rdr s p)) :
    Calls Try.prog 53 #[.pointer (some ⟨r, 0, none⟩), .int .i64 wd, .int .i64 cn] w fun e w' => Kp r w w' ∧
      ((e = .returned (.slice (some ⟨w.heap.size, 0, none⟩) cn cn) ∧ readOk s p wd cn ∧ w'.heap[r]? = some (rdr s (p + (cn * wd + 7) / 8)) ∧
        w'.ownsRow w.heap.size 3 1 (.slice (some ⟨w.heap.size, 0, none⟩) cn cn) cn (icells (intsOf (D wd (restV s p) cn)))) ∨
       (∃ q, e = .panicked (badAt q) ∧ ¬ readOk s p wd cn)) := by
  obtain ⟨i0, hi, hz0, hz1, hz2⟩ := info_parts Try.info3
  have hrl : r < w.heap.size := lt_of_block h
  have hp0 := pw_pos wd
  have hp1 := pw_16 wd hw
  have hpw := wrap_pow wd hw
  have HR : Hid (w.heap[r]? = some (rdr s p)) := h
  clear h
  go_enter Try.func53, Try.ntmps53
  go_wp2_with (at_make; refine wpList_make_own _ rfl _ _ 22 rfl w.heap.size 3 i0 (.int .i64 0) 1 Try.underlying22 hi hz0 hz1 .i64 .i64 _ cn rfl rfl rfl (by rw [hz2]; omega) (by unfold maxLen; omega) (Nat.le_refl _) ?_; intro w0 hown0 hgrow0)
  have hbel0 : Kp r w w0 := (Kp.refl _ _).grown hgrow0 (by simp)
  have HR0 : Hid (w0.heap[r]? = some (rdr s (p + 0))) := by show _ = _; rw [hgrow0.block r hrl (by simp)]; exact HR.out
  clear HR hgrow0
  go_loopw [7, 8, 9, 13] (fun lv h q i wr => ∃ (k nb qq : Nat), k ≤ cn ∧ i = .int .i64 k ∧ lv = .slice (some ⟨w.heap.size, 0, none⟩) k cn ∧ q = .int .i64 qq ∧ qq < 8 ∧ 8 * nb = wd * k + qq ∧ p + nb ≤ s.size ∧
      h = .int .i64 ((heldOf (restV s p) wd nb k : Nat) : Int) ∧ wr.heap[r]? = some (rdr s (p + nb)) ∧
      wr.ownsRow w.heap.size 3 1 (.slice (some ⟨w.heap.size, 0, none⟩) k cn) k (icells (intsOf (D wd (restV s p) k))) ∧ Kp r w wr) (fun _ _ _ i _ => cn - (intOf i).toNat)
  case atStart => exact ⟨0, 0, 0, Nat.zero_le _, rfl, rfl, rfl, by omega, by simp, by omega, by rw [heldOf_zero]; rfl, HR0.out, hown0, hbel0⟩
  case round =>
    clear hown0 hbel0 HR0
    obtain ⟨k, nb, qq, hk, rfl, rfl, rfl, hq8, hnq, hpn, rfl, hR, hown, hbel⟩ := hrel
    have HNQ : Hid (8 * nb = wd * k + qq) := hnq
    have HRR : Hid (wr.heap[r]? = some (rdr s (p + nb))) := hR
    clear hnq hR
    by_cases hlt : k < cn
    · have hkw : wd * (k + 1) ≤ 16 * 100 := Nat.mul_le_mul hw (by omega)
      have hcw : wd * (k + 1) ≤ wd * cn := Nat.mul_le_mul_left _ hlt
      go_wp2_with fail
      go_loopw [8, 9] (fun h q wr => ∃ (nb qq : Nat), q = .int .i64 qq ∧ qq < wd + 8 ∧ 8 * nb = wd * k + qq ∧ p + nb ≤ s.size ∧ h = .int .i64 ((heldOf (restV s p) wd nb k : Nat) : Int) ∧ wr.heap[r]? = some (rdr s (p + nb)) ∧
          wr.ownsRow w.heap.size 3 1 (.slice (some ⟨w.heap.size, 0, none⟩) k cn) k (icells (intsOf (D wd (restV s p) k))) ∧ Kp r w wr) (fun _ q _ => wd + 8 - (intOf q).toNat)
      case atStart => exact ⟨nb, qq, rfl, by omega, HNQ.out, hpn, rfl, HRR.out, hown, hbel⟩
      case round =>
        clear hown hbel HRR HNQ hpn hq8
        obtain ⟨nb, qq, rfl, hq8, hnq, hpn, rfl, hR, hown, hbel⟩ := hrel
        have hhq := heldOf_lt (restV s p) wd nb k qq hnq
        have HNX : Hid _ := heldOf_byte (restV s p) wd nb k qq hnq
        have HNU : Hid (wd ≤ qq → heldOf (restV s p) wd nb k % 2 ^ wd = restV s p / 2 ^ (wd * k) % 2 ^ wd) := heldOf_num (restV s p) wd nb k qq hnq
        have HNE : Hid _ := heldOf_next (restV s p) wd nb k
        have HNQ : Hid (8 * nb = wd * k + qq) := hnq
        have HRR : Hid (wr.heap[r]? = some (rdr s (p + nb))) := hR
        have hhb : heldOf (restV s p) wd nb k < 16777216 := by have h2 : 2 ^ qq ≤ 2 ^ 24 := Nat.pow_le_pow_right (by omega) (by omega); omega
        clear hnq hR
        generalize heldOf (restV s p) wd nb k = hh at *
        by_cases hqw : qq < wd
        · by_cases hin : p + nb < s.size
          · have hby : Hid (s[p + nb].toNat = restV s p / 256 ^ nb % 256) := restV_byte s p nb hin
            have hyb : s[p + nb].toNat < 256 := s[p + nb].toNat_lt
            have hor := or_shl hh s[p + nb].toNat qq (by omega) (by omega) hhq
            rw [show hh + 2 ^ qq * s[p + nb].toNat = heldOf (restV s p) wd (nb + 1) k from by rw [HNX.out, hby.out]] at hor
            have HB : Hid (∀ w, w.heap[r]? = some (rdr s (p + nb)) → Calls Try.prog 83 #[.pointer (some ⟨r, 0, none⟩)] w fun e w' => e = .returned (.int .u8 (s[p + nb].toNat : Int)) ∧ ∃ n, w' = (w.setCell ⟨r, 1, none⟩ (.int .i64 ((p + nb + 1 : Nat) : Int))).drewN n) :=
              fun w hw => byte_ok r (p + nb) s w hm hin hw
            clear hby HNX HNU HNE
            have HH2 : Hid (∃ h2, h2 = heldOf (restV s p) wd (nb + 1) k) := ⟨_, rfl⟩
            generalize hh2 : heldOf (restV s p) wd (nb + 1) k = h2 at *
            have HHE : Hid (heldOf (restV s p) wd (nb + 1) k = h2) := hh2
            clear hh2 HH2
            generalize s[p + nb].toNat = y at *
            go_wp2_with (go_at_call 83; refine (HB.out _ HRR.out).mono ?_; rintro e w' ⟨rfl, n, rfl⟩)
            go_roundw
            case rel => exact ⟨nb + 1, qq + 8, by go_num, by omega, by have := HNQ.out; omega, by omega, by rw [HHE.out], rdr_set HRR.out n, ownsRow_drewN (ownsRow_setCell_below hown (by exact hrl) _) n, hbel.set _ _ n⟩
            case measure => simp [intOf]; omega
          · have HNO : Hid (¬ readOk s p wd cn) := by
              rintro ⟨h1, _⟩
              have h2 := HNQ.out
              rw [Nat.mul_succ] at hcw
              rw [Nat.mul_comm cn wd] at h1
              omega
            go_wp2_with (go_at_call 83; refine (byte_bad r (p + nb) s _ hm hin hpn HRR.out).mono ?_; rintro e w' ⟨rfl, n, rfl⟩)
            exact ⟨rfl, hbel.drewN n, .inr ⟨_, rfl, HNO.out⟩⟩
        · have hand := and_mask hh wd hw hhb
          rw [HNU.out (by omega)] at hand
          have hsh := shr_wd hh wd
          rw [HNE.out] at hsh
          have HD : Hid (D wd (restV s p) (k + 1) = D wd (restV s p) k ++ [restV s p / 2 ^ (wd * k) % 2 ^ wd]) := rfl
          generalize restV s p / 2 ^ (wd * k) % 2 ^ wd = x at *
          go_wp2_with (at_builtin; refine wpList_append_fits _ rfl _ _ 22 rfl w.heap.size 3 i0 1 Try.underlying22 hi hz1 w.heap.size k cn _ rfl (hown.alloc _) ⟨wr.heap.size, 0, none⟩ 1 1 [.int .i64 (x : Int)] rfl rfl ?c1 ?c2 (by omega) ?_)
          case c1 =>
            intro j u hj
            match j, hj with
            | 0, hj => simp at hj; subst hj; simp [Addr.add]
          case c2 => intro u hu; simp at hu; subst hu; rfl
          · intro w1 hown' hgrow
            have hbel' : Kp r w w1 := (hbel.alloc _).grown hgrow (by intro g hg; simp at hg; omega)
            have HR1 : Hid (w1.heap[r]? = some (rdr s (p + nb))) := by
              show _ = _
              rw [hgrow.block r (by have := hbel.size; simp; omega) (by simp; omega), Below.heap_alloc wr _ r (by have := hbel.size; omega)]
              exact HRR.out
            rw [icells_snoc] at hown'
            clear hown hgrow hbel HRR hand
            go_wp2
            go_roundw
            case rel => exact ⟨k + 1, nb, qq - wd, by omega, by go_num, rfl, by go_num, by omega, by have := HNQ.out; rw [Nat.mul_succ]; omega, hpn, rfl, HR1.out, by rw [HD.out]; simpa [intsOf] using hown', hbel'⟩
            case measure => simp [intOf]; omega
    · have hkc : k = cn := by omega
      subst hkc
      have hnb : nb = (k * wd + 7) / 8 := by have := HNQ.out; rw [Nat.mul_comm wd k] at this; omega
      by_cases hh0 : heldOf (restV s p) wd nb k = 0
      · have HOK : Hid (readOk s p wd k) := ⟨by rw [← hnb]; exact hpn, by rw [← hnb]; exact hh0⟩
        rw [hh0]
        have HNB : Hid (nb = (k * wd + 7) / 8) := hnb
        clear hh0 hnb
        go_wp2
        go_ret
        exact ⟨hbel, .inl ⟨rfl, HOK.out, by rw [← HNB.out]; exact HRR.out, hown⟩⟩
      · have HOK : Hid (¬ readOk s p wd k) := by rintro ⟨_, h2⟩; rw [← hnb] at h2; exact hh0 h2
        have hhp : 0 < heldOf (restV s p) wd nb k := by omega
        clear hh0 hnb
        generalize heldOf (restV s p) wd nb k = hh at *
        have hne : ((hh : Int) != 0) = true := by simp; omega
        go_wp2_with (go_at_call 84; refine (giveUp_any r (p + nb) s _ HRR.out).mono ?_; rintro e w' ⟨rfl, rfl⟩)
        exact ⟨rfl, hbel, .inr ⟨_, rfl, HOK.out⟩⟩
end Go.Proofs.Ytpijlpeibapogaa.Pk

/- Three new blocks, one behind the other. -/
set_option linter.unusedVariables false
namespace Go.Proofs.Ytpijlpeibapogaa.Pk
open Go.RowKit Go.Proofs.Ytpijlpeibapogaa.Pm

theorem three_0 (w : World) (a b c : Obj) : (((w.alloc a).alloc b).alloc c).heap[w.heap.size]? = some a := by
  rw [Below.heap_alloc _ _ _ (by simp; omega), Below.heap_alloc _ _ _ (by simp)]; exact heap_alloc_new w a
theorem three_1 (w : World) (a b c : Obj) : (((w.alloc a).alloc b).alloc c).heap[w.heap.size + 1]? = some b := by
  rw [Below.heap_alloc _ _ _ (by simp)]
  have := heap_alloc_new (w.alloc a) b
  rwa [show (w.alloc a).heap.size = w.heap.size + 1 from by simp] at this
theorem three_2 (w : World) (a b c : Obj) : (((w.alloc a).alloc b).alloc c).heap[w.heap.size + 1 + 1]? = some c := by
  have := heap_alloc_new ((w.alloc a).alloc b) c
  rwa [show ((w.alloc a).alloc b).heap.size = w.heap.size + 1 + 1 from by simp] at this
end Go.Proofs.Ytpijlpeibapogaa.Pk
