/- Dict: the document's side. -/
import Derived.Test.YtjidbonhhpkljaaEcCodedR
set_option linter.unusedVariables false
namespace Go.Proofs.Ytjidbonhhpkljaa.Ec
open Go.RowKit Go.Proofs.Ytjidbonhhpkljaa.Pk Go.Proofs.Ytjidbonhhpkljaa.Pm

set_option maxRecDepth 100000 in
set_option maxHeartbeats 8000000 in
theorem coded2_any (lv : Value) (l : List Val) (k : Int) (w : World) (hk : k = 1 ∨ k = 2 ∨ k = 3) (hv : ∀ x ∈ l, VOk x) (hn : l.length ≤ 100) (hvs : VSl w lv l) :
    Calls Try.prog 69 #[lv, .int .i64 k, .int .i64 2] w fun r w' => r = .returned (.string (strOf (dictB k l))) ∧ Below w.heap.size w w' := by
  obtain ⟨i0, hi, hz0, hz1, hz2⟩ := info_parts Try.info3
  obtain ⟨j0, hj, hy0, hy1, hy2⟩ := info_parts Try.info39
  obtain ⟨ao, b, off, cap, rfl, hr⟩ := hvs
  have HVO : Hid (∀ x ∈ l, VOk x) := hv
  have HR : Hid (VRow w ao b off l) := hr
  have HOK : Hid (∀ j, j ≤ l.length → (dfold (l.take j)).1.length ≤ j ∧ (dfold (l.take j)).2.length = j ∧ (∀ p ∈ (dfold (l.take j)).2, p < (dfold (l.take j)).1.length) ∧ (∀ x ∈ (dfold (l.take j)).1, x ∈ l)) := dfold_ok l
  clear hv hr
  go_enter Try.func69, Try.ntmps69
  go_wp2_with fail
  go_loopw [7, 8, 9, 10, 11] (fun sv dv li la i wr => ∃ (j : Nat), j ≤ l.length ∧ i = .int .i64 j ∧ sv = .string ⟨#[]⟩ ∧ wr.ownsRow w.heap.size 3 1 li j (icells (ints (dfold (l.take j)).2)) ∧ Apart dv li ∧ la = .int .i64 0 ∧ wr.ownsRow w.heap.size 39 3 dv (dfold (l.take j)).1.length (vcells (dfold (l.take j)).1) ∧ Below w.heap.size w wr) (fun _ _ _ _ i _ => l.length - (intOf i).toNat)
  case atStart => exact ⟨0, Nat.zero_le _, rfl, rfl, World.ownsRow_nil _ _ _ _, Or.inl rfl, rfl, World.ownsRow_nil _ _ _ _, Below.refl _ _⟩
  case round =>
    obtain ⟨j, hjl, rfl, rfl, hli, hap, rfl, hd, hbel⟩ := hrel
    have HB : Hid (Below w.heap.size w wr) := hbel
    have hsz : w.heap.size ≤ wr.heap.size := hbel.size
    obtain ⟨hd1, hd2, hd3, hd4⟩ := HOK.out j hjl
    by_cases hlt : j < l.length
    · obtain rfl := HR.out.addr (by omega)
      have HC : Hid (∀ W, Below w.heap.size w W → W.cell? ⟨b, off + j * 3, none⟩ = some (.bool l[j].null) ∧ W.cell? ⟨b, off + j * 3 + 1, none⟩ = some (.int .i64 l[j].n) ∧ W.cell? ⟨b, off + j * 3 + 2, none⟩ = some (.string l[j].s)) := fun W hW =>
        ⟨(HR.out.below hW).c0 j hlt, (HR.out.below hW).c1 j hlt, (HR.out.below hW).c2 j hlt⟩
      obtain ⟨p0, p1, p2⟩ := HC.out wr hbel
      have HX : Hid (VOk l[j]) := HVO.out _ (List.getElem_mem hlt)
      have HDS : Hid (dfold (l.take (j + 1)) = dstep (dfold (l.take j)) l[j]) := dfold_succ l j hlt
      clear hbel HR
      generalize l[j] = x at *
      generalize dfold (l.take j) = S at *
      obtain ⟨d, ps⟩ := S
      simp only at hd1 hd2 hd3 hd4 hd hli
      have HPL : Hid (Calls Try.prog 102 #[u8, .agg #[.bool x.null, .int .i64 x.n, .string x.s]] wr fun e w' => e = .returned (.int .i64 (plc d x)) ∧ Below wr.heap.size wr w') := place_any d u8 x wr (VSl.of_owns hd) (by omega)
      by_cases hin : idx d x < d.length
      · have HDN : Hid (dstep (d, ps) x = (d, ps ++ [idx d x])) := dnext_in hin
        have HPC := plc_in hin
        rw [HPC] at HPL
        clear hd3 hd4
        generalize idx d x = I at *
        go_wp2_with fail
        refine HPL.out.mono ?_
        rintro e w1 ⟨rfl, hb1⟩
        have hbw1 : Below w.heap.size w w1 := HB.out.trans (hb1.mono hsz)
        obtain ⟨q0, q1, q2⟩ := HC.out w1 hbw1
        have hd1' := ownsRow_below hd hb1
        have hsz1 := hb1.size
        have hli1 := ownsRow_below hli hb1
        have HPL2 : Hid (Calls Try.prog 102 #[u8, .agg #[.bool x.null, .int .i64 x.n, .string x.s]] w1 fun e w' => e = .returned (.int .i64 (I : Int)) ∧ Below w1.heap.size w1 w') := by
          have h0 := place_any d u8 x w1 (VSl.of_owns hd1') (by omega)
          rw [HPC] at h0
          exact h0
        clear HPL
        go_wp2_with first
          | (go_at_call 102; refine HPL2.out.mono ?_; rintro e w3 ⟨rfl, hb3⟩; have hli3 := ownsRow_below hli1 hb3; have hsz3 := hb3.size; have hbw3 : Below w.heap.size w w3 := hbw1.trans (hb3.mono hbw1.size))
          | (at_builtin; refine wpList_append_keep _ rfl _ _ 22 rfl w.heap.size 3 i0 (.int .i64 0) 1 8 Try.underlying22 hi hz0 hz1 hz2 rfl (by decide) _ j _ rfl (hli3.alloc _) ⟨w3.heap.size, 0, none⟩ 1 1 [.int .i64 (I : Int)] rfl (by decide) rfl (one_at _ _ _) (one_oneI _) (by unfold maxLen; omega) (by omega) (by simp; omega) ?_; intro v4 w4 hown4 hgr4)
        have hg4 := Grew.append hgr4
        have hd3' := ownsRow_below hd1' hb3
        rw [icells_snoc] at hown4
        refine ⟨⟨j + 1, by omega, by simp, rfl, ?_, hap.grew hd3' hg4, rfl, by rw [HDS.out, HDN.out]; exact kept_grew hd3' hg4 hap, hbw3.trans (hg4.below (fun g hg => (hli3.lt g hg).1) hbw3.size)⟩, by simp [intOf]; omega⟩
        rw [HDS.out, HDN.out]
        simp only
        rw [show ints (ps ++ [I]) = ints ps ++ [(I : Int)] from by simp [ints]]
        exact hown4
      · have HDN : Hid (dstep (d, ps) x = (d ++ [x], ps ++ [d.length])) := dnext_out hin
        have HPC := plc_out hin
        rw [HPC] at HPL
        clear hd3 hd4
        go_wp2_with fail
        refine HPL.out.mono ?_
        rintro e w1 ⟨rfl, hb1⟩
        have hbw1 : Below w.heap.size w w1 := HB.out.trans (hb1.mono hsz)
        obtain ⟨q0, q1, q2⟩ := HC.out w1 hbw1
        have hd1' := ownsRow_below hd hb1
        have hsz1 := hb1.size
        have hli1 := ownsRow_below hli hb1
        have hdl : d.length + 1 ≤ 100 := by omega
        clear HPL
        go_wp2_with first
          | (at_builtin; refine wpList_append_keep _ rfl _ _ 30 rfl w.heap.size 39 j0 _ 3 32 Try.underlying30 hj hy0 hy1 hy2 rfl (by decide) _ d.length _ rfl (hd1'.alloc _) ⟨w1.heap.size, 0, none⟩ 1 1 [.bool x.null, .int .i64 x.n, .string x.s] rfl (by decide) rfl (three_at _ _ _ _ _) (three_one x) (by unfold maxLen; omega) (by omega) (by simp; omega) ?_; intro v2 w2 hown2 hgr2; have hg2 := Grew.append hgr2; have hbw2 : Below w.heap.size w w2 := hbw1.trans (hg2.below (fun g hg => (hd1'.lt g hg).1) hbw1.size); obtain ⟨r0, r1, r2⟩ := HC.out w2 hbw2; have hsz2 := hg2.by_.size; have hli2 := kept_grew hli1 hg2 hap.symm; have HPL3 : Hid (Calls Try.prog 102 #[v2, .agg #[.bool x.null, .int .i64 x.n, .string x.s]] w2 fun e w' => e = .returned (.int .i64 (d.length : Int)) ∧ Below w2.heap.size w2 w') := place_new hown2 hin hdl)
          | (go_at_call 102; refine HPL3.out.mono ?_; rintro e w3 ⟨rfl, hb3⟩; have hli3 := ownsRow_below hli2 hb3; have hsz3 := hb3.size; have hbw3 : Below w.heap.size w w3 := hbw2.trans (hb3.mono hbw2.size))
          | (at_builtin; refine wpList_append_keep _ rfl _ _ 22 rfl w.heap.size 3 i0 (.int .i64 0) 1 8 Try.underlying22 hi hz0 hz1 hz2 rfl (by decide) _ j _ rfl (hli3.alloc _) ⟨w3.heap.size, 0, none⟩ 1 1 [.int .i64 (d.length : Int)] rfl (by decide) rfl (one_at _ _ _) (one_oneI _) (by unfold maxLen; omega) (by omega) (by simp; omega) ?_; intro v4 w4 hown4 hgr4)
        rw [← vcells_one, ← vcells_append] at hown2
        have hg4 := Grew.append hgr4
        have ap2 : Apart v2 u9 := (hap.symm.grew hli1 hg2).symm
        have hd3' := ownsRow_below hown2 hb3
        rw [icells_snoc] at hown4
        refine ⟨⟨j + 1, by omega, by simp, rfl, ?_, ap2.grew hd3' hg4, rfl, by rw [HDS.out, HDN.out]; simpa using kept_grew hd3' hg4 ap2, hbw3.trans (hg4.below (fun g hg => (hli3.lt g hg).1) hbw3.size)⟩, by simp [intOf]; omega⟩
        rw [HDS.out, HDN.out]
        simp only
        rw [show ints (ps ++ [d.length]) = ints ps ++ [(d.length : Int)] from by simp [ints]]
        exact hown4
    · have hj2 : l.take j = l := List.take_of_length_le (by omega)
      have HDB : Hid (dictB k l = vint (dfold (l.take j)).1.length ++ (plainsB k (dfold (l.take j)).1 ++ packBytes (wid (dfold (l.take j)).1.length) (dfold (l.take j)).2)) := by show _ = _; rw [hj2]; rfl
      have HDV : Hid (∀ x ∈ (dfold (l.take j)).1, VOk x) := fun x hx => HVO.out x (hd4 x hx)
      have hj3 : j = l.length := by omega
      clear hd4 HOK hj2 HVO hbel HR hap
      rename World => wo
      generalize dfold (l.take j) = S at *
      obtain ⟨d, ps⟩ := S
      simp only at hd1 hd2 hd3 hd hli HDB HDV
      obtain ⟨eao, ecap, rfl⟩ := own_shape hd
      have HVD : Hid (∃ b2 off2, VRow wo eao b2 off2 d) := by
        obtain ⟨ao3, b3, off3, cap3, he3, hr3⟩ := VSl.of_owns hd
        cases he3
        exact ⟨b3, off3, hr3⟩
      have hwl := wid_le d.length
      have HBT : Hid (∀ W, Below wo.heap.size wo W → Calls Try.prog 35 #[u9, .int .i64 (wid d.length : Nat)] W fun e w' => e = .returned (.string (strOf (packBytes (wid d.length) ps))) ∧ Below W.heap.size W w') := fun W hW =>
        bitsG u9 ps (wid d.length) W (by omega) (by omega) (fun p hp => wid_fits _ (by omega) p (hd3 p hp)) (ISl.of_owns (base := w.heap.size) (by
          have := ownsRow_below hli hW
          unfold ints at this ⊢
          rw [List.length_map, hd2]
          exact this))
      have HWD : Hid (∀ W, Calls Try.prog 104 #[.int .i64 (d.length : Int)] W fun e w' => e = .returned (.int .i64 (wid d.length)) ∧ w' = W) := fun W => wide_any d.length (by omega) W
      have HV : Hid (∀ W, Calls Try.prog 87 #[.int .u64 (d.length : Int)] W fun e w' => e = .returned (.string (strOf (vint d.length))) ∧ Below W.heap.size W w') := fun W => varint_any d.length W (by omega)
      have hpkl : (strOf (packBytes (wid d.length) ps)).size ≤ 1000 := by
        rw [Pk.strOf_size, packBytes_length]
        have : ps.length * wid d.length ≤ 100 * 7 := Nat.mul_le_mul (by omega) hwl
        omega
      have hvl := vintF_length 10 d.length
      clear hli hd hd3
      go_wp2_with (go_at_call 87; refine (HV.out _).mono ?_; rintro e w3 ⟨rfl, hb3⟩)
      have hb3s := hb3.size
      go_loopw [7, 12] (fun sv i wq => ∃ (t : Nat), t ≤ d.length ∧ i = .int .i64 t ∧ sv = .string (strOf (vint d.length ++ plainsB k (d.take t))) ∧ Below wo.heap.size wo wq) (fun _ i _ => d.length - (intOf i).toNat)
      case atStart => exact ⟨0, Nat.zero_le _, rfl, by simp [plainsB], hb3⟩
      case round =>
        clear hb3
        obtain ⟨t, ht, rfl, rfl, hbq⟩ := hrel
        have hbqs := hbq.size
        have HBQ : Hid (Below wo.heap.size wo wr) := hbq
        have hAl : (strOf (vint d.length ++ plainsB k (d.take t))).size ≤ 4300 := by
          have := plainsB_length k (d.take t) (fun x hx => HDV.out x (List.mem_of_mem_take hx))
          rw [List.length_take] at this
          rw [Pk.strOf_size, List.length_append]
          unfold vint
          omega
        by_cases htl : t < d.length
        · obtain ⟨b2, off2, hrd⟩ := HVD.out
          have hr2 := hrd.below hbq
          obtain rfl := hr2.addr (by omega)
          have p0 := hr2.c0 t htl
          have p1 := hr2.c1 t htl
          have p2 := hr2.c2 t htl
          have HX : Hid (VOk d[t]) := HDV.out _ (List.getElem_mem htl)
          have HSN : Hid (strOf (vint d.length ++ plainsB k (d.take (t + 1))) = strOf (vint d.length ++ plainsB k (d.take t)) ++ strOf (plainB k d[t])) := by
            show _ = _
            rw [plainsB_take k d t htl, ← List.append_assoc, strOf_append]
          clear hr2 hrd hbq
          generalize d[t] = x at *
          have hpl2 : (strOf (plainB k x)).size ≤ 42 := by rw [Pk.strOf_size]; exact plainB_length k x HX.out.sz
          have HPN : Hid (∀ W, Calls Try.prog 88 #[.agg #[.bool x.null, .int .i64 x.n, .string x.s], .int .i64 k] W fun e w' => e = .returned (.string (strOf (plainB k x))) ∧ Below W.heap.size W w') := fun W => plain_any x k W hk HX.out
          generalize strOf (vint d.length ++ plainsB k (d.take t)) = A at *
          generalize strOf (plainB k x) = C at *
          have hs1 : ¬ 9223372036854775807 < A.size + C.size := by omega
          go_wp2_with (go_at_call 88; refine (HPN.out _).mono ?_; rintro e w5 ⟨rfl, hb5⟩)
          go_roundw
          case rel => exact ⟨t + 1, by omega, by go_num, by rw [HSN.out], HBQ.out.trans (hb5.mono hbqs)⟩
          case measure => simp [intOf]; omega
        · have hte : d.take t = d := List.take_of_length_le (by omega)
          have HEN : Hid (strOf (dictB k l) = strOf (vint d.length ++ plainsB k (d.take t)) ++ strOf (packBytes (wid d.length) ps)) := by
            show _ = _
            rw [hte, HDB.out, ← List.append_assoc, strOf_append]
          clear hte hbq
          generalize strOf (vint d.length ++ plainsB k (d.take t)) = A at *
          have HBT2 : Hid (Calls Try.prog 35 #[u9, .int .i64 (wid d.length : Nat)] wr fun e w' => e = .returned (.string (strOf (packBytes (wid d.length) ps))) ∧ Below wr.heap.size wr w') := HBT.out wr HBQ.out
          clear HBT
          generalize strOf (packBytes (wid d.length) ps) = C at *
          have hs1 : ¬ 9223372036854775807 < A.size + C.size := by omega
          go_wp2_with first
            | (go_at_call 104; refine (HWD.out _).mono ?_; rintro e w5 ⟨rfl, rfl⟩)
            | (go_at_call 35; refine HBT2.out.mono ?_; rintro e w6 ⟨rfl, hb6⟩)
          go_ret
          exact ⟨by rw [HEN.out]; rfl, (HB.out.trans (HBQ.out.mono hsz)).trans (hb6.mono (by omega))⟩
end Go.Proofs.Ytjidbonhhpkljaa.Ec
