/- A whole column, and Encode: the document's side. -/
import Derived.Test.YtjidbonhhpkljaaEcCodedD
set_option linter.unusedVariables false
namespace Go.Proofs.Ytjidbonhhpkljaa.Ec
open Go.RowKit Go.Proofs.Ytjidbonhhpkljaa.Pk Go.Proofs.Ytjidbonhhpkljaa.Pm

theorem coded_any (lv : Value) (l : List Val) (k e : Int) (w : World) (hk : k = 1 ∨ k = 2 ∨ k = 3) (he : e = 0 ∨ e = 1 ∨ e = 2 ∨ e = 3) (hv : ∀ x ∈ l, VOk x) (hn : l.length ≤ 100) (hvs : VSl w lv l) :
    Calls Try.prog 69 #[lv, .int .i64 k, .int .i64 e] w fun r w' => r = .returned (.string (strOf (codedB k e l))) ∧ Below w.heap.size w w' := by
  rcases he with rfl | rfl | rfl | rfl
  · exact coded0_any lv l k w hk hv hn hvs
  · exact coded1_any lv l k w hk hv hn hvs
  · exact coded2_any lv l k w hk hv hn hvs
  · exact coded3_any lv l k w hk hv hn hvs

theorem codedB_length (k e : Int) (l : List Val) (h : ∀ x ∈ l, VOk x) (hl : l.length ≤ 100) : (codedB k e l).length ≤ 100000 := by
  unfold codedB
  split
  · have := deltaF_length 0 l; omega
  · split
    · unfold dictB
      have ho := dfold_ok l l.length (Nat.le_refl _)
      rw [List.take_length] at ho
      obtain ⟨h1, h2, h3, h4⟩ := ho
      have hp := plainsB_length k (dfold l).1 (fun x hx => h x (h4 x hx))
      have hv := vintF_length 10 (dfold l).1.length
      have hw := wid_le (dfold l).1.length
      have hm : (dfold l).2.length * wid (dfold l).1.length ≤ 100 * 7 := Nat.mul_le_mul (by omega) hw
      rw [List.length_append, List.length_append, packBytes_length]
      unfold vint
      omega
    · split
      · have := runsB_length (l.map Val.n) (by rw [List.length_map]; omega); omega
      · have := plainsB_length k l h; omega

set_option maxRecDepth 100000 in
set_option maxHeartbeats 8000000 in
theorem chunk_any (lv : Value) (l : List Val) (k e : Int) (w : World) (hk : k = 1 ∨ k = 2 ∨ k = 3) (he : e = 0 ∨ e = 1 ∨ e = 2 ∨ e = 3) (hv : ∀ x ∈ l, VOk x) (hn : l.length ≤ 100) (hvs : VSl w lv l) :
    Calls Try.prog 42 #[lv, .int .i64 k, .int .i64 e] w fun r w' => r = .returned (.string (strOf (columnB k e l))) ∧ Below w.heap.size w w' := by
  obtain ⟨i0, hi, hz0, hz1, hz2⟩ := info_parts Try.info3
  obtain ⟨j0, hj, hy0, hy1, hy2⟩ := info_parts Try.info39
  obtain ⟨ao, b, off, cap, rfl, hr⟩ := hvs
  have HVO : Hid (∀ x ∈ l, VOk x) := hv
  have HR : Hid (VRow w ao b off l) := hr
  have HE : Hid (e = 0 ∨ e = 1 ∨ e = 2 ∨ e = 3) := he
  clear hv hr he
  go_enter Try.func42, Try.ntmps42
  go_wp2_with fail
  go_loopw [7, 8, 9] (fun lev' pv i wr => ∃ (j : Nat), j ≤ l.length ∧ i = .int .i64 j ∧ wr.ownsRow w.heap.size 3 1 lev' j (icells ((l.take j).map lev)) ∧ wr.ownsRow w.heap.size 39 3 pv (there (l.take j)).length (vcells (there (l.take j))) ∧ Apart lev' pv ∧ Below w.heap.size w wr) (fun _ _ i _ => l.length - (intOf i).toNat)
  case atStart => exact ⟨0, Nat.zero_le _, rfl, World.ownsRow_nil _ _ _ _, World.ownsRow_nil _ _ _ _, Or.inl rfl, Below.refl _ _⟩
  case round =>
    obtain ⟨j, hjl, rfl, ho, hp, hap, hbel⟩ := hrel
    have HB : Hid (Below w.heap.size w wr) := hbel
    have hsz : w.heap.size ≤ wr.heap.size := hbel.size
    have htl : (there (l.take j)).length ≤ j := by have := there_length (l.take j); rw [List.length_take] at this; omega
    by_cases hlt : j < l.length
    · obtain rfl := HR.out.addr (by omega)
      have HC : Hid (∀ W, Below w.heap.size w W → W.cell? ⟨b, off + j * 3, none⟩ = some (.bool l[j].null) ∧ W.cell? ⟨b, off + j * 3 + 1, none⟩ = some (.int .i64 l[j].n) ∧ W.cell? ⟨b, off + j * 3 + 2, none⟩ = some (.string l[j].s)) := fun W hW =>
        ⟨(HR.out.below hW).c0 j hlt, (HR.out.below hW).c1 j hlt, (HR.out.below hW).c2 j hlt⟩
      have HT := there_succ l j hlt
      have HL : Hid ((l.take (j + 1)).map lev = (l.take j).map lev ++ [lev l[j]]) := levs_succ l j hlt
      generalize l[j] = x at *
      cases hx : x.null
      · rw [hx] at HT HC
        obtain ⟨p0, p1, p2⟩ := HC.out wr hbel
        have HTH : Hid (there (l.take (j + 1)) = there (l.take j) ++ [x]) := by show _ = _; simpa using HT
        have HLV : Hid (lev x = 1) := by show _ = _; unfold lev; rw [hx]; rfl
        have hcx : vcells [x] = [.bool false, .int .i64 x.n, .string x.s] := by rw [vcells_one, hx]
        have h1c : ∀ u ∈ [Value.bool false, .int .i64 x.n, .string x.s], u.oneCell' = true := by have := three_one x; rwa [hx] at this
        clear HT hx hbel
        go_wp2_with (first
          | (at_builtin; refine wpList_append_keep _ rfl _ _ 22 rfl w.heap.size 3 i0 (.int .i64 0) 1 8 Try.underlying22 hi hz0 hz1 hz2 rfl (by decide) _ j _ rfl (ho.alloc _) ⟨wr.heap.size, 0, none⟩ 1 1 [.int .i64 1] rfl (by decide) rfl (one_at _ _ _) (one_oneI _) (by unfold maxLen; omega) (by omega) (by simp; omega) ?_; intro v2 w2 hown2 hgr2; have hg2 := Grew.append hgr2; have hb2 : Below w.heap.size w w2 := HB.out.trans (hg2.below (fun g hg => (ho.lt g hg).1) hsz); obtain ⟨q0, q1, q2⟩ := HC.out w2 hb2; have hp2 := kept_grew hp hg2 hap.symm; have hs2 := hg2.by_.size)
          | (at_builtin; refine wpList_append_keep _ rfl _ _ 30 rfl w.heap.size 39 j0 _ 3 32 Try.underlying30 hj hy0 hy1 hy2 rfl (by decide) _ _ _ rfl (hp2.alloc _) ⟨w2.heap.size, 0, none⟩ 1 1 [.bool false, .int .i64 x.n, .string x.s] rfl (by decide) rfl (three_at _ _ _ _ _) h1c (by unfold maxLen; omega) (by omega) (by simp; omega) ?_; intro v3 w3 hown3 hgr3))
        have hg3 := Grew.append hgr3
        have ap2 : Apart v2 u8 := (hap.symm.grew hp hg2).symm
        have ho3 := kept_grew hown2 hg3 ap2
        rw [icells_snoc] at ho3
        rw [← hcx, ← vcells_append] at hown3
        refine ⟨⟨j + 1, by omega, by simp, by rw [HL.out, HLV.out]; exact ho3, by rw [HTH.out]; simpa using hown3, ap2.grew hown2 hg3, hb2.trans (hg3.below (fun g hg => (hp2.lt g hg).1) hb2.size)⟩, by simp [intOf]; omega⟩
      · rw [hx] at HT HC
        obtain ⟨p0, p1, p2⟩ := HC.out wr hbel
        have HTH : Hid (there (l.take (j + 1)) = there (l.take j)) := by show _ = _; simpa using HT
        have HLV : Hid (lev x = 0) := by show _ = _; unfold lev; rw [hx]; rfl
        clear HT hx hbel
        go_wp2_with (at_builtin; refine wpList_append_keep _ rfl _ _ 22 rfl w.heap.size 3 i0 (.int .i64 0) 1 8 Try.underlying22 hi hz0 hz1 hz2 rfl (by decide) _ j _ rfl (ho.alloc _) ⟨wr.heap.size, 0, none⟩ 1 1 [.int .i64 0] rfl (by decide) rfl (one_at _ _ _) (one_oneI _) (by unfold maxLen; omega) (by omega) (by simp; omega) ?_; intro v2 w2 hown2 hgr2)
        have hg2 := Grew.append hgr2
        rw [icells_snoc] at hown2
        refine ⟨⟨j + 1, by omega, by simp, by rw [HL.out, HLV.out]; exact hown2, by rw [HTH.out]; exact kept_grew hp hg2 hap.symm, (hap.symm.grew hp hg2).symm, HB.out.trans (hg2.below (fun g hg => (ho.lt g hg).1) hsz)⟩, by simp [intOf]; omega⟩
    · have hj3 : j = l.length := by omega
      have hj2 : l.take j = l := List.take_of_length_le (by omega)
      rw [hj2] at ho hp
      have hml : ((l.map lev).length) = l.length := List.length_map _
      have ho' : wr.ownsRow w.heap.size 3 1 u7 (l.map lev).length (icells (l.map lev)) := by rw [hml, ← hj3]; exact ho
      have htv : ∀ x ∈ there l, VOk x := fun x hx => HVO.out x (there_mem hx)
      have htl2 := there_length l
      have hrl := runsB_length (l.map lev) (by omega)
      have hcl := codedB_length k e (there l) htv (by omega)
      have HA1 : Hid (Calls Try.prog 68 #[u7] wr fun e w' => e = .returned (.string (strOf (runsB (l.map lev)))) ∧ Below wr.heap.size wr w') := runsG u7 (l.map lev) wr (by omega) (ISl.of_owns ho')
      have HA2 : Hid (∀ W, Below wr.heap.size wr W → Calls Try.prog 69 #[u8, .int .i64 k, .int .i64 e] W fun r w' => r = .returned (.string (strOf (codedB k e (there l)))) ∧ Below W.heap.size W w') := fun W hW =>
        coded_any u8 (there l) k e W hk HE.out htv (by omega) (VSl.of_owns (ownsRow_below hp hW))
      have HCO : Hid (strOf (columnB k e l) = strOf (runsB (l.map lev)) ++ strOf (codedB k e (there l))) := strOf_append _ _
      have hz1' : (strOf (runsB (l.map lev))).size ≤ 1100 := by rw [Pk.strOf_size]; exact hrl
      have hz2' : (strOf (codedB k e (there l))).size ≤ 100000 := by rw [Pk.strOf_size]; exact hcl
      generalize strOf (runsB (l.map lev)) = A at *
      generalize strOf (codedB k e (there l)) = C at *
      have hs1 : ¬ 9223372036854775807 < A.size + C.size := by omega
      clear hml ho ho' hap hbel hj2 hj3 HVO hrl hcl htv hp
      go_wp2_with first
        | (go_at_call 68; refine HA1.out.mono ?_; rintro e w1 ⟨rfl, hb1⟩)
        | (go_at_call 69; refine (HA2.out _ hb1).mono ?_; rintro e w2 ⟨rfl, hb2⟩)
      go_ret
      exact ⟨by rw [HCO.out]; rfl, (HB.out.trans (hb1.mono hsz)).trans (hb2.mono (Nat.le_trans hsz hb1.size))⟩
end Go.Proofs.Ytjidbonhhpkljaa.Ec
