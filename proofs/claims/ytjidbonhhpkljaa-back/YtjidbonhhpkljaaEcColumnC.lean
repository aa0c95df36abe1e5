/- A whole column: the program's side. -/
import Derived.Test.YtjidbonhhpkljaaEcDictC
set_option linter.unusedVariables false
namespace Go.Proofs.Ytjidbonhhpkljaa.Ec
open Go.RowKit Go.Proofs.Ytjidbonhhpkljaa.Pk Go.Proofs.Ytjidbonhhpkljaa.Pm

def lev (x : Val) : Int := if x.null then 0 else 1
def there (l : List Val) : List Val := l.filter fun x => !x.null
def codedB (k e : Int) (l : List Val) : List Nat := if e = 1 then deltaF 0 l else if e = 2 then dictB k l else if e = 3 then runsB (l.map Val.n) else plainsB k l
def columnB (k e : Int) (l : List Val) : List Nat := runsB (l.map lev) ++ codedB k e (there l)

theorem there_mem {l : List Val} {x : Val} (h : x ∈ there l) : x ∈ l := (List.mem_filter.1 h).1
theorem there_length (l : List Val) : (there l).length ≤ l.length := List.length_filter_le _ _
theorem there_succ (l : List Val) (j : Nat) (h : j < l.length) : there (l.take (j + 1)) = if l[j].null then there (l.take j) else there (l.take j) ++ [l[j]] := by
  unfold there
  rw [List.take_succ_eq_append_getElem h, List.filter_append]
  cases hn : l[j].null <;> simp [hn]
theorem levs_succ (l : List Val) (j : Nat) (h : j < l.length) : (l.take (j + 1)).map lev = (l.take j).map lev ++ [lev l[j]] := by
  rw [List.take_succ_eq_append_getElem h, List.map_append]
  rfl
theorem runsB_length (l : List Int) (h : l.length ≤ 100) : (runsB l).length ≤ 1100 := by
  have := runsF_length l.length l
  unfold runsB
  omega

/-- Runs of a row of the call's own. -/
theorem appendRunsG (u lv : Value) (pre : List Nat) (zs : List Int) (base base2 : Nat) (w : World) (hz : zs.length ≤ 100) (hl : pre.length ≤ 100000) (hbase : base ≤ w.heap.size)
    (hown : w.ownsRow base 5 1 u pre.length (bcells pre)) (hlv : w.ownsRow base2 3 1 lv zs.length (icells zs)) (hap : Apart lv u) :
    Calls Try.prog 72 #[u, lv] w fun e w' => ∃ v', e = .returned v' ∧ w'.ownsRow base 5 1 v' (pre ++ runsB zs).length (bcells (pre ++ runsB zs)) ∧ Grew w w' u v' := by
  rcases hlv.2 with ⟨rfl, h0⟩ | ⟨g, cap, cur, rfl, hbg, hgb, hnc, hcm, hcs, htake⟩
  · rw [show (Value.slice none 0 0) = .slice none zs.length 0 from by rw [h0]]
    exact appendRuns_any u pre zs none 0 0 0 base w hz hl hbase (fun h => by omega) (fun h => by omega) (fun h => by omega) (fun j h => by omega) hown
  · obtain ⟨ao, b, off, cap2, he, h1, h2, h3⟩ := ISl.of_owns hlv
    simp only [Value.slice.injEq, true_and] at he
    obtain ⟨rfl, rfl⟩ := he
    refine appendRuns_any u pre zs (some ⟨g, 0, none⟩) b off cap base w hz hl hbase h1 h2 (fun h => ?_) h3 hown
    have e := h1 h
    simp only [Option.some.injEq, Addr.mk.injEq] at e
    rw [← e.1]
    intro hu
    rcases hap with h4 | h4
    · simp [Value.ownBlock] at h4
    · exact h4 (by rw [hu]; simp [Value.ownBlock])

set_option maxRecDepth 100000 in
set_option maxHeartbeats 8000000 in
theorem appendColumn_any (u lv : Value) (pre : List Nat) (l : List Val) (k e : Int) (base : Nat) (w : World) (hk : k = 1 ∨ k = 2 ∨ k = 3) (hv : ∀ x ∈ l, VOk x) (hn : l.length ≤ 100) (hl : pre.length ≤ 30000) (hb : base ≤ w.heap.size)
    (hown : w.ownsRow base 5 1 u pre.length (bcells pre)) (hvs : VSl w lv l) :
    Calls Try.prog 45 #[u, lv, .int .i64 k, .int .i64 e] w fun r w' => ∃ u', r = .returned u' ∧ w'.ownsRow base 5 1 u' (pre ++ columnB k e l).length (bcells (pre ++ columnB k e l)) ∧ Grew w w' u u' := by
  obtain ⟨i0, hi, hz0, hz1, hz2⟩ := info_parts Try.info3
  obtain ⟨j0, hj, hy0, hy1, hy2⟩ := info_parts Try.info39
  obtain ⟨ao, b, off, cap, rfl, hr⟩ := hvs
  have HVO : Hid (∀ x ∈ l, VOk x) := hv
  have HR : Hid (VRow w ao b off l) := hr
  have HU : Hid (w.ownsRow base 5 1 u pre.length (bcells pre)) := hown
  clear hv hr hown
  go_enter Try.func45, Try.ntmps45
  go_wp2_with (first
    | (at_make; refine wpList_make_own _ rfl _ _ 22 rfl w.heap.size 3 i0 (.int .i64 0) 1 Try.underlying22 hi hz0 hz1 .i64 .i64 _ l.length rfl rfl rfl (by rw [hz2]; omega) (by unfold maxLen; omega) (Nat.le_refl _) ?_; intro w0 hown0 hgrow0; have hs0 := hgrow0.size)
    | (at_make; refine wpList_make_own _ rfl _ _ 30 rfl w.heap.size 39 j0 _ 3 Try.underlying30 hj hy0 hy1 .i64 .i64 _ l.length rfl rfl rfl (by rw [hy2]; omega) (by unfold maxLen; omega) hs0 ?_; intro w1 hown1 hgrow1))
  have hap0 : Apart (.slice (some ⟨w.heap.size, 0, none⟩) 0 l.length) (.slice (some ⟨w0.heap.size, 0, none⟩) 0 l.length) := .inr (by
    have := (hown0.lt w.heap.size (by simp [Value.ownBlock])).2
    simp [Value.ownBlock]; omega)
  have hown0' := hown0.kept hgrow1 (.inr (by simp [Value.ownBlock]))
  have hbel1 : Below w.heap.size w w1 := ((Below.refl _ _).grown hgrow0 (Nat.le_refl _) (by simp)).grown hgrow1 hs0 (by simp)
  clear hown0 hgrow0 hgrow1 hs0
  go_loopw [9, 10, 21] (fun lev' pv i wr => ∃ (j : Nat), j ≤ l.length ∧ i = .int .i64 j ∧ wr.ownsRow w.heap.size 3 1 lev' j (icells ((l.take j).map lev)) ∧ wr.ownsRow w.heap.size 39 3 pv (there (l.take j)).length (vcells (there (l.take j))) ∧ Apart lev' pv ∧ Below w.heap.size w wr) (fun _ _ i _ => l.length - (intOf i).toNat)
  case atStart => exact ⟨0, Nat.zero_le _, rfl, by simpa [icells] using hown0', by simpa [there, vcells] using hown1, hap0, hbel1⟩
  case round =>
    clear hown0' hown1 hap0 hbel1
    obtain ⟨j, hjl, rfl, ho, hp, hap, hbel⟩ := hrel
    have HB : Hid (Below w.heap.size w wr) := hbel
    have hsz : w.heap.size ≤ wr.heap.size := hbel.size
    have htl : (there (l.take j)).length ≤ j := by have := there_length (l.take j); rw [List.length_take] at this; omega
    have hob : some wr.heap.size ≠ u9.ownBlock := fun e => by have := (ho.lt _ e.symm).2; omega
    by_cases hlt : j < l.length
    · have hr := HR.out.below hbel
      obtain rfl := hr.addr (by omega)
      have p0 := hr.c0 j hlt
      have p1 := hr.c1 j hlt
      have p2 := hr.c2 j hlt
      have HT := there_succ l j hlt
      have HL : Hid ((l.take (j + 1)).map lev = (l.take j).map lev ++ [lev l[j]]) := levs_succ l j hlt
      clear hr hbel
      generalize l[j] = x at *
      cases hx : x.null
      · rw [hx] at p0 HT
        have HTH : Hid (there (l.take (j + 1)) = there (l.take j) ++ [x]) := by show _ = _; simpa using HT
        have HLV : Hid (lev x = 1) := by show _ = _; unfold lev; rw [hx]; rfl
        have hcx : vcells [x] = [.bool false, .int .i64 x.n, .string x.s] := by rw [vcells_one, hx]
        have h1c : ∀ u ∈ [Value.bool false, .int .i64 x.n, .string x.s], u.oneCell' = true := by have := three_one x; rwa [hx] at this
        clear HT hx
        go_wp2_with (first
          | (at_builtin; refine wpList_append_keep _ rfl _ _ 22 rfl w.heap.size 3 i0 (.int .i64 0) 1 8 Try.underlying22 hi hz0 hz1 hz2 rfl (by decide) _ j _ rfl ((ho.alloc _).alloc _) ⟨wr.heap.size + 1, 0, none⟩ 1 1 [.int .i64 1] rfl (by decide) rfl (by simpa using one_at (wr.alloc _) _ _) (one_oneI _) (by unfold maxLen; omega) (by omega) (by simp; omega) ?_; intro v2 w2 hown2 hgr2; have hg2' := Grew.append hgr2; have hbx := box_grown hg2'.by_ hob; obtain ⟨q0, q1, q2⟩ := hbx; have hg2 := hg2'.box; have hp2 := kept_grew hp hg2 hap.symm; have hs2 := hg2.by_.size)
          | (at_builtin; refine wpList_append_keep _ rfl _ _ 30 rfl w.heap.size 39 j0 _ 3 32 Try.underlying30 hj hy0 hy1 hy2 rfl (by decide) _ _ _ rfl (hp2.alloc _) ⟨w2.heap.size, 0, none⟩ 1 1 [.bool false, .int .i64 x.n, .string x.s] rfl (by decide) rfl (three_at _ _ _ _ _) h1c (by unfold maxLen; omega) (by omega) (by simp; omega) ?_; intro v3 w3 hown3 hgr3))
        have hg3 := Grew.append hgr3
        have ap2 : Apart v2 u10 := (hap.symm.grew hp hg2).symm
        have ho3 := kept_grew hown2 hg3 ap2
        rw [icells_snoc] at ho3
        rw [← hcx, ← vcells_append] at hown3
        have hb2 : Below w.heap.size wr w2 := hg2.below (fun g hg => (ho.lt g hg).1) hsz
        have hb3 : Below w.heap.size w2 w3 := hg3.below (fun g hg => (hp2.lt g hg).1) (Nat.le_trans hsz hs2)
        refine ⟨⟨j + 1, by omega, by simp, by rw [HL.out, HLV.out]; exact ho3, by rw [HTH.out]; simpa using hown3, ap2.grew hown2 hg3, (HB.out.trans hb2).trans hb3⟩, by simp [intOf]; omega⟩
      · rw [hx] at p0 HT
        have HTH : Hid (there (l.take (j + 1)) = there (l.take j)) := by show _ = _; simpa using HT
        have HLV : Hid (lev x = 0) := by show _ = _; unfold lev; rw [hx]; rfl
        clear HT hx
        go_wp2_with (at_builtin; refine wpList_append_keep _ rfl _ _ 22 rfl w.heap.size 3 i0 (.int .i64 0) 1 8 Try.underlying22 hi hz0 hz1 hz2 rfl (by decide) _ j _ rfl ((ho.alloc _).alloc _) ⟨wr.heap.size + 1, 0, none⟩ 1 1 [.int .i64 0] rfl (by decide) rfl (by simpa using one_at (wr.alloc _) _ _) (one_oneI _) (by unfold maxLen; omega) (by omega) (by simp; omega) ?_; intro v2 w2 hown2 hgr2)
        have hg2 := Grew.box (Grew.append hgr2)
        rw [icells_snoc] at hown2
        have hb2 : Below w.heap.size wr w2 := hg2.below (fun g hg => (ho.lt g hg).1) hsz
        refine ⟨⟨j + 1, by omega, by simp, by rw [HL.out, HLV.out]; exact hown2, by rw [HTH.out]; exact kept_grew hp hg2 hap.symm, (hap.symm.grew hp hg2).symm, HB.out.trans hb2⟩, by simp [intOf]; omega⟩
    · have hj3 : j = l.length := by omega
      have hj2 : l.take j = l := List.take_of_length_le (by omega)
      rw [hj2] at ho hp
      have hml : ((l.map lev).length) = l.length := List.length_map _
      have ho' : wr.ownsRow w.heap.size 3 1 u9 (l.map lev).length (icells (l.map lev)) := by rw [hml, ← hj3]; exact ho
      have HCO : Hid (columnB k e l = runsB (l.map lev) ++ codedB k e (there l)) := rfl
      have HTV : Hid (∀ x ∈ there l, VOk x) := fun x hx => HVO.out x (there_mem hx)
      have htl2 := there_length l
      have hrl := runsB_length (l.map lev) (by omega)
      have apo : Apart u9 u := (Apart.new (B := 0) HU.out ho').symm
      have app : Apart u10 u := (Apart.new (B := 0) HU.out hp).symm
      have HUR : Hid (wr.ownsRow base 5 1 u pre.length (bcells pre)) := ownsRow_below HU.out HB.out
      have HA1 : Hid (Calls Try.prog 72 #[u, u9] wr fun e w' => ∃ v', e = .returned v' ∧ w'.ownsRow base 5 1 v' (pre ++ runsB (l.map lev)).length (bcells (pre ++ runsB (l.map lev))) ∧ Grew wr w' u v') :=
        appendRunsG u u9 pre (l.map lev) base w.heap.size wr (by omega) (by omega) (by omega) HUR.out ho' apo
      have hq1 : (pre ++ runsB (l.map lev)).length ≤ 32000 := by rw [List.length_append]; omega
      generalize runsB (l.map lev) = RL at *
      generalize hP1 : pre ++ RL = P1 at *
      have HP1 : Hid (pre ++ RL = P1) := hP1
      generalize there l = tl at *
      have HPV : Hid (∀ w1 v1, Grew wr w1 u v1 → w1.ownsRow w.heap.size 39 3 u10 tl.length (vcells tl) ∧ Apart u10 v1) := fun w1 v1 hg => ⟨kept_grew hp hg app, app.grew hp hg⟩
      clear hP1 hrl hml ho ho' apo HUR hap hbel hj2 hj3 HVO HU
      rcases cases4 e with rfl | rfl | rfl | rfl | ⟨e0, e1, e2, e3⟩
      · have HCB : Hid (codedB k 0 tl = plainsB k tl) := rfl
        have HA2 : Hid (∀ w1 v1, w1.ownsRow base 5 1 v1 P1.length (bcells P1) → Grew wr w1 u v1 → Calls Try.prog 76 #[v1, u10, .int .i64 k] w1 fun e w' => ∃ u', e = .returned u' ∧ w'.ownsRow base 5 1 u' (P1 ++ plainsB k tl).length (bcells (P1 ++ plainsB k tl)) ∧ Grew w1 w' v1 u') := fun w1 v1 ho hg =>
          appendPlain_any v1 _ P1 tl k base w1 hk HTV.out (by omega) (by omega) (by have := hg.by_.size; omega) ho (fun w' u' hg' => VSl.of_owns (kept_grew (HPV.out w1 v1 hg).1 hg' (HPV.out w1 v1 hg).2))
        clear hp app
        go_wp2_with first
          | (go_at_call 72; refine HA1.out.mono ?_; rintro e w1 ⟨v1, rfl, ho1, hg1⟩)
          | (go_at_call 76; refine (HA2.out _ _ ho1 hg1).mono ?_; rintro e w2 ⟨v2, rfl, ho2, hg2⟩)
        go_ret
        refine ⟨_, rfl, ?_, (Grew.of_below HB.out).trans (hg1.trans hg2)⟩
        rw [HCO.out, HCB.out, ← List.append_assoc, HP1.out]
        exact ho2
      · have HCB : Hid (codedB k 1 tl = deltaF 0 tl) := rfl
        have HA2 : Hid (∀ w1 v1, w1.ownsRow base 5 1 v1 P1.length (bcells P1) → Grew wr w1 u v1 → Calls Try.prog 73 #[v1, u10] w1 fun e w' => ∃ u', e = .returned u' ∧ w'.ownsRow base 5 1 u' (P1 ++ deltaF 0 tl).length (bcells (P1 ++ deltaF 0 tl)) ∧ Grew w1 w' v1 u') := fun w1 v1 ho hg =>
          appendDelta_any v1 _ P1 tl base w1 HTV.out (by omega) (by omega) (by have := hg.by_.size; omega) ho (fun w' u' hg' => VSl.of_owns (kept_grew (HPV.out w1 v1 hg).1 hg' (HPV.out w1 v1 hg).2))
        clear hp app
        go_wp2_with first
          | (go_at_call 72; refine HA1.out.mono ?_; rintro e w1 ⟨v1, rfl, ho1, hg1⟩)
          | (go_at_call 73; refine (HA2.out _ _ ho1 hg1).mono ?_; rintro e w2 ⟨v2, rfl, ho2, hg2⟩)
        go_ret
        refine ⟨_, rfl, ?_, (Grew.of_below HB.out).trans (hg1.trans hg2)⟩
        rw [HCO.out, HCB.out, ← List.append_assoc, HP1.out]
        exact ho2
      · have HCB : Hid (codedB k 2 tl = dictB k tl) := rfl
        have HA2 : Hid (∀ w1 v1, w1.ownsRow base 5 1 v1 P1.length (bcells P1) → Grew wr w1 u v1 → Calls Try.prog 74 #[v1, u10, .int .i64 k] w1 fun e w' => ∃ u', e = .returned u' ∧ w'.ownsRow base 5 1 u' (P1 ++ dictB k tl).length (bcells (P1 ++ dictB k tl)) ∧ Grew w1 w' v1 u') := fun w1 v1 ho hg =>
          appendDict_any v1 _ P1 tl k base w1 hk HTV.out (by omega) (by omega) (by have := hg.by_.size; omega) ho (VSl.of_owns (HPV.out w1 v1 hg).1)
        clear hp app
        go_wp2_with first
          | (go_at_call 72; refine HA1.out.mono ?_; rintro e w1 ⟨v1, rfl, ho1, hg1⟩)
          | (go_at_call 74; refine (HA2.out _ _ ho1 hg1).mono ?_; rintro e w2 ⟨v2, rfl, ho2, hg2⟩)
        go_ret
        refine ⟨_, rfl, ?_, (Grew.of_below HB.out).trans (hg1.trans hg2)⟩
        rw [HCO.out, HCB.out, ← List.append_assoc, HP1.out]
        exact ho2
      · have HCB : Hid (codedB k 3 tl = runsB (tl.map Val.n)) := rfl
        have hml2 : (tl.map Val.n).length = tl.length := List.length_map _
        have HA2 : Hid (∀ w1 v1, Grew wr w1 u v1 → Calls Try.prog 75 #[u10] w1 fun e w' => ∃ v', e = .returned v' ∧ w'.ownsRow w1.heap.size 3 1 v' tl.length (icells (tl.map Val.n)) ∧ Below w1.heap.size w1 w') := fun w1 v1 hg =>
          bitsOf_any u10 tl w1 (by omega) (VSl.of_owns (HPV.out w1 v1 hg).1)
        have HA3 : Hid (∀ w1 w2 v1 v2, w1.ownsRow base 5 1 v1 P1.length (bcells P1) → Grew wr w1 u v1 → w2.ownsRow w1.heap.size 3 1 v2 tl.length (icells (tl.map Val.n)) → Below w1.heap.size w1 w2 → Calls Try.prog 72 #[v1, v2] w2 fun e w' => ∃ v', e = .returned v' ∧ w'.ownsRow base 5 1 v' (P1 ++ runsB (tl.map Val.n)).length (bcells (P1 ++ runsB (tl.map Val.n))) ∧ Grew w2 w' v1 v') := fun w1 w2 v1 v2 ho hg ho2 hb2 =>
          appendRunsG v1 v2 P1 (tl.map Val.n) base w1.heap.size w2 (by omega) (by omega) (by have := hg.by_.size; have := hb2.size; omega) (ownsRow_below ho hb2) (by rw [hml2]; exact ho2) (Apart.new (B := 0) ho ho2).symm
        clear hp app
        go_wp2_with fail
        refine HA1.out.mono ?_
        rintro e w1 ⟨v1, rfl, ho1, hg1⟩
        go_wp2_with first
          | (go_at_call 75; refine (HA2.out _ _ hg1).mono ?_; rintro e w2 ⟨v2, rfl, ho2, hb2⟩)
          | (go_at_call 72; refine (HA3.out _ _ _ _ ho1 hg1 ho2 hb2).mono ?_; rintro e w3 ⟨v3, rfl, ho3, hg3⟩)
        go_ret
        refine ⟨_, rfl, ?_, (Grew.of_below HB.out).trans (hg1.trans ((Grew.of_below hb2).trans hg3))⟩
        rw [HCO.out, HCB.out, ← List.append_assoc, HP1.out]
        exact ho3
      · have HCB : Hid (codedB k e tl = plainsB k tl) := by
          show _ = _
          simp at e1 e2 e3
          unfold codedB
          rw [if_neg e1, if_neg e2, if_neg e3]
        have HA2 : Hid (∀ w1 v1, w1.ownsRow base 5 1 v1 P1.length (bcells P1) → Grew wr w1 u v1 → Calls Try.prog 76 #[v1, u10, .int .i64 k] w1 fun e w' => ∃ u', e = .returned u' ∧ w'.ownsRow base 5 1 u' (P1 ++ plainsB k tl).length (bcells (P1 ++ plainsB k tl)) ∧ Grew w1 w' v1 u') := fun w1 v1 ho hg =>
          appendPlain_any v1 _ P1 tl k base w1 hk HTV.out (by omega) (by omega) (by have := hg.by_.size; omega) ho (fun w' u' hg' => VSl.of_owns (kept_grew (HPV.out w1 v1 hg).1 hg' (HPV.out w1 v1 hg).2))
        clear hp app
        go_wp2_with first
          | (go_at_call 72; refine HA1.out.mono ?_; rintro e w1 ⟨v1, rfl, ho1, hg1⟩)
          | (go_at_call 76; refine (HA2.out _ _ ho1 hg1).mono ?_; rintro e w2 ⟨v2, rfl, ho2, hg2⟩)
        go_ret
        refine ⟨_, rfl, ?_, (Grew.of_below HB.out).trans (hg1.trans hg2)⟩
        rw [HCO.out, HCB.out, ← List.append_assoc, HP1.out]
        exact ho2
end Go.Proofs.Ytjidbonhhpkljaa.Ec
