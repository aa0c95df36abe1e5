/- Dict: the program's side. -/
import Derived.Test.YtjidbonhhpkljaaEcKeys
set_option linter.unusedVariables false
namespace Go.Proofs.Ytjidbonhhpkljaa.Ec
open Go.RowKit Go.Proofs.Ytjidbonhhpkljaa.Pk Go.Proofs.Ytjidbonhhpkljaa.Pm

theorem Try.info39 : (Try.prog.info? 39).map (fun i => (i.zero, i.size, i.bytes)) = some (some (.agg #[.bool false, .int .i64 0, .string ⟨#[]⟩]), 3, 32) := by kernel_rfl
theorem zeroI (w : World) : (zeroValue 3).run Try.prog w = .ok (.int .i64 0) w := by kernel_rfl

theorem own_shape {w : World} {base e size n : Nat} {v : Value} {xs : List Value} (h : w.ownsRow base e size v n xs) : ∃ ao cap, v = .slice ao n cap := by
  rcases h.2 with ⟨rfl, rfl⟩ | ⟨g, cap, cur, rfl, _⟩
  · exact ⟨none, 0, rfl⟩
  · exact ⟨_, _, rfl⟩

theorem three_at (w : World) (a b c : Value) (t : TypeId) : ∀ (j : Nat) (u : Value), [a, b, c][j]? = some u → (w.alloc (.cells #[a, b, c] t)).cell? ((⟨w.heap.size, 0, none⟩ : Addr).add j) = some u := by
  intro j u hj
  match j, hj with
  | 0, hj => simp at hj; subst hj; simp [Addr.add]
  | 1, hj => simp at hj; subst hj; simp [Addr.add_lit]
  | 2, hj => simp at hj; subst hj; simp [Addr.add_lit]
theorem three_one (x : Val) : ∀ u ∈ [Value.bool x.null, .int .i64 x.n, .string x.s], u.oneCell' = true := by
  intro u hu
  simp at hu
  rcases hu with rfl | rfl | rfl <;> rfl

theorem box_grown {w w1 : World} {a b c : Value} {t : TypeId} {row : Option Nat} (hg : (w.alloc (.cells #[a, b, c] t)).grownBy w1 row) (hne : some w.heap.size ≠ row) :
    w1.cell? ⟨w.heap.size, 0, none⟩ = some a ∧ w1.cell? ⟨w.heap.size, 1, none⟩ = some b ∧ w1.cell? ⟨w.heap.size, 2, none⟩ = some c :=
  ⟨hg.cell (a := ⟨w.heap.size, 0, none⟩) (by simp) hne, hg.cell (a := ⟨w.heap.size, 1, none⟩) (by simp) hne, hg.cell (a := ⟨w.heap.size, 2, none⟩) (by simp) hne⟩

theorem Grew.of_below {w w' : World} {u : Value} (h : Below w.heap.size w w') : Grew w w' u u := ⟨⟨h.1, h.2, h.3, h.4, fun k hk _ => h.block k hk⟩, fun _ h => .inl h⟩

/-- A dictionary and its places, as bytes. -/
def dictB (k : Int) (l : List Val) : List Nat := vint (dfold l).1.length ++ (plainsB k (dfold l).1 ++ packBytes (wid (dfold l).1.length) (dfold l).2)

def ints (ps : List Nat) : List Int := ps.map fun (n : Nat) => (n : Int)

set_option maxRecDepth 100000 in
set_option maxHeartbeats 8000000 in
theorem appendDict_any (u lv : Value) (pre : List Nat) (l : List Val) (k : Int) (base : Nat) (w : World) (hk : k = 1 ∨ k = 2 ∨ k = 3) (hv : ∀ x ∈ l, VOk x) (hn : l.length ≤ 100) (hl : pre.length ≤ 40000) (hb : base ≤ w.heap.size)
    (hown : w.ownsRow base 5 1 u pre.length (bcells pre)) (hvs : VSl w lv l) :
    Calls Try.prog 74 #[u, lv, .int .i64 k] w fun e w' => ∃ u', e = .returned u' ∧ w'.ownsRow base 5 1 u' (pre ++ dictB k l).length (bcells (pre ++ dictB k l)) ∧ Grew w w' u u' := by
  obtain ⟨i0, hi, hz0, hz1, hz2⟩ := info_parts Try.info3
  obtain ⟨j0, hj, hy0, hy1, hy2⟩ := info_parts Try.info39
  obtain ⟨ao, b, off, cap, rfl, hr⟩ := hvs
  have HVO : Hid (∀ x ∈ l, VOk x) := hv
  have HR : Hid (VRow w ao b off l) := hr
  have HU : Hid (w.ownsRow base 5 1 u pre.length (bcells pre)) := hown
  clear hv hr hown
  have hmm := @run_makeMap Try.prog
  have hom := World.ownsMap_made w Try.prog 39 (plainElem (H := Unit) Try.prog 3)
  have HOK : Hid (∀ j, j ≤ l.length → (dfold (l.take j)).1.length ≤ j ∧ (dfold (l.take j)).2.length = j ∧ (∀ p ∈ (dfold (l.take j)).2, p < (dfold (l.take j)).1.length) ∧ (∀ x ∈ (dfold (l.take j)).1, x ∈ l)) := dfold_ok l
  go_enter Try.func74, Try.ntmps74
  go_wp2_with (at_make; refine wpList_make_own _ rfl _ _ 22 rfl (w.heap.size + 1) 3 i0 (.int .i64 0) 1 Try.underlying22 hi hz0 hz1 .i64 .i64 _ l.length rfl rfl rfl (by rw [hz2]; omega) (by unfold maxLen; omega) (by simp) ?_; intro w0 hown0 hgrow0)
  have hbel0 : Below w.heap.size w w0 := ((Below.refl _ _).alloc (Nat.le_refl _) _).grown hgrow0 (by simp) (by simp)
  have hom0 : w0.ownsMap Try.prog 39 (plainElem (H := Unit) Try.prog 3) w.heap.size 0 (.map []) := hom.kept hgrow0 (by simp)
  clear hgrow0 hom
  go_loopw [7, 9, 20] (fun ev pv i wr => ∃ (j n : Nat) (D : DataW Unit) (eao : Option Addr) (ecap : Nat), j ≤ l.length ∧ n ≤ j ∧ i = .int .i64 j ∧ ev = .slice eao (dfold (l.take j)).1.length ecap ∧
      wr.ownsRow (w.heap.size + 1) 39 3 ev (dfold (l.take j)).1.length (vcells (dfold (l.take j)).1) ∧ wr.ownsRow (w.heap.size + 1) 3 1 pv j (icells (ints (dfold (l.take j)).2)) ∧ Apart ev pv ∧
      wr.ownsMap Try.prog 39 (plainElem (H := Unit) Try.prog 3) w.heap.size n D ∧ Knows D (dfold (l.take j)).1 ∧ Below w.heap.size w wr) (fun _ _ i _ => l.length - (intOf i).toNat)
  case atStart => exact ⟨0, 0, .map [], none, 0, Nat.zero_le _, Nat.le_refl _, rfl, rfl, World.ownsRow_nil _ _ _ _, by simpa [ints, icells, dfold] using hown0, Or.inl rfl, hom0, Knows.empty, hbel0⟩
  case round =>
    clear hown0 hom0 hbel0
    obtain ⟨j, n, D, eao, ecap, hjl, hnj, rfl, rfl, he, hp, hap, hom, hkn, hbel⟩ := hrel
    have HB : Hid (Below w.heap.size w wr) := hbel
    have hsz : w.heap.size ≤ wr.heap.size := hbel.size
    obtain ⟨hd1, hd2, hd3, hd4⟩ := HOK.out j hjl
    have hsz1 : w.heap.size + 1 ≤ wr.heap.size := by have := hom.lt; omega
    by_cases hlt : j < l.length
    · have hr := HR.out.below hbel
      obtain rfl := hr.addr (by omega)
      have p0 := hr.c0 j hlt
      have p1 := hr.c1 j hlt
      have p2 := hr.c2 j hlt
      have HX : Hid (VOk l[j]) := HVO.out _ (List.getElem_mem hlt)
      have HDS : Hid (dfold (l.take (j + 1)) = dstep (dfold (l.take j)) l[j]) := dfold_succ l j hlt
      have hkey := key_mk l[j] HX.out
      have HKN : Hid (Knows D (dfold (l.take j)).1) := hkn
      have HHAS := hkn.has l[j] HX.out
      have HAT : Hid (idx (dfold (l.take j)).1 l[j] < (dfold (l.take j)).1.length → D.atKey (kl l[j]) (.lit (.int .i64 0)) = .lit (.int .i64 (idx (dfold (l.take j)).1 l[j] : Int))) := hkn.at_ l[j] HX.out
      have HII := idx_ins (dfold (l.take j)).1 l[j]
      have HINS : Hid (ins (dfold (l.take j)).1 l[j] = if idx (dfold (l.take j)).1 l[j] < (dfold (l.take j)).1.length then (dfold (l.take j)).1 else (dfold (l.take j)).1 ++ [l[j]]) := rfl
      clear hr hbel hkn HR
      generalize l[j] = x at *
      generalize hds : dfold (l.take j) = S at *
      obtain ⟨d, ps⟩ := S
      simp only at hd1 hd2 hd3 hd4 he hp hap hkey HHAS HII
      have HIH : Hid (idx (ins d x) x = idx d x) := HII.1
      have HOUT : Hid (¬ idx d x < d.length → idx d x = d.length) := HII.2.2
      clear HII hds
      by_cases hin : idx d x < d.length
      · rw [decide_eq_true hin] at HHAS
        go_wp2_with (first
          | (at_lookup; refine wpList_lookup_own_ok_int _ rfl _ _ 170 rfl 39 3 .i64 lawV Try.underlying170 Try.underlying3 (zeroI _) w.heap.size n D rfl (hom.alloc _) _ _ rfl hkey ?_; intro c hat hwc)
          | (at_builtin; refine wpList_append_keep _ rfl _ _ 22 rfl (w.heap.size + 1) 3 i0 (.int .i64 0) 1 8 Try.underlying22 hi hz0 hz1 hz2 rfl (by decide) _ j _ rfl ((hp.alloc _).alloc _) ⟨wr.heap.size + 1, 0, none⟩ 1 1 [.int .i64 c] rfl (by decide) rfl (by simpa using one_at (wr.alloc _) _ _) (one_oneI _) (by unfold maxLen; omega) (by omega) (by simp; omega) ?_; intro v2 w2 hown2 hgr2))
        have hc : c = (idx d x : Int) := by
          have := HAT.out hin
          rw [hat] at this
          simpa using this
        have hg3 := Grew.box (Grew.append hgr2)
        have e1 : dfold (l.take (j + 1)) = (d, ps ++ [idx d x]) := by
          rw [HDS.out]
          unfold dstep
          simp only
          rw [HIH.out, HINS.out, if_pos hin]
        rw [icells_snoc] at hown2
        refine ⟨⟨j + 1, n, D, eao, ecap, by omega, by omega, by simp, by rw [e1], by rw [e1]; exact kept_grew he hg3 hap, ?_, hap.grew he hg3, hom.kept hg3.by_ (fun e => by have := (hp.lt _ e.symm).1; omega), by rw [e1]; exact HKN.out, HB.out.trans (hg3.below (fun g hg => by have := (hp.lt g hg).1; omega) hsz)⟩, by simp [intOf]; omega⟩
        rw [e1]
        simp only
        rw [show ints (ps ++ [idx d x]) = ints ps ++ [c] from by rw [hc]; simp [ints]]
        exact hown2
      · rw [decide_eq_false hin] at HHAS
        have hmb : some wr.heap.size ≠ some w.heap.size := by simp; omega
        have hal : ∀ o : Obj, (wr.alloc o).heap.size = wr.heap.size + 1 := fun o => by simp
        have hem : Value.ownBlock (.slice eao d.length ecap) = none ∨ Value.ownBlock (.slice eao d.length ecap) ≠ some w.heap.size := .inr (fun e => by have := (he.lt _ e).1; omega)
        have hpm : u9.ownBlock = none ∨ u9.ownBlock ≠ some w.heap.size := .inr (fun e => by have := (hp.lt _ e).1; omega)
        go_wp2_with (first
          | (at_lookup; refine wpList_lookup_own_ok_int _ rfl _ _ 170 rfl 39 3 .i64 lawV Try.underlying170 Try.underlying3 (zeroI _) w.heap.size n D rfl (hom.alloc _) _ _ rfl hkey ?_; intro c hat hwc)
          | (at_mapUpdate; refine wpList_mapUpdate_own _ rfl _ _ _ 170 rfl 39 3 lawV Try.underlying170 _ w.heap.size n D rfl (hom.alloc _) ?_ _ _ _ rfl rfl hkey _ [] (plainElem_int Try.underlying3 (wf_i64 _ (by omega) (by omega))) ?_; (unfold maxLen; omega); intro w1 hom1 hgm; have hbx := box_grown hgm hmb; obtain ⟨q0, q1, q2⟩ := hbx; have hsm := hgm.size; rw [hal] at hsm; have he1 := (he.alloc _).kept hgm hem; have hp1 := (hp.alloc _).kept hgm hpm)
          | (at_builtin; refine wpList_append_keep _ rfl _ _ 30 rfl (w.heap.size + 1) 39 j0 _ 3 32 Try.underlying30 hj hy0 hy1 hy2 rfl (by decide) _ d.length _ rfl (he1.alloc _) ⟨w1.heap.size, 0, none⟩ 1 1 [.bool x.null, .int .i64 x.n, .string x.s] rfl (by decide) rfl (three_at _ _ _ _ _) (three_one x) (by unfold maxLen; omega) (by omega) (by simp; omega) ?_; intro v2 w2 hown2 hgr2; have hg2 := Grew.append hgr2; have hp2 := kept_grew hp1 hg2 hap.symm; have hsm2 := hg2.by_.size)
          | (at_builtin; refine wpList_append_keep _ rfl _ _ 22 rfl (w.heap.size + 1) 3 i0 (.int .i64 0) 1 8 Try.underlying22 hi hz0 hz1 hz2 rfl (by decide) _ j _ rfl (hp2.alloc _) ⟨w2.heap.size, 0, none⟩ 1 1 [.int .i64 (d.length : Int)] rfl (by decide) rfl (one_at _ _ _) (one_oneI _) (by unfold maxLen; omega) (by omega) (by simp; omega) ?_; intro v3 w3 hown3 hgr3))
        have hg3 := Grew.append hgr3
        have ap2 : Apart v2 u9 := (hap.symm.grew hp1 hg2).symm
        have e1 : dfold (l.take (j + 1)) = (d ++ [x], ps ++ [d.length]) := by
          rw [HDS.out]
          unfold dstep
          simp only
          rw [HIH.out, HINS.out, if_neg hin, HOUT.out hin]
        have hb1 : Below w.heap.size w w1 := (HB.out.alloc hsz _).grown hgm (by rw [hal]; omega) (fun g hg => by cases hg; exact Nat.le_refl _)
        have hb2 : Below w.heap.size w1 w2 := hg2.below (fun g hg => by have := (he1.lt g hg).1; omega) hb1.size
        have hb3 : Below w.heap.size w2 w3 := hg3.below (fun g hg => by have := (hp2.lt g hg).1; omega) (hb1.trans hb2).size
        rw [icells_snoc] at hown3
        rw [← vcells_one, ← vcells_append] at hown2
        have hom2 := hom1.kept hg2.by_ (fun e => by have := (he1.lt _ e.symm).1; omega)
        have hom3 := hom2.kept hg3.by_ (fun e => by have := (hp2.lt _ e.symm).1; omega)
        obtain ⟨eao2, ecap2, hsh⟩ := own_shape hown2
        refine ⟨⟨j + 1, n + 1, _, eao2, ecap2, by omega, by omega, by simp, by rw [e1, hsh]; simp, by rw [e1]; simpa using kept_grew hown2 hg3 ap2, ?_, ap2.grew hown2 hg3, hom3, by rw [e1]; exact HKN.out.put x HX.out hin, (hb1.trans hb2).trans hb3⟩, by simp [intOf]; omega⟩
        rw [e1]
        simp only
        rw [show ints (ps ++ [d.length]) = ints ps ++ [(d.length : Int)] from by simp [ints]]
        exact hown3
    · have hj3 : j = l.length := by omega
      have hj2 : l.take j = l := List.take_of_length_le (by omega)
      have HDB : Hid (dictB k l = vint (dfold (l.take j)).1.length ++ (plainsB k (dfold (l.take j)).1 ++ packBytes (wid (dfold (l.take j)).1.length) (dfold (l.take j)).2)) := by show _ = _; rw [hj2]; rfl
      have HDV : Hid (∀ x ∈ (dfold (l.take j)).1, VOk x) := fun x hx => HVO.out x (hd4 x hx)
      clear hd4 HOK hkn hj2 HVO
      generalize dfold (l.take j) = S at *
      obtain ⟨d, ps⟩ := S
      simp only at hd1 hd2 hd3 he hp hap HDB HDV
      have apu : Apart (.slice eao d.length ecap) u := by
        cases hu : u.ownBlock with
        | none => exact Apart.symm (u := u) (Or.inl hu)
        | some g =>
          refine .inr (fun e => ?_)
          rw [hu] at e
          have h1 := (he.lt g e).1
          have h2 := (HU.out.lt g hu).2
          omega
      have app : Apart u9 u := by
        cases hu : u.ownBlock with
        | none => exact Apart.symm (u := u) (Or.inl hu)
        | some g =>
          refine .inr (fun e => ?_)
          rw [hu] at e
          have h1 := (hp.lt g e).1
          have h2 := (HU.out.lt g hu).2
          omega
      have HUR : Hid (wr.ownsRow base 5 1 u pre.length (bcells pre)) := ownsRow_below HU.out HB.out
      have hpl := plainsB_length k d HDV.out
      have hvl := vintF_length 10 d.length
      have hwl := wid_le d.length
      have HA1 : Hid (Calls Try.prog 105 #[u, .int .i64 (d.length : Int)] wr fun e w' => ∃ v', e = .returned v' ∧ w'.ownsRow base 5 1 v' (pre ++ vint d.length).length (bcells (pre ++ vint d.length)) ∧ Grew wr w' u v') :=
        appendNumber_any u pre d.length base wr (by omega) (by omega) (by omega) HUR.out
      have hq1 : (pre ++ vint d.length).length ≤ 40010 := by rw [List.length_append]; unfold vint; omega
      generalize hP1 : pre ++ vint d.length = P1 at *
      have HP1 : Hid (pre ++ vint d.length = P1) := hP1
      have hq2 : (P1 ++ plainsB k d).length ≤ 45000 := by rw [List.length_append]; omega
      have HA2 : Hid (∀ w1 v1, w1.ownsRow base 5 1 v1 P1.length (bcells P1) → Grew wr w1 u v1 → Calls Try.prog 76 #[v1, .slice eao d.length ecap, .int .i64 k] w1 fun e w' => ∃ u', e = .returned u' ∧ w'.ownsRow base 5 1 u' (P1 ++ plainsB k d).length (bcells (P1 ++ plainsB k d)) ∧ Grew w1 w' v1 u') := fun w1 v1 ho hg =>
        appendPlain_any v1 _ P1 d k base w1 hk HDV.out (by omega) (by omega) (by have := hg.by_.size; omega) ho (fun w' u' hg' => VSl.of_owns (kept_grew he (hg.trans hg') apu))
      generalize hP2 : P1 ++ plainsB k d = P2 at *
      have HP2 : Hid (P1 ++ plainsB k d = P2) := hP2
      have HA3 : Hid (∀ w1, Calls Try.prog 107 #[.int .i64 (d.length : Int)] w1 fun e w' => e = .returned (.int .i64 (wid d.length)) ∧ w' = w1) := fun w1 => widthOf_any d.length (by omega) w1
      have HA4 : Hid (∀ w1 v1, w1.ownsRow base 5 1 v1 P2.length (bcells P2) → Grew wr w1 u v1 → Calls Try.prog 37 #[v1, u9, .int .i64 (wid d.length : Nat)] w1 fun e w' => ∃ (v : Value), e = .returned v ∧ w'.ownsRow base 5 1 v (P2 ++ packBytes (wid d.length) ps).length (bcells (P2 ++ packBytes (wid d.length) ps)) ∧ Grew w1 w' v1 v) := fun w1 v1 ho hg => by
        refine (appendPackedG v1 u9 P2 ps (wid d.length) base w1 (by omega) (by omega) (fun p hp => wid_fits _ (by omega) p (hd3 p hp)) (by omega) (by have := hg.by_.size; omega) ho (fun w' u' hg' => ?_)).mono ?_
        · refine ISl.of_owns (base := w.heap.size + 1) ?_
          have := kept_grew hp (hg.trans hg') app
          rw [List.length_map, hd2]
          exact this
        · rintro e w' ⟨v, ns, h1, h2, h3, rfl, h4, h5⟩
          have := packBytes_of (wid d.length) ps ns h1 h2 h3
          subst this
          exact ⟨_, rfl, h4, h5⟩
      clear hP1 hP2 hpl hvl HUR he hp hap apu app hom hbel hd3
      go_wp2_with first
        | (go_at_call 105; refine HA1.out.mono ?_; rintro e w1 ⟨v1, rfl, ho1, hg1⟩)
        | (go_at_call 76; refine (HA2.out _ _ ho1 hg1).mono ?_; rintro e w2 ⟨v2, rfl, ho2, hg2⟩; have hg12 := hg1.trans hg2)
        | (go_at_call 107; refine (HA3.out _).mono ?_; rintro e w3 ⟨rfl, rfl⟩)
        | (go_at_call 37; refine (HA4.out _ _ ho2 hg12).mono ?_; rintro e w4 ⟨v4, rfl, ho4, hg4⟩)
      go_ret
      have e2 : pre ++ dictB k l = P2 ++ packBytes (wid d.length) ps := by
        rw [HDB.out, ← HP2.out, ← HP1.out]
        simp only [List.append_assoc]
      refine ⟨_, rfl, ?_, (Grew.of_below HB.out).trans (hg12.trans hg4)⟩
      rw [e2]
      exact ho4
end Go.Proofs.Ytjidbonhhpkljaa.Ec
