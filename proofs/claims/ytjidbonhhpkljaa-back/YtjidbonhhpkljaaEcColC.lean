/- The program's side, list by list: Plain, Delta, the bits of Bools. -/
import Derived.Test.YtjidbonhhpkljaaEcList
set_option linter.unusedVariables false
namespace Go.Proofs.Ytjidbonhhpkljaa.Ec
open Go.RowKit Go.Proofs.Ytjidbonhhpkljaa.Pk Go.Proofs.Ytjidbonhhpkljaa.Pm

/-- Values as Plain, one behind the other. -/
def plainsB (k : Int) (l : List Val) : List Nat := l.flatMap (plainB k)
theorem plainsB_take (k : Int) (l : List Val) (i : Nat) (h : i < l.length) : plainsB k (l.take (i + 1)) = plainsB k (l.take i) ++ plainB k l[i] := by
  rw [List.take_succ_eq_append_getElem h]
  unfold plainsB
  rw [List.flatMap_append, List.flatMap_singleton]
theorem plainsB_length (k : Int) (l : List Val) (h : ∀ x ∈ l, VOk x) : (plainsB k l).length ≤ 42 * l.length := by
  induction l with
  | nil => simp [plainsB]
  | cons x r ih =>
    have h1 := ih (fun y hy => h y (by simp [hy]))
    have h2 := plainB_length k x (h x (by simp)).sz
    unfold plainsB at h1 ⊢
    simp at h1 ⊢
    omega

set_option maxRecDepth 100000 in
set_option maxHeartbeats 2000000 in
theorem appendPlain_any (u lv : Value) (pre : List Nat) (l : List Val) (k : Int) (base : Nat) (w : World) (hk : k = 1 ∨ k = 2 ∨ k = 3) (hv : ∀ x ∈ l, VOk x) (hn : l.length ≤ 100) (hl : pre.length ≤ 50000) (hb : base ≤ w.heap.size)
    (hown : w.ownsRow base 5 1 u pre.length (bcells pre)) (hkeep : ∀ w' u', Grew w w' u u' → VSl w' lv l) :
    Calls Try.prog 76 #[u, lv, .int .i64 k] w fun e w' => ∃ u', e = .returned u' ∧ w'.ownsRow base 5 1 u' (pre ++ plainsB k l).length (bcells (pre ++ plainsB k l)) ∧ Grew w w' u u' := by
  obtain ⟨ao, b, off, cap, rfl, hr⟩ := hkeep w u (Grew.refl _ _)
  have HK : Hid (∀ w' u', Grew w w' u u' → ∃ b off, VRow w' ao b off l) := fun w' u' hg => by
    obtain ⟨ao2, b2, off2, cap2, he, h2⟩ := hkeep w' u' hg
    cases he
    exact ⟨b2, off2, h2⟩
  have HVO : Hid (∀ x ∈ l, VOk x) := hv
  clear hkeep hr hv
  go_enter Try.func76, Try.ntmps76
  go_wp2_with fail
  go_loopw [0, 11] (fun bv i wr => ∃ (j : Nat), j ≤ l.length ∧ i = .int .i64 j ∧ wr.ownsRow base 5 1 bv (pre ++ plainsB k (l.take j)).length (bcells (pre ++ plainsB k (l.take j))) ∧ Grew w wr u bv) (fun _ i _ => l.length - (intOf i).toNat)
  case atStart => exact ⟨0, Nat.zero_le _, rfl, by simpa [plainsB] using hown, Grew.refl _ _⟩
  case round =>
    clear hown
    obtain ⟨j, hj, rfl, hown, hgr⟩ := hrel
    have HG : Hid (Grew w wr u u0) := hgr
    have hsz : w.heap.size ≤ wr.heap.size := hgr.by_.size
    by_cases hlt : j < l.length
    · obtain ⟨b1, off1, hr⟩ := HK.out wr u0 hgr
      obtain rfl := hr.addr (by omega)
      have p0 := hr.c0 j hlt
      have p1 := hr.c1 j hlt
      have p2 := hr.c2 j hlt
      have HT := plainsB_take k l j hlt
      have hpl : (plainsB k (l.take j)).length ≤ 4200 := by
        have := plainsB_length k (l.take j) (fun x hx => HVO.out x (List.mem_of_mem_take hx))
        rw [List.length_take] at this
        omega
      have HX : Hid (VOk l[j]) := HVO.out _ (List.getElem_mem hlt)
      have HTT : Hid (plainsB k (l.take (j + 1)) = plainsB k (l.take j) ++ plainB k l[j]) := HT
      clear HT hr hgr
      generalize l[j] = x at *
      have hpl2 : (pre ++ plainsB k (l.take j)).length ≤ 60000 := by rw [List.length_append]; omega
      generalize hpb : pre ++ plainsB k (l.take j) = pb at *
      have HPB : Hid (pre ++ plainsB k (l.take j) = pb) := hpb
      clear hpb hpl
      have HA : Hid (∀ o, Calls Try.prog 106 #[u0, .agg #[.bool x.null, .int .i64 x.n, .string x.s], .int .i64 k] (wr.alloc o) fun e w' => ∃ u', e = .returned u' ∧ w'.ownsRow base 5 1 u' (pb ++ plainB k x).length (bcells (pb ++ plainB k x)) ∧ Grew (wr.alloc o) w' u0 u') := fun o =>
        appendPlain1_any u0 pb x k base (wr.alloc o) hk HX.out (by omega) (by simp; omega) (hown.alloc o)
      go_wp2_with (go_at_call 106; refine (HA.out _).mono ?_; rintro e w1 ⟨v1, rfl, hw1, hg1⟩)
      go_roundw
      case rel =>
        refine ⟨j + 1, by omega, by go_num, ?_, HG.out.trans hg1.box⟩
        rw [HTT.out, ← List.append_assoc, HPB.out]
        exact hw1
      case measure => simp [intOf]; omega
    · have hj2 : l.take j = l := List.take_of_length_le (by omega)
      rw [hj2] at hown
      have HO : Hid (wr.ownsRow base 5 1 u0 (pre ++ plainsB k l).length (bcells (pre ++ plainsB k l))) := hown
      clear hown hj2 hgr
      go_wp2
      go_ret
      exact ⟨_, rfl, HO.out, HG.out⟩

/-- Differences. -/
def deltaF : Int → List Val → List Nat
  | _, [] => []
  | a, v :: r => vint (zz (wrap64 (v.n - a))) ++ deltaF v.n r
def lastF : Int → List Val → Int
  | a, [] => a
  | _, v :: r => lastF v.n r
theorem deltaF_snoc (a : Int) (l : List Val) (x : Val) : deltaF a (l ++ [x]) = deltaF a l ++ vint (zz (wrap64 (x.n - lastF a l))) := by
  induction l generalizing a with
  | nil => simp [deltaF, lastF]
  | cons y r ih => simp [deltaF, lastF, ih]
theorem lastF_snoc (a : Int) (l : List Val) (x : Val) : lastF a (l ++ [x]) = x.n := by
  induction l generalizing a with
  | nil => simp [lastF]
  | cons y r ih => simp [lastF, ih]
theorem deltaF_length (a : Int) (l : List Val) : (deltaF a l).length ≤ 10 * l.length := by
  induction l generalizing a with
  | nil => simp [deltaF]
  | cons y r ih =>
    have h1 := ih y.n
    have h2 := vintF_length 10 (zz (wrap64 (y.n - a)))
    simp only [deltaF, List.length_append, List.length_cons]
    unfold vint
    omega
theorem lastF_ok (l : List Val) (h : ∀ x ∈ l, VOk x) (a : Int) (h0 : -9223372036854775808 ≤ a) (h1 : a ≤ 9223372036854775807) : -9223372036854775808 ≤ lastF a l ∧ lastF a l ≤ 9223372036854775807 := by
  induction l generalizing a with
  | nil => exact ⟨h0, h1⟩
  | cons y r ih => exact ih (fun x hx => h x (by simp [hx])) y.n (h y (by simp)).lo (h y (by simp)).hi
theorem wrap64_range (x : Int) : -9223372036854775808 ≤ wrap64 x ∧ wrap64 x ≤ 9223372036854775807 := by unfold wrap64; omega

theorem box_kept1 {w w1 : World} {u u1 a b c : Value} {t : TypeId} (hub : u.ownBlock ≠ some w.heap.size) (h : Grew (w.alloc (.cells #[a, b, c] t)) w1 u u1) : w1.cell? ⟨w.heap.size, 1, none⟩ = some b :=
  h.by_.cell (a := ⟨w.heap.size, 1, none⟩) (v := b) (by simp) (fun h => hub h.symm)

set_option maxRecDepth 100000 in
set_option maxHeartbeats 2000000 in
theorem appendDelta_any (u lv : Value) (pre : List Nat) (l : List Val) (base : Nat) (w : World) (hv : ∀ x ∈ l, VOk x) (hn : l.length ≤ 100) (hl : pre.length ≤ 50000) (hb : base ≤ w.heap.size)
    (hown : w.ownsRow base 5 1 u pre.length (bcells pre)) (hkeep : ∀ w' u', Grew w w' u u' → VSl w' lv l) :
    Calls Try.prog 73 #[u, lv] w fun e w' => ∃ u', e = .returned u' ∧ w'.ownsRow base 5 1 u' (pre ++ deltaF 0 l).length (bcells (pre ++ deltaF 0 l)) ∧ Grew w w' u u' := by
  obtain ⟨ao, b, off, cap, rfl, hr⟩ := hkeep w u (Grew.refl _ _)
  have HK : Hid (∀ w' u', Grew w w' u u' → ∃ b off, VRow w' ao b off l) := fun w' u' hg => by
    obtain ⟨ao2, b2, off2, cap2, he, h2⟩ := hkeep w' u' hg
    cases he
    exact ⟨b2, off2, h2⟩
  have HVO : Hid (∀ x ∈ l, VOk x) := hv
  clear hkeep hr hv
  go_enter Try.func73, Try.ntmps73
  go_wp2_with fail
  go_loopw [0, 5, 10] (fun bv la i wr => ∃ (j : Nat), j ≤ l.length ∧ i = .int .i64 j ∧ la = .int .i64 (lastF 0 (l.take j)) ∧ wr.ownsRow base 5 1 bv (pre ++ deltaF 0 (l.take j)).length (bcells (pre ++ deltaF 0 (l.take j))) ∧ Grew w wr u bv) (fun _ _ i _ => l.length - (intOf i).toNat)
  case atStart => exact ⟨0, Nat.zero_le _, rfl, rfl, by simpa [deltaF] using hown, Grew.refl _ _⟩
  case round =>
    clear hown
    obtain ⟨j, hj, rfl, rfl, hown, hgr⟩ := hrel
    have HG : Hid (Grew w wr u u0) := hgr
    have hsz : w.heap.size ≤ wr.heap.size := hgr.by_.size
    by_cases hlt : j < l.length
    · obtain ⟨b1, off1, hr⟩ := HK.out wr u0 hgr
      obtain rfl := hr.addr (by omega)
      have p0 := hr.c0 j hlt
      have p1 := hr.c1 j hlt
      have p2 := hr.c2 j hlt
      have hpl : (deltaF 0 (l.take j)).length ≤ 1000 := by
        have := deltaF_length 0 (l.take j)
        rw [List.length_take] at this
        omega
      have hlo := (lastF_ok (l.take j) (fun x hx => HVO.out x (List.mem_of_mem_take hx)) 0 (by omega) (by omega))
      have HX : Hid (VOk l[j]) := HVO.out _ (List.getElem_mem hlt)
      have HTT : Hid (deltaF 0 (l.take (j + 1)) = deltaF 0 (l.take j) ++ vint (zz (wrap64 (l[j].n - lastF 0 (l.take j))))) := by
        show _ = _
        rw [List.take_succ_eq_append_getElem hlt, deltaF_snoc]
      have HLL : Hid (lastF 0 (l.take (j + 1)) = l[j].n) := by
        show _ = _
        rw [List.take_succ_eq_append_getElem hlt, lastF_snoc]
      clear hr hgr
      generalize l[j] = x at *
      generalize lastF 0 (l.take j) = a at *
      have hpl2 : (pre ++ deltaF 0 (l.take j)).length ≤ 60000 := by rw [List.length_append]; omega
      generalize hpb : pre ++ deltaF 0 (l.take j) = pb at *
      have HPB : Hid (pre ++ deltaF 0 (l.take j) = pb) := hpb
      clear hpb hpl
      have hub : u0.ownBlock ≠ some wr.heap.size := fun h => by have := (hown.lt _ h).2; omega
      obtain ⟨hw0, hw1'⟩ := wrap64_range (x.n - a)
      have HA : Hid (∀ o, Calls Try.prog 106 #[u0, .agg #[.bool false, .int .i64 (wrap64 (x.n - a)), .string ⟨#[]⟩], .int .i64 1] (wr.alloc o) fun e w' => ∃ u', e = .returned u' ∧ w'.ownsRow base 5 1 u' (pb ++ vint (zz (wrap64 (x.n - a)))).length (bcells (pb ++ vint (zz (wrap64 (x.n - a))))) ∧ Grew (wr.alloc o) w' u0 u') := fun o =>
        appendPlain1_any u0 pb ⟨false, wrap64 (x.n - a), ⟨#[]⟩⟩ 1 base (wr.alloc o) (.inl rfl) ⟨hw0, hw1', (by decide : (⟨#[]⟩ : ByteArray).size ≤ 32)⟩ (by omega) (by simp; omega) (hown.alloc o)
      go_wp2_with (go_at_call 106; refine (HA.out _).mono ?_; rintro e w1 ⟨v1, rfl, hw1, hg1⟩; have hk1 := box_kept1 hub hg1)
      go_roundw
      case rel =>
        refine ⟨j + 1, by omega, by go_num, by rw [HLL.out], ?_, HG.out.trans hg1.box⟩
        rw [HTT.out, ← List.append_assoc, HPB.out]
        exact hw1
      case measure => simp [intOf]; omega
    · have hj2 : l.take j = l := List.take_of_length_le (by omega)
      rw [hj2] at hown
      have HO : Hid (wr.ownsRow base 5 1 u0 (pre ++ deltaF 0 l).length (bcells (pre ++ deltaF 0 l))) := hown
      clear hown hj2 hgr
      go_wp2
      go_ret
      exact ⟨_, rfl, HO.out, HG.out⟩

theorem one_oneI (x : Int) : ∀ u ∈ [Value.int .i64 x], u.oneCell' = true := by
  intro u hu
  simp at hu
  subst hu
  rfl

set_option maxRecDepth 100000 in
set_option maxHeartbeats 2000000 in
theorem bitsOf_any (lv : Value) (l : List Val) (w : World) (hn : l.length ≤ 100) (hvs : VSl w lv l) :
    Calls Try.prog 75 #[lv] w fun e w' => ∃ v', e = .returned v' ∧ w'.ownsRow w.heap.size 3 1 v' l.length (icells (l.map Val.n)) ∧ Below w.heap.size w w' := by
  obtain ⟨ao, b, off, cap, rfl, hr⟩ := hvs
  obtain ⟨i0, hi, hz0, hz1, hz2⟩ := info_parts Try.info3
  have HR : Hid (VRow w ao b off l) := hr
  clear hr
  go_enter Try.func75, Try.ntmps75
  go_wp2_with (at_make; refine wpList_make_own _ rfl _ _ 22 rfl w.heap.size 3 i0 (.int .i64 0) 1 Try.underlying22 hi hz0 hz1 .i64 .i64 _ l.length rfl rfl rfl (by rw [hz2]; omega) (by unfold maxLen; omega) (Nat.le_refl _) ?_; intro w0 hown0 hgrow0)
  have hbel0 : Below w.heap.size w w0 := (Below.refl _ _).grown hgrow0 (Nat.le_refl _) (by simp)
  clear hgrow0
  go_loopw [3, 11] (fun bv i wr => ∃ (j : Nat), j ≤ l.length ∧ i = .int .i64 j ∧ wr.ownsRow w.heap.size 3 1 bv j (icells ((l.take j).map Val.n)) ∧ Below w.heap.size w wr) (fun _ i _ => l.length - (intOf i).toNat)
  case atStart => exact ⟨0, Nat.zero_le _, rfl, hown0, hbel0⟩
  case round =>
    clear hown0 hbel0
    obtain ⟨j, hj, rfl, hown, hbel⟩ := hrel
    have HB : Hid (Below w.heap.size w wr) := hbel
    have hsz : w.heap.size ≤ wr.heap.size := hbel.size
    by_cases hlt : j < l.length
    · have hr := HR.out.below hbel
      obtain rfl := hr.addr (by omega)
      have p0 := hr.c0 j hlt
      have p1 := hr.c1 j hlt
      have p2 := hr.c2 j hlt
      have HTT : Hid ((l.take (j + 1)).map Val.n = (l.take j).map Val.n ++ [l[j].n]) := by
        show _ = _
        rw [List.take_succ_eq_append_getElem hlt, List.map_append]
        rfl
      clear hr hbel
      generalize l[j] = x at *
      go_wp2_with (at_builtin; refine wpList_append_keep _ rfl _ _ 22 rfl w.heap.size 3 i0 (.int .i64 0) 1 8 Try.underlying22 hi hz0 hz1 hz2 rfl (by decide) _ j _ rfl ((hown.alloc _).alloc _) ⟨wr.heap.size + 1, 0, none⟩ 1 1 [.int .i64 x.n] rfl (by decide) rfl (by simpa using one_at (wr.alloc _) _ _) (one_oneI _) (by unfold maxLen; omega) (by omega) (by simp; omega) ?_; intro v2 w2 hown2 hgr2)
      go_roundw
      case rel =>
        have hg3 := Grew.box (Grew.append hgr2)
        rw [icells_snoc] at hown2
        refine ⟨j + 1, by omega, by go_num, by rw [HTT.out]; exact hown2, HB.out.trans (hg3.below (fun g hg => (hown.lt g hg).1) hsz)⟩
      case measure => simp [intOf]; omega
    · have hj2 : l.take j = l := List.take_of_length_le (by omega)
      have hj3 : j = l.length := by omega
      rw [hj2] at hown
      have HO : Hid (wr.ownsRow w.heap.size 3 1 u3 l.length (icells (l.map Val.n))) := by rw [hj3] at hown; exact hown
      clear hown hj2 hbel hj3
      go_wp2
      go_ret
      exact ⟨_, rfl, HO.out, HB.out⟩
end Go.Proofs.Ytjidbonhhpkljaa.Ec
