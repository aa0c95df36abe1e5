/- Values as a caller hands them in: the contract of lentValues. -/
import Derived.Test.YtjidbonhhpkljaaEcEncode
set_option linter.unusedVariables false
namespace Go.Proofs.Ytjidbonhhpkljaa.Ec
open Go.RowKit Go.Proofs.Ytjidbonhhpkljaa.Pk Go.Proofs.Ytjidbonhhpkljaa.Pm

/-- 'copy' over elements of more than one cell. -/
theorem run_copy_wide {P : Program} (w : World) (dT sT ty elem : TypeId) (g o dLen dCap : Nat) (a : Addr) (sLen sCap s : Nat) (cur : Array Value) (t : TypeId) (cs : List Value) (i : TypeInfo)
    (hu : P.underlying dT = some (.slice elem)) (hi : P.info? elem = some i) (hs : i.size = s) (hg : w.heap[g]? = some (.cells cur t (0, 0))) (hn : cs.length = Nat.min sLen dLen * s)
    (hsrc : ∀ j v, cs[j]? = some v → w.cell? (a.add j) = some v) (hfit : o + cs.length ≤ cur.size) (h1 : ∀ v ∈ cs, v.oneCell' = true) :
    (Builtin.copy_ #[dT, sT] ty #[.slice (some ⟨g, o, none⟩) dLen dCap, .slice (some a) sLen sCap]).run P w = .ok (goInt (Nat.min sLen dLen)) (w.setRow g (cur.toList.take o ++ cs ++ cur.toList.drop (o + cs.length)).toArray) := by
  have hl := run_loadCells_list (P := P) w a cs hsrc
  have hst := run_storeCells_at P g o t cs 0 cur w hg (by simpa using hfit) h1
  rw [hn] at hl
  simp [Builtin.copy_, run_underlying hu, Builtin.lenOf, Builtin.firstCells, sizeOf, typeInfo, hi, hs, hl, hst]
theorem run_copy_wide_none {P : Program} (w : World) (dT sT ty elem : TypeId) (d a : Option Addr) (dLen dCap sLen sCap : Nat) (i : TypeInfo) (hu : P.underlying dT = some (.slice elem)) (hi : P.info? elem = some i) (hn : Nat.min sLen dLen = 0) :
    (Builtin.copy_ #[dT, sT] ty #[.slice d dLen dCap, .slice a sLen sCap]).run P w = .ok (goInt 0) w := by
  have hl : ∀ (x : Addr), (loadCells x 0).run P w = .ok #[] w := fun x => by simpa using run_loadCells_list (P := P) w x [] (by simp)
  cases d <;> cases a <;> simp [Builtin.copy_, run_underlying hu, Builtin.lenOf, Builtin.firstCells, sizeOf, typeInfo, hi, hn, storeCells, hl]

def zeroV : Val := ⟨false, 0, ⟨#[]⟩⟩
def beyV : Val := ⟨false, -77, ⟨#[98, 101, 121, 111, 110, 100]⟩⟩
def lentV (l : List Val) (t : Nat) : List Val := l ++ (List.replicate t beyV ++ List.replicate (8 - t) zeroV)
theorem lentV_length (l : List Val) (t : Nat) (h : t ≤ 8) : (lentV l t).length = l.length + 8 := by unfold lentV; simp; omega

theorem vcells_set (L : List Val) : ∀ (j : Nat) (v : Val), j < L.length → (((vcells L).set (j * 3) (.bool v.null)).set (j * 3 + 1) (.int .i64 v.n)).set (j * 3 + 2) (.string v.s) = vcells (L.set j v) := by
  induction L with
  | nil => intro j v h; simp at h
  | cons x r ih =>
    intro j v h
    cases j with
    | zero => simp [vcells_cons]
    | succ j =>
      have := ih j v (by simpa using h)
      rw [List.set_cons_succ, vcells_cons, vcells_cons, ← this]
      rw [show (j + 1) * 3 = j * 3 + 1 + 1 + 1 by omega]
      simp [List.set_cons_succ]

theorem lentV_set (l : List Val) (t : Nat) (ht : t < 8) : (lentV l t).set (l.length + t) beyV = lentV l (t + 1) := by
  unfold lentV
  rw [List.set_append_right _ _ (by omega), show l.length + t - l.length = t by omega, List.set_append_right _ _ (by simp)]
  simp only [List.length_replicate, Nat.sub_self]
  rw [show 8 - t = (8 - (t + 1)) + 1 by omega, List.replicate_succ, List.set_cons_zero, List.replicate_succ' (n := t)]
  simp

theorem vcells_oneCell (l : List Val) : ∀ v ∈ vcells l, v.oneCell' = true := by
  intro v hv
  unfold vcells at hv
  obtain ⟨x, _, hx⟩ := List.mem_flatMap.1 hv
  exact three_one x v hx

theorem made_vals (n : Nat) : (madeCells (Value.cells (.agg #[.bool false, .int .i64 0, .string ⟨#[]⟩])) (n * 3)).toList = vcells (List.replicate n zeroV) := by
  apply List.ext_getElem?
  intro j
  by_cases hj : j < n * 3
  · obtain ⟨q, hq, hjq⟩ : ∃ q, q < n ∧ (j = q * 3 ∨ j = q * 3 + 1 ∨ j = q * 3 + 2) := ⟨j / 3, by omega, by omega⟩
    obtain ⟨c0, c1, c2⟩ := vcells_at (List.replicate n zeroV) q (by simpa using hq)
    rw [List.getElem_replicate] at c0 c1 c2
    rcases hjq with rfl | rfl | rfl
    · rw [c0]; simp [madeCells, Value.cells, zeroV, hj]
    · rw [c1]; simp [madeCells, Value.cells, zeroV, hj, show (q * 3 + 1) % 3 = 1 by omega]
    · rw [c2]; simp [madeCells, Value.cells, zeroV, hj, show (q * 3 + 2) % 3 = 2 by omega]
  · rw [List.getElem?_eq_none (by simp [size_madeCells]; omega), List.getElem?_eq_none (by rw [vcells_length]; simp; omega)]

/-- A row of values of the call's own, out of its block, and back. -/
theorem vowns_of_block {w : World} {base g n : Nat} {xs : List Value} (h : w.heap[g]? = some (.cells xs.toArray 39 (0, 0))) (hl : xs.length = n * 3) (hb : base ≤ g) (hn : n ≤ maxLen) :
    w.ownsRow base 39 3 (.slice (some ⟨g, 0, none⟩) n n) n xs :=
  ⟨hl, .inr ⟨g, n, xs.toArray, rfl, hb, h, Nat.le_refl _, hn, by simp [hl], by simp; exact List.take_of_length_le (by omega)⟩⟩
theorem vblock_of_owns {w : World} {base g n : Nat} {xs : List Value} (h : w.ownsRow base 39 3 (.slice (some ⟨g, 0, none⟩) n n) n xs) : w.heap[g]? = some (.cells xs.toArray 39 (0, 0)) := by
  rcases h.2 with ⟨h1, _⟩ | ⟨g', cap, cur, h1, _, h3, _, _, h6, h7⟩
  · simp at h1
  · simp only [Value.slice.injEq, Option.some.injEq, Addr.mk.injEq, and_true, true_and] at h1
    obtain ⟨rfl, rfl⟩ := h1
    rw [h3]
    have : cur.toList = xs := by rw [← h7]; exact (List.take_of_length_le (by simp [h6])).symm
    rw [← this]

theorem vlent_copy (l : List Val) {ao : Option Addr} {b off cap : Nat} {w w0 : World} {g : Nat} (hr : VRow w ao b off l) (hbel : Below w.heap.size w w0) (hg : w.heap.size ≤ g)
    (hB : w0.heap[g]? = some (.cells (vcells (List.replicate (l.length + 8) zeroV)).toArray 39 (0, 0))) :
    ∃ w1, (Builtin.copy_ #[30, 30] 3 #[.slice (some ⟨g, 0, none⟩) (l.length + 8) (l.length + 8), .slice ao l.length cap]).run Try.prog w0 = .ok (.int .i64 (l.length : Int)) w1 ∧
      Hid (w1.heap[g]? = some (.cells (vcells (lentV l 0)).toArray 39 (0, 0))) ∧ Below w.heap.size w w1 := by
  obtain ⟨j0, hj, hy0, hy1, hy2⟩ := info_parts Try.info39
  have hr0 := hr.below hbel
  by_cases h : 0 < l.length
  · obtain rfl := hr.addr h
    have hsrc : ∀ j v, (vcells l)[j]? = some v → w0.cell? ((⟨b, off, none⟩ : Addr).add j) = some v := by
      intro j v hv
      have hjl : j < l.length * 3 := by have := (List.getElem?_eq_some_iff.1 hv).1; rwa [vcells_length] at this
      obtain ⟨q, hq, hjq⟩ : ∃ q, q < l.length ∧ (j = q * 3 ∨ j = q * 3 + 1 ∨ j = q * 3 + 2) := ⟨j / 3, by omega, by omega⟩
      obtain ⟨c0, c1, c2⟩ := vcells_at l q hq
      rw [Addr.add_lit]
      rcases hjq with rfl | rfl | rfl
      · rw [← hv, c0]; exact hr0.c0 q hq
      · rw [← hv, c1, ← Nat.add_assoc]; exact hr0.c1 q hq
      · rw [← hv, c2, ← Nat.add_assoc]; exact hr0.c2 q hq
    have hmin : Nat.min l.length (l.length + 8) = l.length := Nat.min_eq_left (by omega)
    have hrr := run_copy_wide (P := Try.prog) w0 30 30 3 39 g 0 (l.length + 8) (l.length + 8) ⟨b, off, none⟩ l.length cap 3 _ 39 (vcells l) j0 Try.underlying30 hj hy1 hB (by rw [vcells_length, hmin]) hsrc (by simp [vcells_length]; omega) (vcells_oneCell l)
    rw [hmin] at hrr
    refine ⟨_, hrr, ?_, below_setRow hbel hg _⟩
    show _ = _
    have hsp : (vcells (List.replicate (l.length + 8) zeroV)).take 0 ++ vcells l ++ (vcells (List.replicate (l.length + 8) zeroV)).drop (0 + (vcells l).length) = vcells (lentV l 0) := by
      rw [List.take_zero, List.nil_append, Nat.zero_add, ← List.replicate_append_replicate, vcells_append, List.drop_append_of_le_length (by simp [vcells_length]), List.drop_of_length_le (by simp [vcells_length]), List.nil_append]
      unfold lentV
      rw [vcells_append]
      simp
    have := setRow_heap w0 g _ (vcells (lentV l 0)).toArray 39 _ hB
    rw [← hsp]
    rw [← hsp] at this
    simpa using this
  · have h0 : l = [] := List.eq_nil_of_length_eq_zero (by omega)
    subst h0
    exact ⟨w0, run_copy_wide_none (P := Try.prog) w0 30 30 3 39 _ ao _ _ _ cap j0 Try.underlying30 hj (by simp), by show _ = _; simpa [lentV] using hB, hbel⟩

theorem stored3 {w : World} {base g n cap : Nat} {L : List Val} (h : w.ownsRow base 39 3 (.slice (some ⟨g, 0, none⟩) n cap) n (vcells L)) (j : Nat) (v : Val) (hj : j < L.length) :
    (((w.setCell ⟨g, j * 3, none⟩ (.bool v.null)).setCell ⟨g, j * 3 + 1, none⟩ (.int .i64 v.n)).setCell ⟨g, j * 3 + 2, none⟩ (.string v.s)).ownsRow base 39 3 (.slice (some ⟨g, 0, none⟩) n cap) n (vcells (L.set j v)) := by
  rw [← vcells_set L j v hj]
  exact ((((h.stored (j * 3) (.bool v.null)).1).stored (j * 3 + 1) (.int .i64 v.n)).1.stored (j * 3 + 2) (.string v.s)).1

set_option maxRecDepth 100000 in
set_option maxHeartbeats 4000000 in
theorem lentValues_any (lv : Value) (l : List Val) (w : World) (hreach : l.length * 32 ≤ 140737488351232) (hvs : VSl w lv l) :
    Calls Try.prog 16 #[lv] w fun e w' => ∃ g, e = .returned (.slice (some ⟨g, 0, none⟩) (l.length + 8) (l.length + 8)) ∧
      w'.ownsRow w.heap.size 39 3 (.slice (some ⟨g, 0, none⟩) (l.length + 8) (l.length + 8)) (l.length + 8) (vcells (lentV l 8)) ∧ Below w.heap.size w w' := by
  obtain ⟨ao, b, off, cap, rfl, hr⟩ := hvs
  obtain ⟨j0, hj, hy0, hy1, hy2⟩ := info_parts Try.info39
  go_enter Try.func16, Try.ntmps16
  go_wp2_with (first
    | (at_make; refine wpList_make_full _ rfl _ _ 30 rfl w.heap.size 39 j0 _ 3 Try.underlying30 hj hy0 hy1 .i64 .i64 _ _ (l.length + 8) rfl rfl (by first | omega | (push_cast; omega)) (by first | omega | (push_cast; omega)) (by rw [hy2]; omega) (by unfold maxLen; omega) (Nat.le_refl _) ?_; intro w0 hown0 hgrow0; have hbel0 : Below w.heap.size w w0 := (Below.refl _ _).grown hgrow0 (Nat.le_refl _) (by simp); rw [made_vals] at hown0; have HB : Hid _ := vblock_of_owns hown0; clear hown0 hgrow0))
  obtain ⟨w1, hrun, HB1, hbel1⟩ := vlent_copy l (cap := cap) hr hbel0 (Nat.le_refl _) HB.out
  clear hbel0 HB hr
  rw [hrun]
  clear hrun
  go_wp2_with fail
  have hown1 : w1.ownsRow w.heap.size 39 3 (.slice (some ⟨w.heap.size, 0, none⟩) (l.length + 8) (l.length + 8)) (l.length + 8) (vcells (lentV l 0)) :=
    vowns_of_block HB1.out (by rw [vcells_length, lentV_length l 0 (by omega)]) (Nat.le_refl _) (by unfold maxLen; omega)
  clear HB1
  go_loopw [4] (fun i wr => ∃ (t p : Nat), t ≤ 8 ∧ p = l.length + t ∧ i = .int .i64 (p : Int) ∧
      wr.ownsRow w.heap.size 39 3 (.slice (some ⟨w.heap.size, 0, none⟩) (l.length + 8) (l.length + 8)) (l.length + 8) (vcells (lentV l t)) ∧ Below w.heap.size w wr) (fun i _ => l.length + 8 - (intOf i).toNat)
  case atStart => exact ⟨0, _, by omega, rfl, rfl, hown1, hbel1⟩
  case round =>
    clear hown1 hbel1
    obtain ⟨t, p, ht, hp, rfl, hown, hbel⟩ := hrel
    have HP : Hid (p = l.length + t) := hp
    have hp1 : p ≤ l.length + 8 := by omega
    by_cases h8 : t < 8
    · have hp2 : p < l.length + 8 := by omega
      have hll := lentV_length l t ht
      have hce : ∀ q, q < (l.length + 8) * 3 → ∃ u, wr.cell? ⟨w.heap.size, q, none⟩ = some u := fun q hq => by
        rw [hown.cellAt q hq]
        exact ⟨_, List.getElem?_eq_getElem (by rw [vcells_length, hll]; exact hq)⟩
      obtain ⟨u0, hc0⟩ := hce (p * 3) (by omega)
      obtain ⟨u1, hc1⟩ := hce (p * 3 + 1) (by omega)
      obtain ⟨u2, hc2⟩ := hce (p * 3 + 2) (by omega)
      have hf0 := hown.frozenAt (p * 3)
      have hf1 := hown.frozenAt (p * 3 + 1)
      have hf2 := hown.frozenAt (p * 3 + 2)
      have hst := stored3 hown p beyV (by omega)
      rw [hp, lentV_set l t h8, ← hp] at hst
      have HS : Hid _ := hst
      clear hst hown hp hce
      go_wp2
      refine ⟨⟨t + 1, p + 1, by omega, by have := HP.out; omega, by go_num, HS.out, ((hbel.setCell (Nat.le_refl _) _).setCell (Nat.le_refl _) _).setCell (Nat.le_refl _) _⟩, by simp [intOf]; omega⟩
    · have ht8 : t = 8 := by omega
      subst ht8
      have hp3 : ¬ p < l.length + 8 := by omega
      clear hp
      go_wp2
      go_ret
      exact ⟨_, rfl, by simpa using hown, hbel⟩
end Go.Proofs.Ytjidbonhhpkljaa.Ec
