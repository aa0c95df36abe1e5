/- Lists of values: rows of the call's own, the place of a value, and values as Plain one behind the other. -/
import Derived.Test.YtjidbonhhpkljaaEcWide
set_option linter.unusedVariables false
namespace Go.Proofs.Ytjidbonhhpkljaa.Ec
open Go.RowKit Go.Proofs.Ytjidbonhhpkljaa.Pk Go.Proofs.Ytjidbonhhpkljaa.Pm

/-- Two rows of the call's own do not lie in the same memory. -/
def Apart (u v : Value) : Prop := u.ownBlock = none ∨ u.ownBlock ≠ v.ownBlock

theorem Apart.symm {u v : Value} (h : Apart u v) : Apart v u := by
  rcases h with h | h
  · cases hv : v.ownBlock with
    | none => exact .inl hv
    | some g => exact .inr (by rw [h, hv]; simp)
  · exact .inr (fun e => h e.symm)
theorem Apart.nil (u : Value) : Apart u (.slice none 0 0) := by
  cases hu : u.ownBlock with
  | none => exact .inl hu
  | some g => exact .inr (by rw [hu]; simp [Value.ownBlock])
theorem kept_grew {w w' : World} {base e size n : Nat} {u v v' : Value} {xs : List Value} (h : w.ownsRow base e size u n xs) (hg : Grew w w' v v') (ha : Apart u v) : w'.ownsRow base e size u n xs :=
  h.kept hg.by_ ha
theorem Apart.grew {w w' : World} {base e size n : Nat} {u v v' : Value} {xs : List Value} (ha : Apart u v) (h : w.ownsRow base e size u n xs) (hg : Grew w w' v v') : Apart u v' := by
  rcases ha with h1 | h1
  · exact .inl h1
  · cases hu : u.ownBlock with
    | none => exact .inl hu
    | some g =>
      right
      intro e
      rw [hu] at e h1
      have hlt := (h.lt g hu).2
      rcases hg.at_ g e.symm with h2 | h2
      · exact h1 h2.symm
      · omega
theorem Apart.new {w : World} {base B e size n : Nat} {e2 size2 n2 : Nat} {u v : Value} {xs ys : List Value} {w' : World} (h : w.ownsRow base e size u n xs) (hn : w'.ownsRow w.heap.size e2 size2 v n2 ys) : Apart u v := by
  cases hu : u.ownBlock with
  | none => exact .inl hu
  | some g =>
    right
    intro e2
    rw [hu] at e2
    have h1 := (h.lt g hu).2
    have h2 := (hn.lt g e2.symm).1
    omega

/-- A slice of values. -/
def VSl (w : World) (v : Value) (l : List Val) : Prop := ∃ ao b off cap, v = .slice ao l.length cap ∧ VRow w ao b off l
theorem VSl.below {w w' : World} {v : Value} {l : List Val} (h : VSl w v l) (hb : Below w.heap.size w w') : VSl w' v l := by
  obtain ⟨ao, b, off, cap, rfl, h⟩ := h
  exact ⟨ao, b, off, cap, rfl, h.below hb⟩

theorem vcells_length (l : List Val) : (vcells l).length = l.length * 3 := by
  induction l with
  | nil => rfl
  | cons x r ih => unfold vcells at ih ⊢; simp at ih ⊢; omega
theorem vcells_cons (x : Val) (r : List Val) : vcells (x :: r) = [.bool x.null, .int .i64 x.n, .string x.s] ++ vcells r := by simp [vcells]
theorem vcells_append (a b : List Val) : vcells (a ++ b) = vcells a ++ vcells b := by simp [vcells]
theorem vcells_one (x : Val) : vcells [x] = [.bool x.null, .int .i64 x.n, .string x.s] := by simp [vcells]
theorem vcells_at (l : List Val) : ∀ (j : Nat) (h : j < l.length), (vcells l)[j * 3]? = some (.bool l[j].null) ∧ (vcells l)[j * 3 + 1]? = some (.int .i64 l[j].n) ∧ (vcells l)[j * 3 + 2]? = some (.string l[j].s) := by
  induction l with
  | nil => intro j h; simp at h
  | cons x r ih =>
    intro j h
    rw [vcells_cons]
    cases j with
    | zero => simp
    | succ j =>
      have := ih j (by simpa using h)
      have e0 : (j + 1) * 3 = j * 3 + 3 := by omega
      rw [e0, List.getElem?_append_right (by simp), List.getElem?_append_right (by simp), List.getElem?_append_right (by simp)]
      simpa [show j * 3 + 3 + 1 - 3 = j * 3 + 1 by omega, show j * 3 + 3 + 2 - 3 = j * 3 + 2 by omega] using this

theorem VSl.of_owns {w : World} {base : Nat} {v : Value} {l : List Val} (h : w.ownsRow base 39 3 v l.length (vcells l)) : VSl w v l := by
  rcases h.2 with ⟨rfl, h0⟩ | ⟨g, cap, cur, rfl, hbg, hgb, hnc, hcm, hcs, htake⟩
  · have : l = [] := List.eq_nil_of_length_eq_zero h0
    subst this
    exact ⟨none, 0, 0, 0, rfl, ⟨fun h => by simp at h, fun h => by simp at h, fun j h => by simp at h, fun j h => by simp at h, fun j h => by simp at h⟩⟩
  · have hc := h.cells (g := g) rfl
    refine ⟨some ⟨g, 0, none⟩, g, 0, cap, rfl, ⟨fun _ => rfl, fun _ => (h.lt g rfl).2, ?_, ?_, ?_⟩⟩
    · intro j hj
      have := hc _ _ (vcells_at l j hj).1
      simpa [Addr.add_lit] using this
    · intro j hj
      have := hc _ _ (vcells_at l j hj).2.1
      simpa [Addr.add_lit] using this
    · intro j hj
      have := hc _ _ (vcells_at l j hj).2.2
      simpa [Addr.add_lit] using this

/-- Where a value stands first. -/
def idx : List Val → Val → Nat
  | [], _ => 0
  | y :: r, x => if veq y x then 0 else idx r x + 1
theorem idx_le (l : List Val) (x : Val) : idx l x ≤ l.length := by
  induction l with
  | nil => simp [idx]
  | cons y r ih => simp only [idx]; split <;> simp <;> omega
theorem idx_before (l : List Val) (x : Val) : ∀ j, (h : j < l.length) → j < idx l x → veq l[j] x = false := by
  induction l with
  | nil => intro j h; simp at h
  | cons y r ih =>
    intro j h hj
    simp only [idx] at hj
    split at hj
    · omega
    · rename_i hy
      cases j with
      | zero => simpa using hy
      | succ j => exact ih j (by simpa using h) (by omega)
theorem idx_at (l : List Val) (x : Val) (h : idx l x < l.length) : l[idx l x] = x := by
  induction l with
  | nil => simp at h
  | cons y r ih =>
    simp only [idx] at h ⊢
    by_cases hy : veq y x = true
    · simp only [hy, if_true]
      exact veq_iff.1 hy
    · simp only [hy] at h ⊢
      exact ih (by simpa using h)

/-- The place, as the document's side tells it. -/
def plc (l : List Val) (x : Val) : Int := if idx l x < l.length then (idx l x : Int) else -1

set_option maxRecDepth 100000 in
set_option maxHeartbeats 2000000 in
theorem place_any (d : List Val) (v : Value) (x : Val) (w : World) (h : VSl w v d) (hd : d.length ≤ 100) :
    Calls Try.prog 102 #[v, .agg #[.bool x.null, .int .i64 x.n, .string x.s]] w fun e w' => e = .returned (.int .i64 (plc d x)) ∧ Below w.heap.size w w' := by
  obtain ⟨ao, b, off, cap, rfl, hr⟩ := h
  have HX : Hid (∀ j, (h : j < d.length) → j < idx d x → veq d[j] x = false) := idx_before d x
  have HI : Hid (∀ h : idx d x < d.length, d[idx d x] = x) := fun h => idx_at d x h
  have hil := idx_le d x
  have HP : Hid (plc d x = if idx d x < d.length then (idx d x : Int) else -1) := rfl
  generalize plc d x = P at *
  generalize idx d x = I at *
  go_enter Try.func102, Try.ntmps102
  go_wp2_with fail
  go_loopw [5] (fun i wr => ∃ k : Nat, k ≤ I ∧ i = .int .i64 k ∧ ∃ n, wr = (w.alloc (.cells #[.bool x.null, .int .i64 x.n, .string x.s] 39)).drewN n) (fun i _ => d.length - (intOf i).toNat)
  case atStart => exact ⟨0, Nat.zero_le _, rfl, 0, rfl⟩
  case round =>
    obtain ⟨k, hk, rfl, n, hwr⟩ := hrel
    have HW : Hid (Below w.heap.size w wr) := by show Below _ _ _; rw [hwr]; exact below_drewN ((Below.refl _ _).alloc (Nat.le_refl _) _) n
    have HWN : Hid (wr = (w.alloc (.cells #[.bool x.null, .int .i64 x.n, .string x.s] 39)).drewN n) := hwr
    have q0 : wr.cell? ⟨w.heap.size, 0, none⟩ = some (.bool x.null) := by rw [hwr]; simp
    have q1 : wr.cell? ⟨w.heap.size, 1, none⟩ = some (.int .i64 x.n) := by rw [hwr]; simp
    have q2 : wr.cell? ⟨w.heap.size, 2, none⟩ = some (.string x.s) := by rw [hwr]; simp
    by_cases hlt : k < d.length
    · have hr2 := hr.below HW.out
      obtain rfl := hr.addr (by omega)
      have p0 := hr2.c0 k hlt
      have p1 := hr2.c1 k hlt
      have p2 := hr2.c2 k hlt
      have hq := fun w => run_eql_val w d[k] x
      have HV : Hid ((k < I → veq d[k] x = false) ∧ (k = I → d[k] = x)) := ⟨fun h => HX.out k hlt h, fun h => by subst h; exact HI.out hlt⟩
      clear hr2 hwr
      generalize d[k] = y at *
      by_cases hI : k < I
      · have hb := HV.out.1 hI
        rw [hb] at hq
        clear hb
        go_wp2_with fail
        go_quiet (fail)
        go_wp2
        go_roundw
        case rel => exact ⟨k + 1, by omega, by go_num, n + nq, by rw [HWN.out]; exact World.drewN_drewN _ _ _⟩
        case measure => simp [intOf]; omega
      · have hkI : k = I := by omega
        have hb : veq y x = true := veq_iff.2 (HV.out.2 hkI)
        have HE : Hid (P = (k : Int)) := by show _ = _; rw [HP.out, if_pos (by omega), hkI]
        rw [hb] at hq
        clear hb hkI hI
        go_wp2_with fail
        go_quiet (fail)
        go_wp2
        go_ret
        exact ⟨by rw [HE.out]; rfl, below_drewN HW.out nq⟩
    · have HE : Hid (P = -1) := by show _ = _; rw [HP.out, if_neg (by omega)]
      clear hwr
      go_wp2
      go_ret
      exact ⟨by rw [HE.out]; rfl, HW.out⟩
end Go.Proofs.Ytjidbonhhpkljaa.Ec
