/- What Unpack answers, as a plain function, and the contract of the document's Unpack. -/
import Derived.Test.YtjidbonhhpkljaaPkNumbers
set_option linter.unusedVariables false
namespace Go.Proofs.Ytjidbonhhpkljaa.Pk
open Go.RowKit Go.Proofs.Ytjidbonhhpkljaa.Pm

theorem bytesOf_strOf (ns : List Nat) (h : ∀ x ∈ ns, x < 256) : bytesOf (strOf ns) = ns := by
  unfold bytesOf strOf strOfNums
  simp only [List.map_map]
  have : ∀ x ∈ ns, (UInt8.toNat ∘ (fun (n : Int) => UInt8.ofNat n.toNat) ∘ fun (n : Nat) => (n : Int)) x = x := by
    intro x hx
    have := h x hx
    simp; omega
  rw [List.map_congr_left this]
  simp

theorem bytesOf_inj {s t : ByteArray} (h : bytesOf s = bytesOf t) : s = t := by
  have h2 : s.data.toList = t.data.toList := by
    unfold bytesOf at h
    exact List.map_inj_right (fun a b hab => UInt8.toNat_inj.1 hab) |>.1 h
  cases s; cases t
  simp at h2
  simp [h2]

theorem toList_inj {s t : ByteArray} (h : s.toList = t.toList) : s = t := by
  have h1 : ∀ u : ByteArray, u.toList = u.data.toList := fun u => ByteArray.toList_eq u
  rw [h1, h1] at h
  cases s; cases t
  simp at h
  simp [h]

/-- Are bytes just those of so many numbers? -/
def unpackOk (s : ByteArray) (wd cn : Nat) : Bool := decide (s.size = (cn * wd + 7) / 8) && decide (V (bytesOf s) < 2 ^ (wd * cn))
theorem unpackOk_iff {s : ByteArray} {wd cn : Nat} : unpackOk s wd cn = true ↔ s.size = (cn * wd + 7) / 8 ∧ V (bytesOf s) < 2 ^ (wd * cn) := by simp [unpackOk]

theorem strOf_eq (s : ByteArray) (wd cn : Nat) : strOf (packBytes wd (D wd (V (bytesOf s)) cn)) = s ↔ unpackOk s wd cn = true := by
  rw [unpackOk_iff]
  constructor
  · intro h
    have h1 := congrArg bytesOf h
    rw [bytesOf_strOf _ (packBytes_lt _ _)] at h1
    have h2 := congrArg List.length h1
    rw [packBytes_length, D_length, bytesOf_length] at h2
    refine ⟨h2.symm, ?_⟩
    have h3 := congrArg V h1
    rw [V_eq_N (packBytes _ _), packBytes, N_D, N_D] at h3
    have h4 : V (bytesOf s) ≤ V (bytesOf s) % 2 ^ (wd * cn) := by
      conv => lhs; rw [← h3]
      exact Nat.mod_le _ _
    exact Nat.lt_of_le_of_lt h4 (Nat.mod_lt _ (Nat.pow_pos (by omega)))
  · rintro ⟨h1, h2⟩
    apply bytesOf_inj
    rw [bytesOf_strOf _ (packBytes_lt _ _)]
    refine V_inj _ _ (packBytes_lt _ _) (bytesOf_lt s) (by rw [packBytes_length, D_length, bytesOf_length, h1]) ?_
    have h3 := V_lt (bytesOf s) (bytesOf_lt s)
    rw [bytesOf_length, h1, pow256] at h3
    rw [V_eq_N (packBytes _ _), packBytes, N_D, N_D, Nat.mod_eq_of_lt h2, D_length, Nat.mod_eq_of_lt h3]

/-- Unpack's answer: the numbers, and the error. -/
def unpackOf (s : ByteArray) (wd cn : Int) : List Int × Int :=
  if cn < 0 ∨ 100 < cn then ([], 6) else if wd < 0 ∨ 16 < wd then ([], 2)
  else if unpackOk s wd.toNat cn.toNat then (intsOf (D wd.toNat (V (bytesOf s)) cn.toNat), 0) else ([], 3)

theorem unpackOf_long {s : ByteArray} {wd cn : Int} (h : cn < 0 ∨ 100 < cn) : unpackOf s wd cn = ([], 6) := by simp [unpackOf, h]
theorem unpackOf_wide {s : ByteArray} {wd cn : Int} (h : ¬ (cn < 0 ∨ 100 < cn)) (h2 : wd < 0 ∨ 16 < wd) : unpackOf s wd cn = ([], 2) := by simp [unpackOf, h, h2]
theorem unpackOf_bad {s : ByteArray} {wd cn : Nat} (h : cn ≤ 100) (h2 : wd ≤ 16) (h3 : unpackOk s wd cn = false) : unpackOf s wd cn = ([], 3) := by
  have h4 : ¬ ((wd : Int) < 0 ∨ 16 < (wd : Int)) := by omega
  have h5 : ¬ ((cn : Int) < 0 ∨ 100 < (cn : Int)) := by omega
  simp [unpackOf, h4, h5, h3]
theorem unpackOf_ok {s : ByteArray} {wd cn : Nat} (h : cn ≤ 100) (h2 : wd ≤ 16) (h3 : unpackOk s wd cn = true) : unpackOf s wd cn = (intsOf (D wd (V (bytesOf s)) cn), 0) := by
  have h4 : ¬ ((wd : Int) < 0 ∨ 16 < (wd : Int)) := by omega
  have h5 : ¬ ((cn : Int) < 0 ∨ 100 < (cn : Int)) := by omega
  simp [unpackOf, h4, h5, h3]

theorem unpackOf_length (s : ByteArray) (wd cn : Int) : (unpackOf s wd cn).1.length ≤ 100 := by
  unfold unpackOf
  split
  · simp
  · split
    · simp
    · split
      · simp [intsOf, D_length]; omega
      · simp

/-- A slice that the call owns, as a walk wants it. -/
theorem owned_ints {w : World} {base : Nat} {v : Value} {zs : List Int} (h : w.ownsRow base 3 1 v zs.length (icells zs)) :
    ∃ ao g cap, v = .slice ao zs.length cap ∧ (0 < zs.length → ao = some ⟨g, 0, none⟩) ∧ (0 < zs.length → g < w.heap.size) ∧ ∀ j, j < zs.length → w.cell? ⟨g, 0 + j, none⟩ = some (.int .i64 (zs.getD j 0)) := by
  rcases h.2 with ⟨h1, h2⟩ | ⟨g, cap, cur, h1, hb, hg, _⟩
  · exact ⟨none, 0, 0, by rw [h1, h2], by omega, by omega, by omega⟩
  · subst h1
    refine ⟨_, g, cap, rfl, fun _ => rfl, fun _ => lt_of_block hg, ?_⟩
    intro j hj
    rw [Nat.zero_add, h.cellAt j (by omega), icells_get zs j hj, getD_get hj]

theorem D_fits (wd v cn : Nat) : fitsW wd (intsOf (D wd v cn)) = true := by
  apply fitsW_all
  intro j hj
  have hj' : j < (D wd v cn).length := by simpa [intsOf] using hj
  have := D_lt wd v cn _ (List.getElem_mem hj')
  simp only [intsOf, List.getElem_map]
  unfold pw
  omega
theorem D_back (wd v cn : Nat) : (intsOf (D wd v cn)).map Int.toNat = D wd v cn := by
  unfold intsOf
  rw [List.map_map]
  conv => rhs; rw [← List.map_id (D wd v cn)]
  apply List.map_congr_left
  intro x _
  simp

set_option maxRecDepth 100000 in
set_option maxHeartbeats 2000000 in
theorem rUnpack_any (s : ByteArray) (wd cn : Int) (w : World) (hm : s.size ≤ maxLen) :
    Calls Try.prog 38 #[.string s, .int .i64 wd, .int .i64 cn] w fun e w' => ∃ v, e = .returned (.tuple #[v, .int .i64 (unpackOf s wd cn).2]) ∧
      w'.ownsRow w.heap.size 3 1 v (unpackOf s wd cn).1.length (icells (unpackOf s wd cn).1) ∧ Below w.heap.size w w' := by
  by_cases h1 : cn < 0 ∨ 100 < cn
  · rw [unpackOf_long h1]
    rcases h1 with h1 | h1
    all_goals
      go_enter Try.func38, Try.ntmps38
      go_wp2
      all_goals go_ret2
      all_goals exact ⟨_, rfl, World.ownsRow_nil _ _ _ _, Below.refl _ _⟩
  by_cases h2 : wd < 0 ∨ 16 < wd
  · rw [unpackOf_wide h1 h2]
    have h3 : 0 ≤ cn := by omega
    have h4 : cn ≤ 100 := by omega
    rcases h2 with h2 | h2
    all_goals
      go_enter Try.func38, Try.ntmps38
      go_wp2
      all_goals go_ret2
      all_goals exact ⟨_, rfl, World.ownsRow_nil _ _ _ _, Below.refl _ _⟩
  obtain ⟨cm, rfl⟩ := Int.eq_ofNat_of_zero_le (show 0 ≤ cn by omega)
  obtain ⟨wm, rfl⟩ := Int.eq_ofNat_of_zero_le (show 0 ≤ wd by omega)
  have h3 : cm ≤ 100 := by omega
  have h4 : wm ≤ 16 := by omega
  clear h1 h2
  have HN := numbers_any s wm cm
  have H := strOf_eq s wm cm
  have hzl : (intsOf (D wm (V (bytesOf s)) cm)).length = cm := by simp [intsOf, D_length]
  have hfit := D_fits wm (V (bytesOf s)) cm
  have hbk := D_back wm (V (bytesOf s)) cm
  have HO : Hid (unpackOk s wm cm = true → unpackOf s wm cm = (intsOf (D wm (V (bytesOf s)) cm), 0)) := unpackOf_ok h3 h4
  have HX : Hid (unpackOk s wm cm = false → unpackOf s wm cm = ([], 3)) := unpackOf_bad h3 h4
  generalize hzs : intsOf (D wm (V (bytesOf s)) cm) = zs at *
  have HFIT : Hid (fitsW wm zs = true) := hfit
  have HH : Hid (strOf (packBytes wm (zs.map Int.toNat)) = s ↔ unpackOk s wm cm = true) := by rw [hbk]; exact H
  have HZL : Hid (zs.length = cm) := hzl
  clear hfit hbk H hzl hzs
  have HN2 : Hid (∀ w, Calls Try.prog 67 #[.string s, .int .i64 wm, .int .i64 cm] w fun e w' => ∃ v, e = .returned v ∧ w'.ownsRow w.heap.size 3 1 v zs.length (icells zs) ∧ Below w.heap.size w w') := by
    intro w
    rw [HZL.out]
    exact HN w hm h4 h3
  clear HN
  have hzl : ¬ 100 < zs.length := by rw [HZL.out]; omega
  by_cases hok : unpackOk s wm cm = true
  · have hts : ((strOf (packBytes wm (zs.map Int.toNat))).toList == s.toList) = true := by rw [HH.out.2 hok]; simp
    have HO2 : Hid (unpackOf s wm cm = (zs, 0)) := HO.out hok
    clear HO HX HH hok
    go_enter Try.func38, Try.ntmps38
    go_wp2_with (first
      | (go_at_call 67; refine (HN2.out _).mono ?_; rintro e w1 ⟨v, rfl, hown, hbel⟩; obtain ⟨ao, g, cap, rfl, hs, hb, hc⟩ := owned_ints hown)
      | (go_at_call 35; refine (bits_ints zs wm ao g 0 cap _ h4 hzl HFIT.out hs hb hc).mono ?_; rintro e w2 ⟨rfl, hbel2⟩; clear hs hb hc))
    go_ret2
    rw [HO2.out]
    exact ⟨_, rfl, ownsRow_below hown hbel2, hbel.trans (hbel2.mono hbel.size)⟩
  · have hok2 : unpackOk s wm cm = false := by simpa using hok
    have hts : ((strOf (packBytes wm (zs.map Int.toNat))).toList == s.toList) = false := by
      rw [beq_eq_false_iff_ne]; intro h; exact hok (HH.out.1 (toList_inj h))
    have HX2 : Hid (unpackOf s wm cm = ([], 3)) := HX.out hok2
    clear HO HX HH hok hok2
    go_enter Try.func38, Try.ntmps38
    go_wp2_with (first
      | (go_at_call 67; refine (HN2.out _).mono ?_; rintro e w1 ⟨v, rfl, hown, hbel⟩; obtain ⟨ao, g, cap, rfl, hs, hb, hc⟩ := owned_ints hown)
      | (go_at_call 35; refine (bits_ints zs wm ao g 0 cap _ h4 hzl HFIT.out hs hb hc).mono ?_; rintro e w2 ⟨rfl, hbel2⟩; clear hs hb hc))
    go_ret2
    rw [HX2.out]
    exact ⟨_, rfl, World.ownsRow_nil _ _ _ _, hbel.trans (hbel2.mono hbel.size)⟩
end Go.Proofs.Ytjidbonhhpkljaa.Pk
