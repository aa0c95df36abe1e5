/- Encode on both sides: what it answers, as a plain function. -/
import Derived.Test.YtjidbonhhpkljaaEcChunkR
set_option linter.unusedVariables false
namespace Go.Proofs.Ytjidbonhhpkljaa.Ec
open Go.RowKit Go.Proofs.Ytjidbonhhpkljaa.Pk Go.Proofs.Ytjidbonhhpkljaa.Pm

/-- A value as it may come in. -/
structure VIn (v : Val) : Prop where
  lo : -9223372036854775808 ≤ v.n
  hi : v.n ≤ 9223372036854775807

theorem size_nil {s : ByteArray} (h : s.toList = []) : s.size = 0 := by
  have h1 : s.toList = s.data.toList := ByteArray.toList_eq s
  rw [h1] at h
  show s.data.size = 0
  rw [← Array.length_toList, h]
  rfl
theorem vok_of_may {x : Val} {k : Int} (h : VIn x) (hm : mayB x k = true) : VOk x := by
  refine ⟨h.lo, h.hi, ?_⟩
  unfold mayB at hm
  split at hm
  · simp at hm; have := size_nil hm.2; omega
  · split at hm
    · simp at hm; have := size_nil hm; omega
    · split at hm
      · simp at hm; have := size_nil hm.2; omega
      · simp at hm; omega

def encOf (l : List Val) (k e : Int) : ByteArray × Int :=
  if 100 < l.length then (⟨#[]⟩, 6) else if hasEncB k e = false then (⟨#[]⟩, 2) else if (l.all fun x => mayB x k) = false then (⟨#[]⟩, 1) else (strOf (columnB k e l), 0)

theorem enc_long {l : List Val} {k e : Int} (h : 100 < l.length) : encOf l k e = (⟨#[]⟩, 6) := by unfold encOf; rw [if_pos h]
theorem enc_opt {l : List Val} {k e : Int} (h : ¬ 100 < l.length) (h2 : hasEncB k e = false) : encOf l k e = (⟨#[]⟩, 2) := by unfold encOf; rw [if_neg h, if_pos h2]
theorem enc_bad {l : List Val} {k e : Int} (h : ¬ 100 < l.length) (h2 : hasEncB k e = true) (j : Nat) (hj : j < l.length) (hm : mayB l[j] k = false) : encOf l k e = (⟨#[]⟩, 1) := by
  unfold encOf
  rw [if_neg h, if_neg (by simp [h2]), if_pos]
  rw [Bool.eq_false_iff]
  intro ha
  have := List.all_eq_true.1 ha _ (List.getElem_mem hj)
  rw [hm] at this
  cases this
theorem enc_ok {l : List Val} {k e : Int} (h : ¬ 100 < l.length) (h2 : hasEncB k e = true) (ha : ∀ j, (hj : j < l.length) → mayB l[j] k = true) : encOf l k e = (strOf (columnB k e l), 0) := by
  unfold encOf
  rw [if_neg h, if_neg (by simp [h2]), if_neg]
  have : (l.all fun x => mayB x k) = true := by
    rw [List.all_eq_true]
    intro x hx
    obtain ⟨j, hj, rfl⟩ := List.getElem_of_mem hx
    exact ha j hj
  simp [this]

theorem enc_kinds {k e : Int} (h : hasEncB k e = true) : (k = 1 ∨ k = 2 ∨ k = 3) ∧ (e = 0 ∨ e = 1 ∨ e = 2 ∨ e = 3) := by
  constructor
  · rcases cases4 k with rfl | rfl | rfl | rfl | ⟨k0, k1, k2, k3⟩
    · simp [hasEncB, isKindB] at h
    · exact .inl rfl
    · exact .inr (.inl rfl)
    · exact .inr (.inr rfl)
    · rw [not_kind k1 k2 k3] at h; cases h
  · rcases cases4 e with rfl | rfl | rfl | rfl | ⟨h0, h1, h2, h3⟩
    · exact .inl rfl
    · exact .inr (.inl rfl)
    · exact .inr (.inr (.inl rfl))
    · exact .inr (.inr (.inr rfl))
    · rw [not_enc h0 h1 h2 h3] at h; cases h

set_option maxRecDepth 100000 in
set_option maxHeartbeats 4000000 in
theorem rEncode_any (lv : Value) (l : List Val) (k e : Int) (w : World) (hm : l.length ≤ maxLen) (hin : ∀ x ∈ l, VIn x) (hvs : VSl w lv l) :
    Calls Try.prog 15 #[lv, .int .i64 k, .int .i64 e] w fun r w' => r = .returned (.tuple #[.string (encOf l k e).1, .int .i64 (encOf l k e).2]) ∧ Below w.heap.size w w' := by
  obtain ⟨ao, b, off, cap, rfl, hr⟩ := hvs
  unfold maxLen at hm
  have HF := fits_any k e
  by_cases h1 : 100 < l.length
  · rw [enc_long h1]
    go_enter Try.func15, Try.ntmps15
    go_wp2
    all_goals go_ret2
    all_goals exact ⟨rfl, Below.refl _ _⟩
  cases h2 : hasEncB k e
  · rw [enc_opt h1 h2]
    rw [h2] at HF
    go_enter Try.func15, Try.ntmps15
    go_wp2_with (go_at_call 40; refine (HF _).mono ?_; rintro e w' ⟨rfl, rfl⟩)
    all_goals go_ret2
    all_goals exact ⟨rfl, Below.refl _ _⟩
  rw [h2] at HF
  obtain ⟨hk, he⟩ := enc_kinds h2
  have HEE : Hid (hasEncB k e = true) := h2
  have HE : Hid (e = 0 ∨ e = 1 ∨ e = 2 ∨ e = 3) := he
  have HK : Hid (k = 1 ∨ k = 2 ∨ k = 3) := hk
  have HIN : Hid (∀ x ∈ l, VIn x) := hin
  have HR : Hid (VRow w ao b off l) := hr
  clear h2 he hk hin hr
  go_enter Try.func15, Try.ntmps15
  go_wp2_with (go_at_call 40; refine (HF _).mono ?_; rintro e w' ⟨rfl, hw'⟩; rw [hw']; clear hw')
  go_loopw [8, 9] (fun ok i wr => ∃ j : Nat, j ≤ l.length ∧ i = .int .i64 j ∧ ok = .bool true ∧ (∀ t, (ht : t < l.length) → t < j → mayB l[t] k = true) ∧ Below w.heap.size w wr) (fun _ i _ => l.length - (intOf i).toNat)
  case atStart => exact ⟨0, Nat.zero_le _, rfl, rfl, fun t _ h => by omega, Below.refl _ _⟩
  case round =>
    obtain ⟨j, hj, rfl, rfl, hall, hbel⟩ := hrel
    have HA : Hid (∀ t, (ht : t < l.length) → t < j → mayB l[t] k = true) := hall
    have HB : Hid (Below w.heap.size w wr) := hbel
    have hsz := hbel.size
    clear hall
    by_cases hlt : j < l.length
    · have hr := HR.out.below hbel
      obtain rfl := hr.addr (by omega)
      have p0 := hr.c0 j hlt
      have p1 := hr.c1 j hlt
      have p2 := hr.c2 j hlt
      have HX : Hid (mayB l[j] k = false → encOf l k e = (⟨#[]⟩, 1)) := fun h => enc_bad h1 HEE.out j hlt h
      have HY : Hid (mayB l[j] k = true → ∀ t, (ht : t < l.length) → t < j + 1 → mayB l[t] k = true) := fun h t ht h2 => by
        by_cases e2 : t = j
        · subst e2; exact h
        · exact HA.out t ht (by omega)
      have HM : Hid (∀ W, Calls Try.prog 41 #[.agg #[.bool l[j].null, .int .i64 l[j].n, .string l[j].s], .int .i64 k] W fun e w' => e = .returned (.bool (mayB l[j] k)) ∧ Below W.heap.size W w') := fun W => may_any l[j] k W HK.out
      clear hr hbel HA HR
      generalize l[j] = x at *
      cases hmb : mayB x k
      · have HX2 : Hid (encOf l k e = (⟨#[]⟩, 1)) := HX.out hmb
        rw [hmb] at HM
        clear HX HY hmb
        go_wp2_with (go_at_call 41; refine (HM.out _).mono ?_; rintro e w1 ⟨rfl, hb1⟩)
        go_ret2
        rw [HX2.out]
        exact ⟨rfl, HB.out.trans (hb1.mono hsz)⟩
      · have HY2 : Hid (∀ t, (ht : t < l.length) → t < j + 1 → mayB l[t] k = true) := HY.out hmb
        rw [hmb] at HM
        clear HX HY hmb
        go_wp2_with (go_at_call 41; refine (HM.out _).mono ?_; rintro e w1 ⟨rfl, hb1⟩)
        go_roundw
        case rel => exact ⟨j + 1, by omega, by go_num, rfl, HY2.out, HB.out.trans (hb1.mono hsz)⟩
        case measure => simp [intOf]; omega
    · have hall : ∀ t, (ht : t < l.length) → mayB l[t] k = true := fun t ht => HA.out t ht (by omega)
      have HP : Hid (encOf l k e = (strOf (columnB k e l), 0)) := enc_ok h1 HEE.out hall
      have hvo : ∀ x ∈ l, VOk x := fun x hx => by
        obtain ⟨t, ht, rfl⟩ := List.getElem_of_mem hx
        exact vok_of_may (HIN.out _ hx) (hall t ht)
      have HCK : Hid (Calls Try.prog 42 #[.slice ao l.length cap, .int .i64 k, .int .i64 e] wr fun r w' => r = .returned (.string (strOf (columnB k e l))) ∧ Below wr.heap.size wr w') :=
        chunk_any _ l k e wr HK.out HE.out hvo (by omega) ⟨ao, b, off, cap, rfl, HR.out.below hbel⟩
      clear HA hall hvo hbel
      go_wp2_with (go_at_call 42; refine HCK.out.mono ?_; rintro e w1 ⟨rfl, hb1⟩)
      go_ret2
      rw [HP.out]
      exact ⟨rfl, HB.out.trans (hb1.mono hsz)⟩

set_option maxRecDepth 100000 in
set_option maxHeartbeats 4000000 in
theorem cEncode_any (lv : Value) (l : List Val) (k e : Int) (w : World) (hm : l.length ≤ maxLen) (hin : ∀ x ∈ l, VIn x) (hvs : VSl w lv l) :
    Calls Try.prog 17 #[lv, .int .i64 k, .int .i64 e] w fun r w' => r = .returned (.tuple #[.string (encOf l k e).1, .int .i64 (encOf l k e).2]) ∧ Below w.heap.size w w' := by
  obtain ⟨ao, b, off, cap, rfl, hr⟩ := hvs
  unfold maxLen at hm
  have HF := checkColumn_any (l.length : Int) k e
  by_cases h1 : 100 < l.length
  · rw [enc_long h1]
    rw [show colE (l.length : Int) k e = 6 from by unfold colE; rw [if_pos (by omega)]] at HF
    go_enter Try.func17, Try.ntmps17
    go_wp2_with (go_at_call 43; refine (HF _).mono ?_; rintro e w' ⟨rfl, rfl⟩)
    all_goals go_ret2
    all_goals exact ⟨rfl, Below.refl _ _⟩
  cases h2 : hasEncB k e
  · rw [enc_opt h1 h2]
    rw [show colE (l.length : Int) k e = 2 from by unfold colE; rw [if_neg (by omega), h2]; rfl] at HF
    go_enter Try.func17, Try.ntmps17
    go_wp2_with (go_at_call 43; refine (HF _).mono ?_; rintro e w' ⟨rfl, rfl⟩)
    all_goals go_ret2
    all_goals exact ⟨rfl, Below.refl _ _⟩
  rw [show colE (l.length : Int) k e = 0 from by unfold colE; rw [if_neg (by omega), h2]; rfl] at HF
  obtain ⟨hk, he⟩ := enc_kinds h2
  have HEE : Hid (hasEncB k e = true) := h2
  have HK : Hid (k = 1 ∨ k = 2 ∨ k = 3) := hk
  have HIN : Hid (∀ x ∈ l, VIn x) := hin
  have HR : Hid (VRow w ao b off l) := hr
  clear h2 he hk hin hr
  go_enter Try.func17, Try.ntmps17
  go_wp2_with (go_at_call 43; refine (HF _).mono ?_; rintro e w' ⟨rfl, hw'⟩; rw [hw']; clear hw')
  go_loopw [21] (fun i wr => ∃ j : Nat, j ≤ l.length ∧ i = .int .i64 j ∧ (∀ t, (ht : t < l.length) → t < j → mayB l[t] k = true) ∧ Below w.heap.size w wr) (fun i _ => l.length - (intOf i).toNat)
  case atStart => exact ⟨0, Nat.zero_le _, rfl, fun t _ h => by omega, Below.refl _ _⟩
  case round =>
    obtain ⟨j, hj, rfl, hall, hbel⟩ := hrel
    have HA : Hid (∀ t, (ht : t < l.length) → t < j → mayB l[t] k = true) := hall
    have HB : Hid (Below w.heap.size w wr) := hbel
    have hsz := hbel.size
    clear hall
    by_cases hlt : j < l.length
    · have hr := HR.out.below hbel
      obtain rfl := hr.addr (by omega)
      have p0 := hr.c0 j hlt
      have p1 := hr.c1 j hlt
      have p2 := hr.c2 j hlt
      have HX : Hid (mayB l[j] k = false → encOf l k e = (⟨#[]⟩, 1)) := fun h => enc_bad h1 HEE.out j hlt h
      have HY : Hid (mayB l[j] k = true → ∀ t, (ht : t < l.length) → t < j + 1 → mayB l[t] k = true) := fun h t ht h2 => by
        by_cases e2 : t = j
        · subst e2; exact h
        · exact HA.out t ht (by omega)
      have HM : Hid (∀ W, Calls Try.prog 44 #[.agg #[.bool l[j].null, .int .i64 l[j].n, .string l[j].s], .int .i64 k] W fun e w' => e = .returned (.bool (mayB l[j] k)) ∧ Below W.heap.size W w') := fun W => mayBe_any l[j] k W HK.out
      clear hr hbel HA HR
      generalize l[j] = x at *
      cases hmb : mayB x k
      · have HX2 : Hid (encOf l k e = (⟨#[]⟩, 1)) := HX.out hmb
        rw [hmb] at HM
        clear HX HY hmb
        go_wp2_with (go_at_call 44; refine (HM.out _).mono ?_; rintro e w1 ⟨rfl, hb1⟩)
        go_ret2
        rw [HX2.out]
        exact ⟨rfl, HB.out.trans ((below_box hb1).mono hsz)⟩
      · have HY2 : Hid (∀ t, (ht : t < l.length) → t < j + 1 → mayB l[t] k = true) := HY.out hmb
        rw [hmb] at HM
        clear HX HY hmb
        go_wp2_with (go_at_call 44; refine (HM.out _).mono ?_; rintro e w1 ⟨rfl, hb1⟩)
        go_roundw
        case rel => exact ⟨j + 1, by omega, by go_num, HY2.out, HB.out.trans ((below_box hb1).mono hsz)⟩
        case measure => simp [intOf]; omega
    · have hall : ∀ t, (ht : t < l.length) → mayB l[t] k = true := fun t ht => HA.out t ht (by omega)
      have HP : Hid (encOf l k e = (strOf (columnB k e l), 0)) := enc_ok h1 HEE.out hall
      have hvo : ∀ x ∈ l, VOk x := fun x hx => by
        obtain ⟨t, ht, rfl⟩ := List.getElem_of_mem hx
        exact vok_of_may (HIN.out _ hx) (hall t ht)
      have HCK : Hid (Calls Try.prog 45 #[.slice none 0 0, .slice ao l.length cap, .int .i64 k, .int .i64 e] wr fun r w' => ∃ u', r = .returned u' ∧ w'.ownsRow wr.heap.size 5 1 u' (columnB k e l).length (bcells (columnB k e l)) ∧ Grew wr w' (.slice none 0 0) u') := by
        have h0 := appendColumn_any (.slice none 0 0) (.slice ao l.length cap) [] l k e wr.heap.size wr HK.out hvo (by omega) (by simp) (Nat.le_refl _) (World.ownsRow_nil _ _ _ _) ⟨ao, b, off, cap, rfl, HR.out.below hbel⟩
        rw [List.nil_append] at h0
        exact h0
      clear HA hall hvo hbel
      go_wp2_with (go_at_call 45; refine HCK.out.mono ?_; rintro e w1 ⟨u1, rfl, ho1, hg1⟩; have hcv := run_string_own ho1 rfl)
      go_ret2
      rw [HP.out]
      exact ⟨rfl, HB.out.trans ((hg1.below (fun g hg => by simp [Value.ownBlock] at hg) (Nat.le_refl _)).mono hsz)⟩
end Go.Proofs.Ytjidbonhhpkljaa.Ec
