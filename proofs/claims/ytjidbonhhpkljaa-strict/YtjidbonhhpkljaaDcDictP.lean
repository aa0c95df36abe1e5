/- Dictionaries and whole columns, read: as plain mathematics. -/
import Derived.Test.YtjidbonhhpkljaaDcSeq
import Derived.Test.YtjidbonhhpkljaaPkRead
set_option linter.unusedVariables false
namespace Go.Proofs.Ytjidbonhhpkljaa.Ec
open Go.RowKit Go.Proofs.Ytjidbonhhpkljaa.Pk Go.Proofs.Ytjidbonhhpkljaa.Pm

theorem N_inj (w : Nat) : ∀ (a b : List Nat), (∀ x ∈ a, x < 2 ^ w) → (∀ x ∈ b, x < 2 ^ w) → a.length = b.length → N w a = N w b → a = b := by
  intro a
  induction a with
  | nil => intro b _ _ hl _; exact (List.length_eq_zero_iff.1 (by simpa using hl.symm)).symm
  | cons x r ih =>
    intro b ha hb hl h
    cases b with
    | nil => simp at hl
    | cons y t =>
      simp only [N] at h
      have hx := ha x (by simp)
      have hy := hb y (by simp)
      have h1 : x = y := by
        have := congrArg (· % 2 ^ w) h
        simpa [Nat.add_mul_mod_self_left, Nat.mod_eq_of_lt hx, Nat.mod_eq_of_lt hy] using this
      subst h1
      have h2 : N w r = N w t := Nat.eq_of_mul_eq_mul_left (Nat.pow_pos (n := w) (show 0 < 2 by omega)) (by omega)
      rw [ih t (fun z hz => ha z (by simp [hz])) (fun z hz => hb z (by simp [hz])) (by simpa using hl) h2]

theorem rest_take (s : ByteArray) (p nb : Nat) : V (((bytesOf s).drop p).take nb) = restV s p % 2 ^ (8 * nb) := by
  rw [V_take _ _ (fun x hx => bytesOf_lt s x (List.mem_of_mem_drop hx)), pow256]
  rfl
theorem held_zero (v wd nb cn : Nat) : heldOf v wd nb cn = 0 ↔ v % 2 ^ (8 * nb) < 2 ^ (wd * cn) := by
  unfold heldOf
  rw [Nat.div_eq_zero_iff]
  have := Nat.pow_pos (n := wd * cn) (show 0 < 2 by omega)
  omega
theorem fill_le (wd cn : Nat) : wd * cn ≤ 8 * ((cn * wd + 7) / 8) := by rw [Nat.mul_comm wd cn]; omega

theorem packed_starts (s : ByteArray) (p wd cn : Nat) (hp : p ≤ s.size) (h : readOk s p wd cn) : Starts (bytesOf s) p (packBytes wd (D wd (restV s p) cn)) := by
  obtain ⟨h1, h2⟩ := h
  rw [held_zero] at h2
  have hl : (((bytesOf s).drop p).take ((cn * wd + 7) / 8)).length = (cn * wd + 7) / 8 := by
    rw [List.length_take, List.length_drop, bytesOf_length]; omega
  have := packBytes_of wd (D wd (restV s p) cn) (((bytesOf s).drop p).take ((cn * wd + 7) / 8)) (by rw [hl, D_length]) (fun x hx => bytesOf_lt s x (List.mem_of_mem_drop (List.mem_of_mem_take hx))) (by
    rw [rest_take, N_D, ← Nat.mod_mod_of_dvd (restV s p) (Nat.pow_dvd_pow 2 (fill_le wd cn)), Nat.mod_eq_of_lt h2])
  rw [← this]
  exact List.take_prefix _ _
theorem packed_reads (s : ByteArray) (p wd : Nat) (ps : List Nat) (hp : p ≤ s.size) (hlt : ∀ x ∈ ps, x < 2 ^ wd) (h : Starts (bytesOf s) p (packBytes wd ps)) : readOk s p wd ps.length ∧ D wd (restV s p) ps.length = ps := by
  have hlen := starts_len h (by rw [bytesOf_length]; exact hp)
  rw [packBytes_length, bytesOf_length] at hlen
  have ht : ((bytesOf s).drop p).take ((ps.length * wd + 7) / 8) = packBytes wd ps := by
    obtain ⟨t, ht⟩ := h
    rw [← ht, ← packBytes_length wd ps]
    simp
  have hv := rest_take s p ((ps.length * wd + 7) / 8)
  rw [ht] at hv
  have hN := N_lt wd ps hlt
  have hV : V (packBytes wd ps) = N wd ps := by
    rw [V_eq_N, packBytes, N_D, Nat.mod_eq_of_lt]
    exact Nat.lt_of_lt_of_le hN (Nat.pow_le_pow_right (by omega) (fill_le wd ps.length))
  rw [hV] at hv
  refine ⟨⟨hlen, ?_⟩, ?_⟩
  · rw [held_zero, ← hv]; exact hN
  · refine N_inj wd _ _ (D_lt _ _ _) hlt (D_length _ _ _) ?_
    rw [N_D, ← Nat.mod_mod_of_dvd (restV s p) (Nat.pow_dvd_pow 2 (fill_le wd ps.length)), ← hv, Nat.mod_eq_of_lt hN]

/-- How many places are known behind these, if each new one is the next. -/
def chk : Nat → List Nat → Option Nat
  | s, [] => some s
  | s, q :: r => if q < s then chk s r else if q = s then chk (s + 1) r else none
theorem chk_append (s : Nat) (a b : List Nat) : chk s (a ++ b) = (chk s a).bind (fun t => chk t b) := by
  induction a generalizing s with
  | nil => rfl
  | cons q r ih =>
    simp only [List.cons_append, chk]
    split
    · exact ih s
    · split
      · exact ih _
      · rfl
theorem chk_mono {s t : Nat} {l : List Nat} (h : chk s l = some t) : s ≤ t := by
  induction l generalizing s with
  | nil => simp [chk] at h; omega
  | cons q r ih =>
    simp only [chk] at h
    split at h
    · exact ih h
    · split at h
      · have := ih h; omega
      · cases h
theorem chk_lt {s t : Nat} {l : List Nat} (h : chk s l = some t) : ∀ q ∈ l, q < t := by
  induction l generalizing s with
  | nil => simp
  | cons q r ih =>
    intro x hx
    simp only [chk] at h
    split at h
    · rename_i hq
      have := chk_mono h
      rcases List.mem_cons.1 hx with rfl | hx
      · omega
      · exact ih h x hx
    · split at h
      · have := chk_mono h
        rcases List.mem_cons.1 hx with rfl | hx
        · omega
        · exact ih h x hx
      · cases h
theorem chk_take_succ (l : List Nat) (k : Nat) (hk : k < l.length) {t : Nat} (h : chk 0 (l.take k) = some t) : chk 0 (l.take (k + 1)) = if l[k] < t then some t else if l[k] = t then some (t + 1) else none := by
  rw [List.take_succ_eq_append_getElem hk, chk_append, h]
  rfl
theorem chk_split (l : List Nat) (k : Nat) : chk 0 l = (chk 0 (l.take k)).bind (fun t => chk t (l.drop k)) := by
  rw [← chk_append, List.take_append_drop]

theorem idx_mem (d : List Val) (v : Val) : idx d v < d.length ↔ v ∈ d := by
  constructor
  · intro h
    rw [← idx_at d v h]
    exact List.getElem_mem h
  · intro h
    obtain ⟨j, hj, rfl⟩ := List.getElem_of_mem h
    have := idx_before d d[j] j hj
    have hv : veq d[j] d[j] = true := veq_iff.2 rfl
    by_cases h2 : j < idx d d[j]
    · rw [this h2] at hv; cases hv
    · omega
theorem nodup_inj {d : List Val} (hd : d.Nodup) {i j : Nat} (hi : i < d.length) (hj : j < d.length) (h : d[i] = d[j]) : i = j := by
  have hp := List.pairwise_iff_getElem.1 hd
  rcases Nat.lt_trichotomy i j with h1 | h1 | h1
  · exact absurd h (hp i j hi hj h1)
  · exact h1
  · exact absurd h.symm (hp j i hj hi h1)
theorem idx_nodup (d : List Val) (hd : d.Nodup) (j : Nat) (hj : j < d.length) : idx d d[j] = j := by
  have h1 : idx d d[j] < d.length := (idx_mem d _).2 (List.getElem_mem hj)
  have h2 := idx_at d d[j] h1
  exact nodup_inj hd _ _ h2

theorem dfold_snoc (l : List Val) (v : Val) : dfold (l ++ [v]) = dstep (dfold l) v := by
  unfold dfold
  rw [List.foldl_append]
  rfl

/-- What a dictionary's entries and places speak of is written just so. -/
theorem dfold_of (d : List Val) (hd : d.Nodup) (z : Val) (ps : List Nat) : ∀ k t, k ≤ ps.length → chk 0 (ps.take k) = some t → t ≤ d.length → dfold ((ps.take k).map (fun q => d.getD q z)) = (d.take t, ps.take k) := by
  intro k
  induction k with
  | zero => intro t _ h _; simp [chk] at h; subst h; simp [dfold]
  | succ k ih =>
    intro t hk h ht
    have hk2 : k < ps.length := by omega
    rw [chk_split (ps.take (k + 1)) k, List.take_take, Nat.min_eq_left (by omega)] at h
    cases hc : chk 0 (ps.take k) with
    | none => rw [hc] at h; cases h
    | some t0 =>
      rw [hc] at h
      have hd1 : (ps.take (k + 1)).drop k = [ps[k]] := by
        rw [List.take_succ_eq_append_getElem hk2, List.drop_append_of_le_length (by rw [List.length_take]; omega)]
        simp
      simp only [Option.bind_some, hd1, chk] at h
      rw [List.take_succ_eq_append_getElem hk2, List.map_append, List.map_singleton, dfold_snoc]
      by_cases h1 : ps[k] < t0
      · rw [if_pos h1] at h
        cases h
        rw [ih t (by omega) hc ht]
        have hq : ps[k] < d.length := by omega
        have hg : d.getD ps[k] z = d[ps[k]] := by simp [List.getD, hq]
        have hm : idx (d.take t) d[ps[k]] = ps[k] := by
          have hl : ps[k] < (d.take t).length := by rw [List.length_take]; omega
          have := idx_nodup (d.take t) (hd.sublist (List.take_sublist _ _)) ps[k] hl
          rwa [List.getElem_take] at this
        unfold dstep ins
        rw [hg, hm, if_pos (by rw [List.length_take]; omega), hm]
      · rw [if_neg h1] at h
        by_cases h2 : ps[k] = t0
        · rw [if_pos h2] at h
          cases h
          rw [ih t0 (by omega) hc (by omega)]
          have hq : t0 < d.length := by omega
          have hg : d.getD ps[k] z = d[t0] := by simp [List.getD, h2, hq]
          have hl : (d.take t0).length = t0 := by rw [List.length_take]; omega
          have hn : ¬ idx (d.take t0) d[t0] < (d.take t0).length := by
            rw [idx_mem]
            intro hm
            obtain ⟨j, hj, e⟩ := List.getElem_of_mem hm
            rw [List.getElem_take] at e
            have := nodup_inj hd _ _ e
            omega
          have hi : ins (d.take t0) d[t0] = d.take (t0 + 1) := by
            unfold ins
            rw [if_neg hn, List.take_succ_eq_append_getElem hq]
          have h3 := idx_ins (d.take t0) d[t0]
          unfold dstep
          simp only
          rw [hg, hi]
          rw [hi] at h3
          rw [h3.1, h3.2.2 hn, hl, h2]
        · rw [if_neg h2] at h; cases h

theorem dfold_facts (l : List Val) (z : Val) : (dfold l).1.Nodup ∧ chk 0 (dfold l).2 = some (dfold l).1.length ∧ (dfold l).2.map (fun q => (dfold l).1.getD q z) = l := by
  have key : ∀ k, k ≤ l.length → (dfold (l.take k)).1.Nodup ∧ chk 0 (dfold (l.take k)).2 = some (dfold (l.take k)).1.length ∧ (dfold (l.take k)).2.map (fun q => (dfold (l.take k)).1.getD q z) = l.take k := by
    intro k
    induction k with
    | zero => intro _; simp [dfold, chk]
    | succ k ih =>
      intro hk
      obtain ⟨h1, h2, h3⟩ := ih (by omega)
      have hk2 : k < l.length := by omega
      have hlt := chk_lt h2
      rw [dfold_succ l k hk2]
      generalize dfold (l.take k) = S at *
      have h4 := idx_ins S.1 l[k]
      unfold dstep
      by_cases hin : idx S.1 l[k] < S.1.length
      · have hi : ins S.1 l[k] = S.1 := by unfold ins; rw [if_pos hin]
        rw [hi]
        refine ⟨h1, ?_, ?_⟩
        · rw [chk_append, h2]; simp [chk, hin]
        · rw [List.map_append, h3, List.take_succ_eq_append_getElem hk2]
          congr 1
          simp [List.getD, hin, idx_at S.1 l[k] hin]
      · have hi : ins S.1 l[k] = S.1 ++ [l[k]] := by unfold ins; rw [if_neg hin]
        rw [hi] at h4 ⊢
        rw [h4.1, h4.2.2 hin]
        refine ⟨?_, ?_, ?_⟩
        · rw [List.nodup_append]
          refine ⟨h1, by simp, ?_⟩
          intro a ha b hb e
          simp at hb
          subst hb
          subst e
          exact hin ((idx_mem _ _).2 ha)
        · rw [chk_append, h2]; simp [chk]
        · rw [List.map_append, List.take_succ_eq_append_getElem hk2]
          congr 1
          · rw [← h3]
            apply List.map_congr_left
            intro q hq
            have := hlt q hq
            simp [List.getD, List.getElem?_append_left this]
          · simp
  have := key l.length (Nat.le_refl _)
  rwa [List.take_length] at this

/-- A dictionary that was read, piece by piece. -/
theorem dict_good {k : Int} (hk : k = 1 ∨ k = 2 ∨ k = 3) {s : ByteArray} {p cn n : Nat} {d : List Val} {ps : List Nat} (z : Val) (hcn : cn ≤ 100) (hn : n ≤ cn) (hdl : d.length = n) (hdk : ∀ x ∈ d, VK k x) (hd : d.Nodup) (hpl : ps.length = cn)
    (hc : chk 0 ps = some n) (s1 : Starts (bytesOf s) p (vint n)) (s2 : Starts (bytesOf s) (p + (vint n).length) (plainsB k d)) (s3 : Starts (bytesOf s) (p + (vint n).length + (plainsB k d).length) (packBytes (wid n) ps))
    (u2 : ∀ D : List Val, D.length = n → (∀ x ∈ D, VK k x) → Starts (bytesOf s) (p + (vint n).length) (plainsB k D) → D = d) (hp3 : p + (vint n).length + (plainsB k d).length ≤ s.size) :
    (ps.map fun q => d.getD q z).length = cn ∧ (∀ x ∈ ps.map fun q => d.getD q z, VK k x) ∧ dictB k (ps.map fun q => d.getD q z) = vint n ++ (plainsB k d ++ packBytes (wid n) ps) ∧ Starts (bytesOf s) p (dictB k (ps.map fun q => d.getD q z)) ∧
      ∀ L : List Val, L.length = cn → (∀ x ∈ L, VK k x) → Starts (bytesOf s) p (dictB k L) → L = ps.map fun q => d.getD q z := by
  have hf : dfold (ps.map fun q => d.getD q z) = (d, ps) := by
    have := dfold_of d hd z ps ps.length n (Nat.le_refl _) (by rw [List.take_length]; exact hc) (by omega)
    rw [List.take_length, List.take_of_length_le (by omega : d.length ≤ n)] at this
    exact this
  have hB : dictB k (ps.map fun q => d.getD q z) = vint n ++ (plainsB k d ++ packBytes (wid n) ps) := by
    unfold dictB
    rw [hf, hdl]
  refine ⟨by simp [hpl], ?_, hB, ?_, ?_⟩
  · intro x hx
    obtain ⟨q, hq, rfl⟩ := List.mem_map.1 hx
    have hq2 := chk_lt hc q hq
    have hq3 : q < d.length := by omega
    simp only [List.getD, hq3, List.getElem?_eq_getElem, Option.getD_some]
    exact hdk _ (List.getElem_mem hq3)
  · rw [hB, starts_append, starts_append]; exact ⟨s1, s2, s3⟩
  · intro L hL hok hs
    obtain ⟨f1, f2, f3⟩ := dfold_facts L z
    obtain ⟨g1, g2, g3, g4⟩ := dfold_ok L L.length (Nat.le_refl _)
    rw [List.take_length] at g1 g2 g3 g4
    unfold dictB at hs
    rw [starts_append, starts_append] at hs
    obtain ⟨t1, t2, t3⟩ := hs
    have e1 : (dfold L).1.length = n := vint_one (by omega) (by omega) t1 s1
    rw [e1] at t2 t3
    have e2 : (dfold L).1 = d := u2 _ e1 (fun x hx => hok x (g4 x hx)) t2
    rw [e2] at t3
    have hfit : ∀ (l : List Nat), (∀ x ∈ l, x < n) → ∀ x ∈ l, x < 2 ^ wid n := fun l h x hx => wid_fits n (by omega) x (h x hx)
    have r1 := (packed_reads s _ (wid n) (dfold L).2 hp3 (hfit _ (fun x hx => by have := g3 x hx; omega)) t3).2
    have r2 := (packed_reads s _ (wid n) ps hp3 (hfit _ (fun x hx => chk_lt hc x hx)) s3).2
    rw [g2, hL] at r1
    rw [hpl] at r2
    rw [r2] at r1
    rw [e2, ← r1] at f3
    exact f3.symm

/-- A value of a column. -/
def VC (k : Int) (v : Val) : Prop := (v.null = true ∧ v.n = 0 ∧ v.s = ⟨#[]⟩) ∨ VK k v
theorem vc_of_may {k : Int} {v : Val} (hk : k = 1 ∨ k = 2 ∨ k = 3) (h : VIn v) (hm : mayB v k = true) : VC k v := by
  cases hn : v.null with
  | true =>
    unfold mayB at hm
    rw [hn] at hm
    simp at hm
    exact .inl ⟨hn, hm.1, nil_of_toList hm.2⟩
  | false => exact .inr (vk_of_may hk hn h hm)
theorem VC.may {k : Int} {v : Val} (hk : k = 1 ∨ k = 2 ∨ k = 3) (h : VC k v) : mayB v k = true := by
  rcases h with ⟨h1, h2, h3⟩ | h
  · unfold mayB
    rw [h1, h2, h3]
    simp [ByteArray.toList_eq]
  · exact may_of_vk hk h
theorem VC.vin {k : Int} {v : Val} (h : VC k v) : VIn v := by
  rcases h with ⟨h1, h2, h3⟩ | h
  · exact ⟨by omega, by omega⟩
  · exact ⟨h.lo, h.hi⟩
theorem there_vk {k : Int} {l : List Val} (h : ∀ x ∈ l, VC k x) : ∀ x ∈ there l, VK k x := by
  intro x hx
  unfold there at hx
  rw [List.mem_filter] at hx
  rcases h x hx.1 with ⟨h1, _⟩ | h
  · rw [h1] at hx; simp at hx
  · exact h

/-- A column is what its levels and its values make it. -/
theorem mix_one {k : Int} : ∀ (a b : List Val), (∀ x ∈ a, VC k x) → (∀ x ∈ b, VC k x) → a.map lev = b.map lev → there a = there b → a = b := by
  intro a
  induction a with
  | nil => intro b _ _ h _; simp at h; exact h.symm
  | cons x r ih =>
    intro b ha hb h1 h2
    cases b with
    | nil => simp at h1
    | cons y t =>
      simp only [List.map_cons, List.cons.injEq] at h1
      have hxy : x.null = y.null := by
        have := h1.1
        unfold lev at this
        cases hx : x.null <;> cases hy : y.null <;> simp [hx, hy] at this <;> rfl
      have hr := fun h => ih t (fun z hz => ha z (by simp [hz])) (fun z hz => hb z (by simp [hz])) h1.2 h
      cases hx : x.null with
      | true =>
        have hy : y.null = true := by rw [← hxy]; exact hx
        have h3 : there r = there t := by simpa [there, hx, hy] using h2
        rw [hr h3]
        congr 1
        rcases ha x (by simp) with ⟨a1, a2, a3⟩ | a
        · rcases hb y (by simp) with ⟨b1, b2, b3⟩ | b
          · cases x; cases y
            simp at a1 a2 a3 b1 b2 b3
            simp [a1, a2, a3, b1, b2, b3]
          · rw [b.there] at hy; cases hy
        · rw [a.there] at hx; cases hx
      | false =>
        have hy : y.null = false := by rw [← hxy]; exact hx
        have h3 : x = y ∧ there r = there t := by simpa [there, hx, hy] using h2
        rw [h3.1, hr h3.2]

def ones (zs : List Int) : Nat := (zs.filter fun z => z != 0).length
theorem there_ones (l : List Val) : (there l).length = ones (l.map lev) := by
  unfold there ones
  induction l with
  | nil => rfl
  | cons x r ih =>
    cases hx : x.null with
    | true => simp [hx, lev] ; simpa [lev] using ih
    | false => simp [hx, lev]; simpa [lev] using ih
theorem lev_bits (l : List Val) : Bits (l.map lev) := by
  intro z hz
  obtain ⟨x, _, rfl⟩ := List.mem_map.1 hz
  unfold lev
  split
  · exact .inl rfl
  · exact .inr rfl

/-- A column that was read, piece by piece. -/
theorem column_good {k e : Int} {s : ByteArray} {p cn : Nat} {l : List Val} (hl : l.length = cn) (hlc : ∀ x ∈ l, VC k x)
    (s1 : Starts (bytesOf s) p (runsB (l.map lev))) (u1 : ∀ L : List Int, L.length = cn → Bits L → Starts (bytesOf s) p (runsB L) → L = l.map lev)
    (s2 : Starts (bytesOf s) (p + (runsB (l.map lev)).length) (codedB k e (there l))) (u2 : ∀ L : List Val, L.length = ones (l.map lev) → (∀ x ∈ L, VK k x) → Starts (bytesOf s) (p + (runsB (l.map lev)).length) (codedB k e L) → L = there l) :
    Starts (bytesOf s) p (columnB k e l) ∧ ∀ L : List Val, L.length = cn → (∀ x ∈ L, VC k x) → Starts (bytesOf s) p (columnB k e L) → L = l := by
  refine ⟨by unfold columnB; rw [starts_append]; exact ⟨s1, s2⟩, ?_⟩
  intro L hL hok hs
  unfold columnB at hs
  rw [starts_append] at hs
  have e1 := u1 (L.map lev) (by simpa using hL) (lev_bits L) hs.1
  rw [e1] at hs
  have e2 := u2 (there L) (by rw [there_ones, e1]) (there_vk hok) hs.2
  exact mix_one L l hok hlc e1 e2
end Go.Proofs.Ytjidbonhhpkljaa.Ec
