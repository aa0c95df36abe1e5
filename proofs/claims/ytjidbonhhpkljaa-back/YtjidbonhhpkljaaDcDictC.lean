/- The contracts of the code's readEntries, checkPlaces and readDict. -/
import Derived.Test.YtjidbonhhpkljaaDcListC
set_option linter.unusedVariables false
namespace Go.Proofs.Ytjidbonhhpkljaa.Ec
open Go.RowKit Go.Proofs.Ytjidbonhhpkljaa.Pk Go.Proofs.Ytjidbonhhpkljaa.Pm

theorem chk_none_of {ps : List Nat} {k : Nat} (h : chk 0 (ps.take k) = none) : chk 0 ps = none := by rw [chk_split ps k, h]; rfl
theorem chk_far {ps : List Nat} {k t n : Nat} (h : chk 0 (ps.take k) = some t) (ht : n < t) : chk 0 ps ≠ some n := by
  rw [chk_split ps k, h]
  intro e
  have := chk_mono (show chk t (ps.drop k) = some n from e)
  omega

set_option maxRecDepth 100000 in
set_option maxHeartbeats 4000000 in
theorem checkPlaces_any (s : ByteArray) (r p n : Nat) (lv : Value) (ps : List Nat) (w : World) (hn : n ≤ 100) (hl : ps.length ≤ 100) (hpb : ∀ q ∈ ps, q < 65536) (hvs : ISl w lv (intsOf ps)) (h : w.heap[r]? = some (rdr s p)) :
    Calls Try.prog 144 #[.pointer (some ⟨r, 0, none⟩), lv, .int .i64 n] w fun e w' => w' = w ∧ ((e = .returned (.tuple #[]) ∧ chk 0 ps = some n) ∨ (∃ q, e = .panicked (badAt q) ∧ chk 0 ps ≠ some n)) := by
  have HR : Hid (w.heap[r]? = some (rdr s p)) := h
  obtain ⟨ao, b, off, cap, rfl, h1, h2, h3⟩ := hvs
  have hil : (intsOf ps).length = ps.length := by simp [intsOf]
  rw [hil] at h1 h2 ⊢
  have H3 : Hid (∀ j, (hj : j < ps.length) → w.cell? ⟨b, off + j, none⟩ = some (.int .i64 (ps[j] : Int))) := fun j hj => by
    have := h3 j (by rw [hil]; exact hj)
    rw [getD_get (by rw [hil]; exact hj)] at this
    simpa [intsOf] using this
  clear h3 h hil
  go_enter Try.func144, Try.ntmps144
  go_wp2_with fail
  go_loopw [6, 11] (fun sv i wr => ∃ k t : Nat, k ≤ ps.length ∧ i = .int .i64 (k : Int) ∧ sv = .int .i64 (t : Int) ∧ t ≤ n ∧ chk 0 (ps.take k) = some t ∧ wr = w) (fun _ i _ => ps.length - (intOf i).toNat)
  case atStart => exact ⟨0, 0, Nat.zero_le _, rfl, rfl, Nat.zero_le _, rfl, rfl⟩
  case round =>
    obtain ⟨k, t, hk, rfl, rfl, ht, hck, rfl⟩ := hrel
    have HCK : Hid (chk 0 (ps.take k) = some t) := hck
    clear hck
    by_cases hlt : k < ps.length
    · obtain rfl := h1 (by omega)
      have hcl := H3.out k hlt
      have HSU : Hid (chk 0 (ps.take (k + 1)) = if ps[k] < t then some t else if ps[k] = t then some (t + 1) else none) := chk_take_succ ps k hlt HCK.out
      have hqb := hpb _ (List.getElem_mem hlt)
      generalize ps[k] = q at *
      by_cases hbad : t < q ∨ n ≤ q
      · have HNO : Hid (chk 0 ps ≠ some n) := by
          by_cases h5 : t < q
          · have h6 := HSU.out
            rw [if_neg (by omega), if_neg (by omega)] at h6
            show _ ≠ _
            rw [chk_none_of h6]
            simp
          · have h6 := HSU.out
            rw [if_neg (by omega), if_pos (by omega)] at h6
            exact chk_far h6 (by omega)
        go_wp2_with (go_at_call 84; refine (giveUp_any r p s _ HR.out).mono ?_; rintro e w' ⟨rfl, rfl⟩)
        all_goals exact ⟨rfl, rfl, .inr ⟨_, rfl, HNO.out⟩⟩
      · by_cases hq : q = t
        · subst hq
          have HS2 : Hid (chk 0 (ps.take (k + 1)) = some (q + 1)) := by
            have h6 := HSU.out
            rw [if_neg (by omega), if_pos rfl] at h6
            exact h6
          go_wp2
          go_roundw
          case rel => exact ⟨k + 1, q + 1, by omega, by go_num, by go_num, by omega, HS2.out, by trivial⟩
          case measure => simp [intOf]; omega
        · have HS2 : Hid (chk 0 (ps.take (k + 1)) = some t) := by
            have h6 := HSU.out
            rw [if_pos (by omega)] at h6
            exact h6
          have hne : ((q : Int) == (t : Int)) = false := by simp; omega
          go_wp2
          go_roundw
          case rel => exact ⟨k + 1, t, by omega, by go_num, rfl, ht, HS2.out, by trivial⟩
          case measure => simp [intOf]; omega
    · obtain rfl : k = ps.length := by omega
      have hck := HCK.out
      rw [List.take_length] at hck
      have HC : Hid (chk 0 ps = some t) := hck
      clear hck HCK
      by_cases htn : t < n
      · have HNO : Hid (chk 0 ps ≠ some n) := by
          show _ ≠ _
          rw [HC.out]
          simp
          omega
        go_wp2_with (go_at_call 84; refine (giveUp_any r p s _ HR.out).mono ?_; rintro e w' ⟨rfl, rfl⟩)
        exact ⟨rfl, rfl, .inr ⟨_, rfl, HNO.out⟩⟩
      · obtain rfl : t = n := by omega
        go_wp2
        go_end0
        exact ⟨rfl, .inl ⟨rfl, HC.out⟩⟩

/-- What a list that is written as a dictionary has there. -/
theorem dict_parts {k : Int} {s : ByteArray} {p cn : Nat} {L : List Val} (hcn : cn ≤ 100) (hL : L.length = cn) (hok : ∀ x ∈ L, VK k x) (hs : Starts (bytesOf s) p (dictB k L)) :
    ∃ (d : List Val) (ps : List Nat), d.length ≤ cn ∧ (∀ x ∈ d, VK k x) ∧ d.Nodup ∧ ps.length = cn ∧ chk 0 ps = some d.length ∧ Starts (bytesOf s) p (vint d.length) ∧ Starts (bytesOf s) (p + (vint d.length).length) (plainsB k d) ∧
      Starts (bytesOf s) (p + (vint d.length).length + (plainsB k d).length) (packBytes (wid d.length) ps) := by
  obtain ⟨f1, f2, f3⟩ := dfold_facts L ⟨false, 0, ⟨#[]⟩⟩
  obtain ⟨g1, g2, g3, g4⟩ := dfold_ok L L.length (Nat.le_refl _)
  rw [List.take_length] at g1 g2 g3 g4
  unfold dictB at hs
  rw [starts_append, starts_append] at hs
  exact ⟨(dfold L).1, (dfold L).2, by omega, fun x hx => hok x (g4 x hx), f1, by omega, f2, hs.1, hs.2.1, hs.2.2⟩

set_option maxRecDepth 100000 in
set_option maxHeartbeats 8000000 in
theorem readEntries_any (k : Int) (hk : k = 1 ∨ k = 2 ∨ k = 3) (s : ByteArray) (r p cn : Nat) (w : World) (hm : s.size ≤ maxLen) (hcn : cn ≤ 100) (hp : p ≤ s.size) (h : w.heap[r]? = some (rdr s p)) :
    Calls Try.prog 143 #[.pointer (some ⟨r, 0, none⟩), .int .i64 k, .int .i64 cn] w fun e w' => Kp r w w' ∧
      ((∃ (d : List Val) (v : Value), e = .returned v ∧ d.length ≤ cn ∧ (∀ x ∈ d, VK k x) ∧ d.Nodup ∧ Starts (bytesOf s) p (vint d.length) ∧ Starts (bytesOf s) (p + (vint d.length).length) (plainsB k d) ∧
        (∀ D : List Val, D.length = d.length → (∀ x ∈ D, VK k x) → Starts (bytesOf s) (p + (vint d.length).length) (plainsB k D) → D = d) ∧ p + (vint d.length).length + (plainsB k d).length ≤ s.size ∧
        w'.heap[r]? = some (rdr s (p + (vint d.length).length + (plainsB k d).length)) ∧ w'.ownsRow w.heap.size 39 3 v d.length (vcells d)) ∨
       (∃ q, e = .panicked (badAt q) ∧ ∀ L : List Val, L.length = cn → (∀ x ∈ L, VK k x) → ¬ Starts (bytesOf s) p (dictB k L))) := by
  have hrl : r < w.heap.size := lt_of_block h
  have HR : Hid (w.heap[r]? = some (rdr s p)) := h
  have hmm := @run_makeMap Try.prog
  clear h
  go_enter Try.func143, Try.ntmps143
  go_wp2_with fail
  refine (number_rd r p s _ hm hp HR.out).mono ?_
  rintro e w1 ⟨hK1, ⟨n, rfl, hn, hs1, hl1, hR1⟩ | ⟨q, rfl, hno⟩⟩
  · have HK1 : Hid (Kp r w w1) := hK1
    have HS1 : Hid (Starts (bytesOf s) p (vint n)) := hs1
    have HR1 : Hid (w1.heap[r]? = some (rdr s (p + (vint n).length))) := hR1
    have HN : Hid (n < 2147483648) := hn
    have hsz1 := hK1.size
    clear hK1 hs1 hR1 hn HR
    by_cases hbig : cn < n
    · have HNO : Hid (∀ L : List Val, L.length = cn → (∀ x ∈ L, VK k x) → ¬ Starts (bytesOf s) p (dictB k L)) := by
        intro L hL hok hs
        obtain ⟨d, ps, g1, g2, g3, g4, g5, g6, g7, g8⟩ := dict_parts hcn hL hok hs
        have := vint_one (by omega) (by have := HN.out; omega) g6 HS1.out
        omega
      go_wp2_with (go_at_call 84; refine (giveUp_any r _ s _ HR1.out).mono ?_; rintro e w' ⟨rfl, rfl⟩)
      exact ⟨rfl, HK1.out, .inr ⟨_, rfl, HNO.out⟩⟩
    · go_wp2_with fail
      refine (readPlain_any k hk s r (p + (vint n).length) n _ hm (by omega) hl1 HR1.out).mono ?_
      rintro e w2 ⟨hK2, ⟨d, v, rfl, hdl, hdk, hs2, hu2, hl2, hR2, hown2⟩ | ⟨q, rfl, hno⟩⟩
      · subst hdl
        have HDK : Hid (∀ x ∈ d, VK k x) := hdk
        have HS2 : Hid (Starts (bytesOf s) (p + (vint d.length).length) (plainsB k d)) := hs2
        have HU2 : Hid (∀ D : List Val, D.length = d.length → (∀ x ∈ D, VK k x) → Starts (bytesOf s) (p + (vint d.length).length) (plainsB k D) → D = d) := hu2
        have HR2 : Hid (w2.heap[r]? = some (rdr s (p + (vint d.length).length + (plainsB k d).length))) := hR2
        have HK2 : Hid (Kp r w w2) := HK1.out.trans hK2
        have HO2 : Hid (w2.ownsRow w.heap.size 39 3 v d.length (vcells d)) := ownsRow_base hown2 hsz1
        obtain ⟨ao, b, off, cap, rfl, hr⟩ := VSl.of_owns hown2
        have HVR : Hid (VRow w2 ao b off d) := hr
        have hom := World.ownsMap_made w2 Try.prog 39 (plainElem (H := Unit) Try.prog 3)
        have hsz2 := HK2.out.size
        clear hdk hs2 hu2 hR2 hK2 hown2 hr HK1 HR1
        go_wp2_with fail
        go_loopw [28] (fun i wr => ∃ (j n : Nat) (D : DataW Unit), j ≤ d.length ∧ n ≤ j ∧ i = .int .i64 (j : Int) ∧ (d.take j).Nodup ∧ wr.ownsMap Try.prog 39 (plainElem (H := Unit) Try.prog 3) w2.heap.size n D ∧ Knows D (d.take j) ∧ Below w2.heap.size w2 wr) (fun i _ => d.length - (intOf i).toNat)
        case atStart => exact ⟨0, 0, .map [], Nat.zero_le _, Nat.le_refl _, rfl, by simp, hom, by simpa using Knows.empty, (Below.refl _ _).alloc (Nat.le_refl _) _⟩
        case round =>
          clear hom
          obtain ⟨j, n, D, hjl, hnj, rfl, hnd, hom, hkn, hbel⟩ := hrel
          have HB : Hid (Below w2.heap.size w2 wr) := hbel
          have hsz : w2.heap.size ≤ wr.heap.size := hbel.size
          have hsz1 : w2.heap.size + 1 ≤ wr.heap.size := by have := hom.lt; omega
          have HND : Hid (d.take j).Nodup := hnd
          clear hnd
          by_cases hlt : j < d.length
          · have hr := HVR.out.below hbel
            obtain rfl := hr.addr (by omega)
            have p0 := hr.c0 j hlt
            have p1 := hr.c1 j hlt
            have p2 := hr.c2 j hlt
            have HX : Hid (VOk d[j]) := (HDK.out _ (List.getElem_mem hlt)).ok hk
            have hkey := key_mk d[j] HX.out
            have HKN : Hid (Knows D (d.take j)) := hkn
            have HHAS := hkn.has d[j] HX.out
            have HTL : Hid ((d.take j).length = j) := by show _ = _; rw [List.length_take]; omega
            have HTS : Hid (d.take (j + 1) = d.take j ++ [d[j]]) := List.take_succ_eq_append_getElem hlt
            clear hr hbel hkn
            by_cases hin : idx (d.take j) d[j] < (d.take j).length
            · have HNO : Hid (∀ L : List Val, L.length = cn → (∀ x ∈ L, VK k x) → ¬ Starts (bytesOf s) p (dictB k L)) := by
                intro L hL hok hs
                obtain ⟨d', ps, g1, g2, g3, g4, g5, g6, g7, g8⟩ := dict_parts hcn hL hok hs
                have e1 := vint_one (by omega) (by have := HN.out; omega) g6 HS1.out
                rw [e1] at g7
                have e2 := HU2.out d' e1 g2 g7
                subst e2
                have hmem := (idx_mem _ _).1 hin
                obtain ⟨i, hi, e3⟩ := List.getElem_of_mem hmem
                rw [List.getElem_take] at e3
                have h5 := HTL.out
                have := nodup_inj g3 (by omega) hlt e3
                omega
              rw [decide_eq_true hin] at HHAS
              generalize d[j] = x at *
              go_wp2_with (first
                | (at_lookup; refine wpList_lookup_own_ok_int _ rfl _ _ 170 rfl 39 3 .i64 lawV Try.underlying170 Try.underlying3 (zeroI _) w2.heap.size n D rfl (hom.alloc _) _ _ rfl hkey ?_; intro c hat hwc)
                | (go_at_call 84; refine (giveUp_any r _ s _ (by rw [Below.heap_alloc _ _ r (by omega), HB.out.block r (by omega)]; exact HR2.out)).mono ?_; rintro e w' ⟨rfl, rfl⟩))
              exact ⟨rfl, HK2.out.trans (Kp.of_below (HB.out.alloc hsz _)), .inr ⟨_, rfl, HNO.out⟩⟩
            · rw [decide_eq_false hin] at HHAS
              have HND2 : Hid (d.take (j + 1)).Nodup := by
                show List.Nodup _
                rw [HTS.out, List.nodup_append]
                refine ⟨HND.out, by simp, ?_⟩
                intro a ha c hc e
                simp at hc
                subst hc
                subst e
                exact hin ((idx_mem _ _).2 ha)
              have HPUT : Hid (Knows (D.put (kl d[j]) (.lit (.int .i64 (j : Int)))) (d.take (j + 1))) := by
                have := HKN.out.put d[j] HX.out hin
                rw [HTL.out] at this
                show Knows _ _
                rw [HTS.out]
                exact this
              have hmb : some wr.heap.size ≠ some w2.heap.size := by simp; omega
              have hal : ∀ o : Obj, (wr.alloc o).heap.size = wr.heap.size + 1 := fun o => by simp
              clear HKN HND HTS
              generalize d[j] = x at *
              go_wp2_with (first
                | (at_lookup; refine wpList_lookup_own_ok_int _ rfl _ _ 170 rfl 39 3 .i64 lawV Try.underlying170 Try.underlying3 (zeroI _) w2.heap.size n D rfl (hom.alloc _) _ _ rfl hkey ?_; intro c hat hwc)
                | (at_mapUpdate; refine wpList_mapUpdate_own _ rfl _ _ _ 170 rfl 39 3 lawV Try.underlying170 _ w2.heap.size n D rfl (hom.alloc _) ?_ _ _ _ rfl rfl hkey _ [] (plainElem_int Try.underlying3 (wf_i64 _ (by omega) (by omega))) ?_; (unfold maxLen; omega); intro w3 hom3 hgm))
              have hb3 : Below w2.heap.size w2 w3 := (HB.out.alloc hsz _).grown hgm (by rw [hal]; omega) (fun g hg => by cases hg; exact Nat.le_refl _)
              refine ⟨⟨j + 1, n + 1, _, by omega, by omega, by simp, HND2.out, hom3, HPUT.out, hb3⟩, by simp [intOf]; omega⟩
          · obtain rfl : j = d.length := by omega
            have hnd := HND.out
            rw [List.take_length] at hnd
            have HND2 : Hid d.Nodup := hnd
            clear hnd HND hkn hbel hom
            go_wp2
            go_ret
            exact ⟨HK2.out.trans (Kp.of_below HB.out), .inl ⟨d, _, rfl, by omega, HDK.out, HND2.out, HS1.out, HS2.out, HU2.out, hl2, by rw [HB.out.block r (by omega)]; exact HR2.out, ownsRow_below HO2.out HB.out⟩⟩
      · have HNO : Hid (∀ L : List Val, L.length = cn → (∀ x ∈ L, VK k x) → ¬ Starts (bytesOf s) p (dictB k L)) := by
          intro L hL hok hs
          obtain ⟨d, ps, g1, g2, g3, g4, g5, g6, g7, g8⟩ := dict_parts hcn hL hok hs
          have := vint_one (by omega) (by have := HN.out; omega) g6 HS1.out
          rw [this] at g7
          exact hno d this g2 g7
        have HK2 : Hid (Kp r w w2) := HK1.out.trans hK2
        clear hno hK2 HK1
        go_wp2
        exact ⟨rfl, HK2.out, .inr ⟨q, rfl, HNO.out⟩⟩
  · have HNO : Hid (∀ L : List Val, L.length = cn → (∀ x ∈ L, VK k x) → ¬ Starts (bytesOf s) p (dictB k L)) := by
      intro L hL hok hs
      obtain ⟨d, ps, g1, g2, g3, g4, g5, g6, g7, g8⟩ := dict_parts hcn hL hok hs
      exact hno d.length (by omega) g6
    have HK1 : Hid (Kp r w w1) := hK1
    clear hno hK1
    go_wp2
    exact ⟨rfl, HK1.out, .inr ⟨q, rfl, HNO.out⟩⟩
end Go.Proofs.Ytjidbonhhpkljaa.Ec
