/- What the proof stands on: RdParsed. -/
import Derived.Test.YtjidbonhhpkljaaMg

/- The document's parsed. -/
set_option linter.unusedVariables false
set_option linter.unusedSimpArgs false
namespace Go.Proofs.Ytjidbonhhpkljaa.Ec
open Go.RowKit Go.Proofs.Ytjidbonhhpkljaa.Pk Go.Proofs.Ytjidbonhhpkljaa.Pm
/-- What parsed answers. -/
def RPsd (w : World) (s : ByteArray) (e : Ending) (w' : World) : Prop :=
  Below w.heap.size w w' ∧ ((∃ (l : List (Col × Int)) (L : List (RBd × Value)) (cv ev bv : Value), e = .returned (.tuple #[.pointer (some ⟨w.heap.size + 1, 0, none⟩), .bool true]) ∧ Psd (bytesOf s) l (L.map Prod.fst) ∧ PF w w' cv ev bv (rowsR (L.map Prod.fst)) (l.map Prod.fst) (l.map Prod.snd) L) ∨
    (∃ v, e = .returned (.tuple #[v, .bool false]) ∧ ∀ l rs, ROk l rs → bytesOf s ≠ ftR l rs))
/-- What is known of columns that were read. -/
structure CkL (l : List (Col × Int)) : Prop where
  n : ∀ y ∈ l, y.1.name.size ≤ 16 ∧ 0 ≤ y.1.kind ∧ y.1.kind < 256 ∧ 0 ≤ y.2 ∧ y.2 < 256

theorem pcs_drop {l : List (Col × Int)} {i : Nat} (h : i < l.length) : pcsB (l.drop i) = pcB l[i] ++ pcsB (l.drop (i + 1)) := by
  rw [List.drop_eq_getElem_cons h]
  unfold pcsB
  rw [List.flatMap_cons]
theorem rowsR_ge (rs : List RBd) (h : ∀ b ∈ rs, 1 ≤ b.rows) : rs.length ≤ rowsR rs := by
  induction rs with
  | nil => simp [rowsR]
  | cons b r ih =>
    have h1 := h b (by simp)
    have h2 := ih (fun x hx => h x (by simp [hx]))
    simp [rowsR] at h2 ⊢
    omega
theorem take_snoc {α : Type} {l m : List α} {i : Nat} {x : α} (hm : m = l.take i) (h : i < l.length) (hx : x = l[i]) : m ++ [x] = l.take (i + 1) := by
  rw [List.take_succ_eq_append_getElem h, hm, hx]
/-- What the reader finds of a column. -/
theorem col_rest {s : ByteArray} {l : List (Col × Int)} {rs : List RBd} {i q : Nat} {R : List Nat} (h : (bytesOf s).drop q = pcsB (l.drop i) ++ R) (hi : i < l.length) :
    (bytesOf s).drop q = vint l[i].1.name.size ++ (bytesOf l[i].1.name ++ ([byteOf l[i].1.kind] ++ ([byteOf l[i].2] ++ (pcsB (l.drop (i + 1)) ++ R)))) := by
  rw [h, pcs_drop hi]
  unfold pcB
  simp

set_option maxRecDepth 100000 in
set_option maxHeartbeats 16000000 in
theorem parsed_any (s : ByteArray) (w : World) (hm : s.size ≤ 65536) :
    Calls Try.prog 95 #[.string s] w (RPsd w s) := by
  obtain ⟨j0, hj, hy0, hy1, hy2⟩ := info_parts Try.info104
  obtain ⟨q0', hq, hx0, hx1, hx2⟩ := info_parts Try.info3
  obtain ⟨u0', hu, hu0, hu1, hu2⟩ := info_parts Try.info101
  obtain ⟨r0', hr', hr0, hr1, hr2⟩ := info_parts Try.info99
  have hm2 : s.size ≤ maxLen := by unfold maxLen; omega
  go_enter Try.func95, Try.ntmps95
  go_upto_region 3 with fail
  have hR0 : ((w.alloc (.cells #[.string s, .int .i64 0, .bool false] 174)).alloc (.cells #[.slice none 0 0, .slice none 0 0, .slice none 0 0, .int .i64 0] 96)).heap[w.heap.size]? = some (rb s 0 false) := alloc_old _ (by simp) (alloc_at w _)
  have hS0 : PF w ((w.alloc (.cells #[.string s, .int .i64 0, .bool false] 174)).alloc (.cells #[.slice none 0 0, .slice none 0 0, .slice none 0 0, .int .i64 0] 96)) (.slice none 0 0) (.slice none 0 0) (.slice none 0 0) 0 [] [] [] :=
    ⟨alloc_at2 w _ _, World.ownsRow_nil _ _ _ _, World.ownsRow_nil _ _ _ _, World.ownsRow_nil _ _ _ _, fun p hp => by simp at hp, List.Pairwise.nil, below_box2 _ _⟩
  have hW : w.heap.size + 1 < ((w.alloc (.cells #[.string s, .int .i64 0, .bool false] 174)).alloc (.cells #[.slice none 0 0, .slice none 0 0, .slice none 0 0, .int .i64 0] 96)).heap.size := by simp
  generalize (w.alloc (.cells #[.string s, .int .i64 0, .bool false] 174)).alloc (.cells #[.slice none 0 0, .slice none 0 0, .slice none 0 0, .int .i64 0] 96) = W0 at *
  have HR0 : Hid (W0.heap[w.heap.size]? = some (rb s 0 false)) := hR0
  have HS0 : Hid (PF w W0 (.slice none 0 0) (.slice none 0 0) (.slice none 0 0) 0 [] [] []) := hS0
  clear hR0 hS0
  go_wp2_with fail
  refine (rnumberS_any w.heap.size 0 8 false s _ (by omega) hm2 (Nat.zero_le _) HR0.out).mono ?_
  rintro e w1 ⟨hK1, n, q1, b1, rfl, hn, hq1, hR1, hu1, -⟩
  have HS1 : Hid (PF w w1 (.slice none 0 0) (.slice none 0 0) (.slice none 0 0) 0 [] [] []) := HS0.out.kp hK1
  have HR1 : Hid (w1.heap[w.heap.size]? = some (rb s q1 b1)) := hR1
  have HF1 : Hid (∀ l rs, Hf s l rs → b1 = false ∧ l.length = n ∧ (bytesOf s).drop q1 = pcsB l ++ (vint rs.length ++ rbandsB (l.map Prod.fst) rs)) := fun l rs h => by
    have h1 := h.2
    unfold ftR plB at h1
    rw [List.append_assoc] at h1
    have h8 : l.length ≤ 8 := by have := h.1.pl.1.2.1; simpa using this
    obtain ⟨e1, e2, e3⟩ := hu1 l.length h8 (rest_starts (Y := pcsB l ++ (vint rs.length ++ rbandsB (l.map Prod.fst) rs)) (by rw [List.drop_zero]; exact h1))
    refine ⟨e3, e1.symm, ?_⟩
    have := rest_next (q := 0) (B := bytesOf s) (by rw [List.drop_zero]; exact h1)
    rw [e2]
    exact this
  clear hK1 hR1 hu1 HR0 HS0 hW
  clear W0
  go_wp2_with fail
  go_loopw [7] (fun i wr => ∃ (lc : List (Col × Int)) (cv ev : Value) (q : Nat) (b : Bool), i = .int .i64 (lc.length : Int) ∧ lc.length ≤ n ∧ CkL lc ∧ PF w wr cv ev (.slice none 0 0) 0 (lc.map Prod.fst) (lc.map Prod.snd) [] ∧ q ≤ s.size ∧ wr.heap[w.heap.size]? = some (rb s q b) ∧
      (∀ l rs, Hf s l rs → b = false ∧ l.length = n ∧ lc = l.take lc.length ∧ (bytesOf s).drop q = pcsB (l.drop lc.length) ++ (vint rs.length ++ rbandsB (l.map Prod.fst) rs))) (fun i _ => n - (intOf i).toNat)
  case atStart => exact ⟨[], _, _, q1, b1, rfl, Nat.zero_le _, ⟨fun y hy => by simp at hy⟩, HS1.out, hq1, HR1.out, fun l rs h => by obtain ⟨h1, h2, h3⟩ := HF1.out l rs h; exact ⟨h1, h2, by simp, by simpa using h3⟩⟩
  case round =>
    clear HS1 HR1 HF1
    obtain ⟨lc, cv, ev, q, b, rfl, hle, hck, hS, hq1, hR, hF⟩ := hrel
    have HCK : Hid (CkL lc) := hck
    have HS : Hid (PF w wr cv ev (.slice none 0 0) 0 (lc.map Prod.fst) (lc.map Prod.snd) []) := hS
    have HR : Hid (wr.heap[w.heap.size]? = some (rb s q b)) := hR
    have HF : Hid (∀ l rs, Hf s l rs → b = false ∧ l.length = n ∧ lc = l.take lc.length ∧ (bytesOf s).drop q = pcsB (l.drop lc.length) ++ (vint rs.length ++ rbandsB (l.map Prod.fst) rs)) := hF
    clear hck hS hR hF
    by_cases hlt : lc.length < n
    · have HFC : Hid (∀ l rs, Hf s l rs → ∃ h : lc.length < l.length, b = false ∧ l.length = n ∧ lc = l.take lc.length ∧ PcOk l[lc.length] ∧ l[lc.length].1.name.size ≤ 16 ∧ (bytesOf s).drop q = vint l[lc.length].1.name.size ++ (bytesOf l[lc.length].1.name ++ ([byteOf l[lc.length].1.kind] ++ ([byteOf l[lc.length].2] ++ (pcsB (l.drop (lc.length + 1)) ++ (vint rs.length ++ rbandsB (l.map Prod.fst) rs)))))) := fun l rs h => by
        obtain ⟨h1, h2, h3, h4⟩ := HF.out l rs h
        have hi : lc.length < l.length := by omega
        have hp := h.1.pl.each.1 _ (List.getElem_mem hi)
        have hn16 : l[lc.length].1.name.size ≤ 16 := by
          have := names_of_ok h.1.pl.1 l[lc.length].1 (List.mem_map.2 ⟨_, List.getElem_mem hi, rfl⟩)
          exact this
        exact ⟨hi, h1, h2, h3, hp, hn16, col_rest (rs := rs) h4 hi⟩
      clear HF
      go_wp2_with fail
      refine (rnumberS_any w.heap.size q 16 b s _ (by omega) hm2 hq1 HR.out).mono ?_
      rintro e w2 ⟨hK2, k, q2, b2, rfl, hk, hq2, hR2, hu2', -⟩
      have HS2 : Hid (PF w w2 cv ev (.slice none 0 0) 0 (lc.map Prod.fst) (lc.map Prod.snd) []) := HS.out.kp hK2
      have HR2 : Hid (w2.heap[w.heap.size]? = some (rb s q2 b2)) := hR2
      have HF2 : Hid (∀ l rs, Hf s l rs → ∃ h : lc.length < l.length, b2 = false ∧ l.length = n ∧ lc = l.take lc.length ∧ PcOk l[lc.length] ∧ l[lc.length].1.name.size = k ∧ (bytesOf s).drop q2 = bytesOf l[lc.length].1.name ++ ([byteOf l[lc.length].1.kind] ++ ([byteOf l[lc.length].2] ++ (pcsB (l.drop (lc.length + 1)) ++ (vint rs.length ++ rbandsB (l.map Prod.fst) rs))))) := fun l rs h => by
        obtain ⟨hi, h1, h2, h3, h4, h5, h6⟩ := HFC.out l rs h
        obtain ⟨e1, e2, e3⟩ := hu2' _ h5 (rest_starts h6)
        exact ⟨hi, by rw [e3, h1], h2, h3, h4, e1.symm, by rw [e2]; exact rest_next h6⟩
      clear hK2 hR2 hu2' HS HR HFC
      go_wp2_with fail
      refine (rtakeS_any w.heap.size q2 k b2 s _ (by omega) hm2 hq2 HR2.out).mono ?_
      rintro e w3 ⟨hK3, nm, q3, b3, rfl, hnm, hq3, hR3, hu3', -⟩
      have HS3 : Hid (PF w w3 cv ev (.slice none 0 0) 0 (lc.map Prod.fst) (lc.map Prod.snd) []) := HS2.out.kp hK3
      have HR3 : Hid (w3.heap[w.heap.size]? = some (rb s q3 b3)) := hR3
      have HF3 : Hid (∀ l rs, Hf s l rs → ∃ h : lc.length < l.length, b3 = false ∧ l.length = n ∧ lc = l.take lc.length ∧ PcOk l[lc.length] ∧ l[lc.length].1.name = nm ∧ (bytesOf s).drop q3 = [byteOf l[lc.length].1.kind] ++ ([byteOf l[lc.length].2] ++ (pcsB (l.drop (lc.length + 1)) ++ (vint rs.length ++ rbandsB (l.map Prod.fst) rs)))) := fun l rs h => by
        obtain ⟨hi, h1, h2, h3, h4, h5, h6⟩ := HF2.out l rs h
        obtain ⟨e1, e2, e3⟩ := hu3' _ h5 (rest_starts h6)
        have h7 := rest_next h6
        rw [bytesOf_length, h5] at h7
        exact ⟨hi, by rw [e3, h1], h2, h3, h4, e1.symm, by rw [e2]; exact h7⟩
      have hnm16 : nm.size ≤ 16 := by omega
      clear hK3 hR3 hu3' HS2 HR2 HF2 hnm
      go_wp2_with fail
      refine (rbyteS_any w.heap.size q3 b3 s _ hm2 hq3 HR3.out).mono ?_
      rintro e w4 ⟨hK4, kd, q4, b4, rfl, hkd, hq4, hR4, hu4', -⟩
      have HS4 : Hid (PF w w4 cv ev (.slice none 0 0) 0 (lc.map Prod.fst) (lc.map Prod.snd) []) := HS3.out.kp hK4
      have HR4 : Hid (w4.heap[w.heap.size]? = some (rb s q4 b4)) := hR4
      have HF4 : Hid (∀ l rs, Hf s l rs → ∃ h : lc.length < l.length, b4 = false ∧ l.length = n ∧ lc = l.take lc.length ∧ PcOk l[lc.length] ∧ l[lc.length].1 = ⟨nm, (kd : Int)⟩ ∧ (bytesOf s).drop q4 = [byteOf l[lc.length].2] ++ (pcsB (l.drop (lc.length + 1)) ++ (vint rs.length ++ rbandsB (l.map Prod.fst) rs))) := fun l rs h => by
        obtain ⟨hi, h1, h2, h3, h4, h5, h6⟩ := HF3.out l rs h
        obtain ⟨e1, e2, e3⟩ := hu4' _ (rest_starts h6)
        have h8 := byteOf_in h4.k0 h4.k1
        refine ⟨hi, by rw [e3, h1], h2, h3, h4, ?_, by rw [e2]; exact rest_next h6⟩
        rw [← e1] at h8
        generalize l[lc.length].1 = c at *
        cases c
        simp only at h5 h8
        rw [h5, h8]
      clear hK4 hR4 hu4' HS3 HR3 HF3
      obtain ⟨⟨c0, c1, c2, c3⟩, cf⟩ := HS4.out.cells
      have f0 := cf 0
      have hown := HS4.out.cols
      have hlc8 : lc.length ≤ 8 := by omega
      rw [List.length_map] at hown
      obtain ⟨co, cc, rfl⟩ := own_form hown
      have hsz4 : w.heap.size + 1 < w4.heap.size := lt_of_block HS4.out.file
      go_upto_region 11 with (at_builtin; refine wpList_append_lies _ rfl _ _ 49 rfl (w.heap.size + 1) 104 j0 _ 2 24 Try.underlying49 hj hy0 hy1 hy2 rfl (by decide) _ lc.length _ rfl (hown.alloc _) ⟨w4.heap.size, 0, none⟩ 1 1 [.string nm, .int .i64 (kd : Int)] rfl rfl (two_atC w4 _ _ _) (by intro u hu; simp at hu; rcases hu with rfl | rfl <;> rfl) (by decide) (by unfold maxLen; omega) (by omega) (by simp; omega) _ rfl ?_; intro g5 cap5 w5 hown5 hgr5 hat5 hlt5; have hg5 := Grew.lies (n := lc.length + 1) (cap := cap5) hgr5 hat5; obtain ⟨⟨d0, d1, d2, d3⟩, df⟩ := HS4.out.keptF HS4.out.cols (by decide) hg5; have df0 := df 0)
      have ho5 : w5.ownsRow (w.heap.size + 1) 104 2 (.slice (some ⟨g5, 0, none⟩) (lc.length + 1) cap5) (lc.map Prod.fst ++ [(⟨nm, (kd : Int)⟩ : Col)]).length (ccells (lc.map Prod.fst ++ [(⟨nm, (kd : Int)⟩ : Col)])) := by
        rw [ccells_append, List.length_append, List.length_map]
        exact hown5
      have hS5 : PF w (w5.setCell ⟨w.heap.size + 1, 0, none⟩ (.slice (some ⟨g5, 0, none⟩) (lc.length + 1) cap5)) (.slice (some ⟨g5, 0, none⟩) (lc.length + 1) cap5) ev (.slice none 0 0) 0 (lc.map Prod.fst ++ [(⟨nm, (kd : Int)⟩ : Col)]) (lc.map Prod.snd) [] := HS4.out.growC hg5 ho5
      have hR5 : (w5.setCell ⟨w.heap.size + 1, 0, none⟩ (.slice (some ⟨g5, 0, none⟩) (lc.length + 1) cap5)).heap[w.heap.size]? = some (rb s q4 b4) := PF.reader HR4.out HS4.out.cols hg5
      clear hown hown5 hgr5 hat5 hlt5 hg5 ho5 d0 d1 d2 d3 df df0 c0 c1 c2 c3 cf f0 hsz4 HS4 HR4
      generalize w5.setCell ⟨w.heap.size + 1, 0, none⟩ (.slice (some ⟨g5, 0, none⟩) (lc.length + 1) cap5) = W6 at *
      generalize Value.slice (some ⟨g5, 0, none⟩) (lc.length + 1) cap5 = cv6 at *
      have HS6 : Hid (PF w W6 cv6 ev (.slice none 0 0) 0 (lc.map Prod.fst ++ [(⟨nm, (kd : Int)⟩ : Col)]) (lc.map Prod.snd) []) := hS5
      have HR6 : Hid (W6.heap[w.heap.size]? = some (rb s q4 b4)) := hR5
      clear hS5 hR5
      have hown := HS6.out.encs
      rw [List.length_map] at hown
      obtain ⟨eo, ec, rfl⟩ := own_form hown
      have HBY : Hid (Calls Try.prog 127 #[.pointer (some ⟨w.heap.size, 0, none⟩)] W6.drew fun e w' => Kp w.heap.size W6.drew w' ∧ ∃ (c q : Nat) (b : Bool), e = .returned (.int .i64 (c : Int)) ∧ c < 256 ∧ q ≤ s.size ∧ w'.heap[w.heap.size]? = some (rb s q b) ∧ (∀ x, Starts (bytesOf s) q4 [x] → c = x ∧ q = q4 + 1 ∧ b = b4) ∧ (b4 = true → b = true)) := rbyteS_any w.heap.size q4 b4 s W6.drew hm2 hq4 HR6.out
      obtain ⟨⟨c0, c1, c2, c3⟩, -⟩ := HS6.out.cells
      refine Un.begin_ (fun W => W.cell? ⟨w.heap.size + 1, 1, none⟩ = some (.slice eo lc.length ec)) 11 (by kernel_rfl) ?_
      have hHeld : (fun W => W.cell? ⟨w.heap.size + 1, 1, none⟩ = some (.slice eo lc.length ec)) W6.drew := c1
      refine Un.pick (i := 0) (v := ?_) rfl (by kernel_rfl) (by kernel_rfl) (by kernel_rfl) (by kernel_rfl) (fun _ _ _ h => h) (Or.inl ⟨by rfl, ?_⟩) (by assumption) ?_
      rotate_left
      · intro w _; go_simp
        try with_reducible rfl
      try simp only [Act.put, List.setIfInBounds_toArray, List.set_cons_zero, List.set_cons_succ]
      refine Un.pick (i := 1) (v := ?_) rfl (by kernel_rfl) (by kernel_rfl) (by kernel_rfl) (by kernel_rfl) (fun _ _ _ h => h) (Or.inl ⟨by rfl, ?_⟩) (by assumption) ?_
      rotate_left
      · intro w _; go_simp
        try with_reducible rfl
      try simp only [Act.put, List.setIfInBounds_toArray, List.set_cons_zero, List.set_cons_succ]
      refine Un.pick (i := 2) (v := ?_) rfl (by kernel_rfl) (by kernel_rfl) (by kernel_rfl) (by kernel_rfl) (fun _ _ _ h => h) (Or.inl ⟨by rfl, ?_⟩) (by assumption) ?_
      rotate_left
      · intro w _; go_simp
        try with_reducible rfl
      try simp only [Act.put, List.setIfInBounds_toArray, List.set_cons_zero, List.set_cons_succ]
      refine Un.pick (i := 3) (v := ?_) rfl (by kernel_rfl) (by kernel_rfl) (by kernel_rfl) (by kernel_rfl) (fun _ _ _ h => h) (Or.inl ⟨by rfl, ?_⟩) (by assumption) ?_
      rotate_left
      · intro w _; go_simp
        try with_reducible rfl
      try simp only [Act.put, List.setIfInBounds_toArray, List.set_cons_zero, List.set_cons_succ]
      refine Un.take (i := 4) (v := ?_) rfl (by kernel_rfl) (by kernel_rfl) (by kernel_rfl) (by kernel_rfl) (by kernel_rfl) (by kernel_rfl) (fun _ _ _ h => h) (Or.inl ⟨by rfl, ?_⟩) (by assumption) ?_
      rotate_left
      · intro w hSw; (try dsimp only at hSw); go_simp
        try with_reducible rfl
      try simp only [Act.put, List.setIfInBounds_toArray, List.set_cons_zero, List.set_cons_succ]
      refine Un.pick (i := 5) (v := ?_) rfl (by kernel_rfl) (by kernel_rfl) (by kernel_rfl) (by kernel_rfl) (fun _ _ _ h => h) (Or.inl ⟨by rfl, ?_⟩) (by assumption) ?_
      rotate_left
      · intro w _; go_simp
        try with_reducible rfl
      try simp only [Act.put, List.setIfInBounds_toArray, List.set_cons_zero, List.set_cons_succ]
      refine Un.one (i := 6) (by kernel_rfl) rfl (fun K hK => ?_)
      rw [if_pos (by rfl)]
      go_simp
      go_at_call 127
      refine HBY.out.mono ?_
      rintro e w7 ⟨hK7, en, q7, b7, rfl, hen, hq7, hR7, hu7, -⟩
      have hK7' : Kp w.heap.size W6 w7 := (Kp.of_below ((Below.refl W6.heap.size W6).drew)).trans hK7
      have HS7 : Hid (PF w w7 cv6 (.slice eo lc.length ec) (.slice none 0 0) 0 (lc.map Prod.fst ++ [(⟨nm, (kd : Int)⟩ : Col)]) (lc.map Prod.snd) []) := HS6.out.kp hK7'
      have HR7 : Hid (w7.heap[w.heap.size]? = some (rb s q7 b7)) := hR7
      have HF7 : Hid (∀ l rs, Hf s l rs → b7 = false ∧ l.length = n ∧ lc ++ [((⟨nm, (kd : Int)⟩ : Col), (en : Int))] = l.take (lc.length + 1) ∧ (bytesOf s).drop q7 = pcsB (l.drop (lc.length + 1)) ++ (vint rs.length ++ rbandsB (l.map Prod.fst) rs)) := fun l rs h => by
        obtain ⟨hi, h1, h2, h3, h4, h5, h6⟩ := HF4.out l rs h
        obtain ⟨e1, e2, e3⟩ := hu7 _ (rest_starts h6)
        have h8 := byteOf_in h4.e0 h4.e1
        refine ⟨by rw [e3, h1], h2, take_snoc h3 hi ?_, by rw [e2]; exact rest_next h6⟩
        rw [← e1] at h8
        generalize l[lc.length] = y at *
        obtain ⟨y1, y2⟩ := y
        simp only at h5 h8
        rw [h5, h8]
      obtain ⟨⟨y0, y1, y2, y3⟩, -⟩ := HS7.out.cells
      refine hK.out _ _ (fun _ => y1) ?_
      clear hK K hHeld hK7 hK7' hR7 hu7 HF4 c0 c1 c2 c3 HS6 HR6 HBY hown
      try simp only [Act.put, List.setIfInBounds_toArray, List.set_cons_zero, List.set_cons_succ]
      have hHeld : (fun W => W.cell? ⟨w.heap.size + 1, 1, none⟩ = some (.slice eo lc.length ec)) w7 := y1
      refine Un.one (i := 7) (by kernel_rfl) rfl (fun K hK => ?_)
      rw [if_pos (by rfl)]
      go_simp
      have HS8 : Hid (PF w (w7.alloc (.cells #[.int .i64 (en : Int)] 3)) cv6 (.slice eo lc.length ec) (.slice none 0 0) 0 (lc.map Prod.fst ++ [(⟨nm, (kd : Int)⟩ : Col)]) (lc.map Prod.snd) []) := HS7.out.below ((Below.refl _ _).alloc (Nat.le_refl _) _)
      refine hK.out _ _ (fun _ => HS8.out.cells.1.2.1) ?_
      clear hK K hHeld
      try simp only [Act.put, List.setIfInBounds_toArray, List.set_cons_zero, List.set_cons_succ]
      refine Un.one (i := 8) (by kernel_rfl) rfl (fun K hK => ?_)
      have hown := HS7.out.encs
      rw [List.length_map] at hown
      have hsz7 : w.heap.size + 1 < w7.heap.size := lt_of_block HS7.out.file
      refine step_append_lies _ (by rfl) _ _ 22 (by rfl) (w.heap.size + 1) 3 q0' _ 1 8 Try.underlying22 hq hx0 hx1 hx2 rfl (by decide) _ lc.length _ (by rfl) (hown.alloc _) ⟨w7.heap.size, 0, none⟩ 1 1 [.int .i64 (en : Int)] (by rfl) rfl (one_at w7 _ _) (by intro u hu; simp at hu; subst hu; rfl) (by decide) (by unfold maxLen; omega) (by omega) (by simp; omega) _ rfl ?_
      intro g9 cap9 w9 hown9 hgr9 hat9 hlt9
      have hg9 := Grew.lies (n := lc.length + 1) (cap := cap9) hgr9 hat9
      have ho9 : w9.ownsRow (w.heap.size + 1) 3 1 (.slice (some ⟨g9, 0, none⟩) (lc.length + 1) cap9) (lc.map Prod.snd ++ [(en : Int)]).length (icells (lc.map Prod.snd ++ [(en : Int)])) := by
        unfold icells at hown9 ⊢
        rw [List.map_append, List.length_append, List.length_map]
        exact hown9
      have HF9 : Hid (PF w (w9.setCell ⟨w.heap.size + 1, 1, none⟩ (.slice (some ⟨g9, 0, none⟩) (lc.length + 1) cap9)) cv6 (.slice (some ⟨g9, 0, none⟩) (lc.length + 1) cap9) (.slice none 0 0) 0 (lc.map Prod.fst ++ [(⟨nm, (kd : Int)⟩ : Col)]) (lc.map Prod.snd ++ [(en : Int)]) []) := HS7.out.growE hg9 ho9
      have HR9 : Hid ((w9.setCell ⟨w.heap.size + 1, 1, none⟩ (.slice (some ⟨g9, 0, none⟩) (lc.length + 1) cap9)).heap[w.heap.size]? = some (rb s q7 b7)) := PF.reader HR7.out HS7.out.encs hg9
      obtain ⟨⟨d0, d1, d2, d3⟩, df⟩ := HS7.out.keptF HS7.out.encs (by decide) hg9
      have df1 := df 1
      refine hK.out _ _ (fun _ => d1) ?_
      clear hK K hown hown9 hgr9 hat9 hlt9 ho9 hg9 df
      try simp only [Act.put, List.setIfInBounds_toArray, List.set_cons_zero, List.set_cons_succ]
      have hHeld : (fun W => W.cell? ⟨w.heap.size + 1, 1, none⟩ = some (.slice eo lc.length ec)) w9 := d1
      refine Un.pick (i := 9) (v := ?_) rfl (by kernel_rfl) (by kernel_rfl) (by kernel_rfl) (by kernel_rfl) (fun _ _ _ h => h) (Or.inl ⟨by rfl, ?_⟩) (by assumption) ?_
      rotate_left
      · intro w _; go_simp
        try with_reducible rfl
      try simp only [Act.put, List.setIfInBounds_toArray, List.set_cons_zero, List.set_cons_succ]
      refine Un.pick (i := 10) (v := ?_) rfl (by kernel_rfl) (by kernel_rfl) (by kernel_rfl) (by kernel_rfl) (fun _ _ _ h => h) (Or.inl ⟨by rfl, ?_⟩) (by assumption) ?_
      rotate_left
      · intro w _; go_simp
        try with_reducible rfl
      try simp only [Act.put, List.setIfInBounds_toArray, List.set_cons_zero, List.set_cons_succ]
      refine Un.one (i := 11) (by kernel_rfl) rfl (fun K hK => ?_)
      rw [if_pos (by rfl)]
      go_simp
      refine hK.out _ _ (fun h => absurd h (by decide)) ?_
      clear hK K hHeld d0 d1 d2 d3 df1 y0 y1 y2 y3
      refine Un.done (by kernel_rfl) ?_ _
      try simp only [Act.put, List.setIfInBounds_toArray, List.set_cons_zero, List.set_cons_succ]
      clear HS7 HS8 HR7
      generalize w9.setCell ⟨w.heap.size + 1, 1, none⟩ (.slice (some ⟨g9, 0, none⟩) (lc.length + 1) cap9) = W9 at *
      generalize Value.slice (some ⟨g9, 0, none⟩) (lc.length + 1) cap9 = ev9 at *
      have HCK9 : Hid (CkL (lc ++ [((⟨nm, (kd : Int)⟩ : Col), (en : Int))])) := ⟨fun y hy => by
        rcases List.mem_append.1 hy with h | h
        · exact HCK.out.n y h
        · simp at h
          subst h
          exact ⟨hnm16, by show (0 : Int) ≤ (kd : Int); omega, by show (kd : Int) < 256; omega, by show (0 : Int) ≤ (en : Int); omega, by show (en : Int) < 256; omega⟩⟩
      clear hkd hen hnm16 hk HCK
      go_wp2_with fail
      go_roundw
      case rel => exact ⟨lc ++ [((⟨nm, (kd : Int)⟩ : Col), (en : Int))], cv6, ev9, q7, b7, by rw [List.length_append]; go_num, by rw [List.length_append, List.length_singleton]; omega, HCK9.out, by rw [List.map_append, List.map_append]; exact HF9.out, hq7, HR9.out, by rw [List.length_append]; exact HF7.out⟩
      case measure => simp [intOf]; omega
    · have hnl : n = lc.length := by omega
      have HFA : Hid (∀ l rs, Hf s l rs → b = false ∧ l = lc ∧ (bytesOf s).drop q = vint rs.length ++ rbandsB (lc.map Prod.fst) rs) := fun l rs h => by
        obtain ⟨h1, h2, h3, h4⟩ := HF.out l rs h
        have h5 : l = lc := by rw [h3, List.take_of_length_le (by omega)]
        rw [h5] at h4
        refine ⟨h1, h5, ?_⟩
        rw [h4, List.drop_length]
        simp [pcsB]
      clear HF hle hlt
      subst hnl
      obtain ⟨⟨c0, c1, c2, c3⟩, -⟩ := HS.out.cells
      obtain ⟨co, cc, hcv⟩ := own_form HS.out.cols
      obtain ⟨eo, ec, hev⟩ := own_form HS.out.encs
      rw [List.length_map] at hcv hev
      subst hcv
      subst hev
      have hlm : (lc.map Prod.fst).length ≤ maxLen := by rw [List.length_map]; unfold maxLen; omega
      have hlm2 : (lc.map Prod.snd).length ≤ maxLen := by rw [List.length_map]; unfold maxLen; omega
      have HC : Hid (CSl wr (.slice co lc.length cc) (lc.map Prod.fst)) := CSl.of_owns HS.out.cols
      have HE : Hid (ISl wr (.slice eo lc.length ec) (lc.map Prod.snd)) := ISl.of_owns HS.out.encs
      have HAC : Hid (Calls Try.prog 85 #[.slice co lc.length cc] wr fun e w' => ∃ bb, e = .returned (.bool bb) ∧ (bb = true ↔ ColsOk (lc.map Prod.fst)) ∧ Below wr.heap.size wr w') := columnsMay_any (lc.map Prod.fst) _ wr hlm HC.out
      have HAE : Hid (∀ W, Below wr.heap.size wr W → Calls Try.prog 55 #[.slice co lc.length cc, .slice eo lc.length ec] W fun e w' => ∃ bb, e = .returned (.bool bb) ∧ (bb = true ↔ EncsOk (lc.map Prod.fst) (lc.map Prod.snd)) ∧ Below W.heap.size W w') := fun W hW => encodingsMay_any (lc.map Prod.fst) (lc.map Prod.snd) _ _ W hlm hlm2 (HC.out.below hW) (HE.out.lower hW)
      clear hlm hlm2 HC HE
      go_wp2_with fail
      refine HAC.out.mono ?_
      rintro e wA ⟨bA, rfl, hA, hbA⟩
      have HA : Hid (bA = true ↔ ColsOk (lc.map Prod.fst)) := hA
      have HSA : Hid (PF w wA (.slice co lc.length cc) (.slice eo lc.length ec) (.slice none 0 0) 0 (lc.map Prod.fst) (lc.map Prod.snd) []) := HS.out.below hbA
      have HRA : Hid (wA.heap[w.heap.size]? = some (rb s q b)) := (hbA.block _ (lt_of_block HR.out)).trans HR.out
      have HAE2 : Hid (Calls Try.prog 55 #[.slice co lc.length cc, .slice eo lc.length ec] wA.drew fun e w' => ∃ bb, e = .returned (.bool bb) ∧ (bb = true ↔ EncsOk (lc.map Prod.fst) (lc.map Prod.snd)) ∧ Below wA.drew.heap.size wA.drew w') := HAE.out _ (hbA.trans ((Below.refl wA.heap.size wA).drew.mono hbA.size))
      clear hA hbA HAC HAE c0 c1 c2 c3 HS HR
      obtain ⟨⟨c0, c1, c2, c3⟩, -⟩ := HSA.out.cells
      go_upto_region 13 with fail
      refine Un.begin_ (fun W => W.cell? ⟨w.heap.size + 1, 0, none⟩ = some (.slice co lc.length cc) ∧ W.cell? ⟨w.heap.size + 1, 1, none⟩ = some (.slice eo lc.length ec)) 9 (by kernel_rfl) ?_
      have hHeld : (fun W => W.cell? ⟨w.heap.size + 1, 0, none⟩ = some (.slice co lc.length cc) ∧ W.cell? ⟨w.heap.size + 1, 1, none⟩ = some (.slice eo lc.length ec)) wA.drew := ⟨c0, c1⟩
      refine Un.pick (i := 0) (v := ?_) rfl (by kernel_rfl) (by kernel_rfl) (by kernel_rfl) (by kernel_rfl) (fun _ _ _ h => h) (Or.inl ⟨by rfl, ?_⟩) (by assumption) ?_
      rotate_left
      · intro w _; go_simp
        try with_reducible rfl
      try simp only [Act.put, List.setIfInBounds_toArray, List.set_cons_zero, List.set_cons_succ]
      refine Un.pick (i := 1) (v := ?_) rfl (by kernel_rfl) (by kernel_rfl) (by kernel_rfl) (by kernel_rfl) (fun _ _ _ h => h) (Or.inl ⟨by rfl, ?_⟩) (by assumption) ?_
      rotate_left
      · intro w _; go_simp
        try with_reducible rfl
      try simp only [Act.put, List.setIfInBounds_toArray, List.set_cons_zero, List.set_cons_succ]
      refine Un.pick (i := 2) (v := ?_) rfl (by kernel_rfl) (by kernel_rfl) (by kernel_rfl) (by kernel_rfl) (fun _ _ _ h => h) (Or.inl ⟨by rfl, ?_⟩) (by assumption) ?_
      rotate_left
      · intro w _; go_simp
        try with_reducible rfl
      try simp only [Act.put, List.setIfInBounds_toArray, List.set_cons_zero, List.set_cons_succ]
      refine Un.take (i := 3) (v := ?_) rfl (by kernel_rfl) (by kernel_rfl) (by kernel_rfl) (by kernel_rfl) (by kernel_rfl) (by kernel_rfl) (fun _ _ _ h => h) (Or.inl ⟨by rfl, ?_⟩) (by assumption) ?_
      rotate_left
      · intro w hSw; (try dsimp only at hSw); go_simp
        try with_reducible rfl
      try simp only [Act.put, List.setIfInBounds_toArray, List.set_cons_zero, List.set_cons_succ]
      refine Un.pick (i := 4) (v := ?_) rfl (by kernel_rfl) (by kernel_rfl) (by kernel_rfl) (by kernel_rfl) (fun _ _ _ h => h) (Or.inl ⟨by rfl, ?_⟩) (by assumption) ?_
      rotate_left
      · intro w _; go_simp
        try with_reducible rfl
      try simp only [Act.put, List.setIfInBounds_toArray, List.set_cons_zero, List.set_cons_succ]
      refine Un.pick (i := 5) (v := ?_) rfl (by kernel_rfl) (by kernel_rfl) (by kernel_rfl) (by kernel_rfl) (fun _ _ _ h => h) (Or.inl ⟨by rfl, ?_⟩) (by assumption) ?_
      rotate_left
      · intro w _; go_simp
        try with_reducible rfl
      try simp only [Act.put, List.setIfInBounds_toArray, List.set_cons_zero, List.set_cons_succ]
      refine Un.pick (i := 6) (v := ?_) rfl (by kernel_rfl) (by kernel_rfl) (by kernel_rfl) (by kernel_rfl) (fun _ _ _ h => h) (Or.inl ⟨by rfl, ?_⟩) (by assumption) ?_
      rotate_left
      · intro w _; go_simp
        try with_reducible rfl
      try simp only [Act.put, List.setIfInBounds_toArray, List.set_cons_zero, List.set_cons_succ]
      refine Un.take (i := 7) (v := ?_) rfl (by kernel_rfl) (by kernel_rfl) (by kernel_rfl) (by kernel_rfl) (by kernel_rfl) (by kernel_rfl) (fun _ _ _ h => h) (Or.inl ⟨by rfl, ?_⟩) (by assumption) ?_
      rotate_left
      · intro w hSw; (try dsimp only at hSw); go_simp
        try with_reducible rfl
      try simp only [Act.put, List.setIfInBounds_toArray, List.set_cons_zero, List.set_cons_succ]
      refine Un.one (i := 8) (by kernel_rfl) rfl (fun K hK => ?_)
      rw [if_pos (by rfl)]
      go_simp
      go_at_call 55
      refine HAE2.out.mono ?_
      rintro e wB ⟨bB, rfl, hB, hbB⟩
      have hbB2 : Below wA.heap.size wA wB := (Below.refl wA.heap.size wA).drew.trans hbB
      have HB : Hid (bB = true ↔ EncsOk (lc.map Prod.fst) (lc.map Prod.snd)) := hB
      have HSB : Hid (PF w wB (.slice co lc.length cc) (.slice eo lc.length ec) (.slice none 0 0) 0 (lc.map Prod.fst) (lc.map Prod.snd) []) := HSA.out.below hbB2
      have HRB : Hid (wB.heap[w.heap.size]? = some (rb s q b)) := (hbB2.block _ (lt_of_block HRA.out)).trans HRA.out
      have hSB := HSB.out.cells.1
      refine hK.out _ _ (fun _ => ⟨hSB.1, hSB.2.1⟩) ?_
      clear hK K hHeld hbB hbB2 hB HSA HRA HAE2 c0 c1 c2 c3 hSB
      try simp only [Act.put, List.setIfInBounds_toArray, List.set_cons_zero, List.set_cons_succ]
      refine Un.one (i := 9) (by kernel_rfl) rfl (fun K hK => ?_)
      rw [if_pos (by rfl)]
      go_simp
      refine hK.out _ _ (fun h => absurd h (by decide)) ?_
      clear hK K
      try simp only [Act.put, List.setIfInBounds_toArray, List.set_cons_zero, List.set_cons_succ]
      refine Un.done (by kernel_rfl) ?_ _
      try simp only [Act.put, List.setIfInBounds_toArray, List.set_cons_zero, List.set_cons_succ]
      go_wp2_with fail
      refine (rnumberS_any w.heap.size q 2000 b s _ (by omega) hm2 hq1 HRB.out).mono ?_
      rintro e w2 ⟨hK2, m, q2, b2, rfl, hmm, hq2, hR2, hu2', hst2⟩
      have HS2 : Hid (PF w w2 (.slice co lc.length cc) (.slice eo lc.length ec) (.slice none 0 0) 0 (lc.map Prod.fst) (lc.map Prod.snd) []) := HSB.out.kp hK2
      have HR2 : Hid (w2.heap[w.heap.size]? = some (rb s q2 b2)) := hR2
      have HF2 : Hid (∀ l rs, Hf s l rs → b2 = false ∧ l = lc ∧ rs.length = m ∧ (bytesOf s).drop q2 = rbandsB (lc.map Prod.fst) rs) := fun l rs h => by
        obtain ⟨h1, h2, h3⟩ := HFA.out l rs h
        have h4 : rs.length ≤ 2000 := by
          have h5 := h.1.rows
          have h6 : rs.length ≤ rowsR rs := rowsR_ge rs (fun b hb => (h.1.bands b hb).lo)
          omega
        obtain ⟨e1, e2, e3⟩ := hu2' _ h4 (rest_starts h3)
        exact ⟨by rw [e3, h1], h2, e1.symm, by rw [e2]; exact rest_next h3⟩
      have hR2' := hR2
      obtain ⟨x0, x1, x2, x3, x4, x5⟩ := rb_cells hR2'
      have HBL : Hid (Below w.heap.size w w2) := HS2.out.bel
      clear hK2 hR2 hu2' hst2 HSB HRB HFA hR2'
      cases bA
      · have HN : Hid (∀ l rs, ROk l rs → bytesOf s ≠ ftR l rs) := fun l rs h1 h2 => by
          have h3 := (HF2.out l rs ⟨h1, h2⟩).2.1
          rw [h3] at h1
          exact absurd (HA.out.2 h1.pl.1) (by simp)
        go_wp2
        go_ret2
        exact ⟨HBL.out, .inr ⟨_, rfl, HN.out⟩⟩
      cases bB
      · have HN : Hid (∀ l rs, ROk l rs → bytesOf s ≠ ftR l rs) := fun l rs h1 h2 => by
          have h3 := (HF2.out l rs ⟨h1, h2⟩).2.1
          rw [h3] at h1
          exact absurd (HB.out.2 h1.pl.2) (by simp)
        go_wp2
        go_ret2
        exact ⟨HBL.out, .inr ⟨_, rfl, HN.out⟩⟩
      cases b2
      rotate_left
      · have HN : Hid (∀ l rs, ROk l rs → bytesOf s ≠ ftR l rs) := fun l rs h1 h2 => absurd (HF2.out l rs ⟨h1, h2⟩).1 (by simp)
        go_wp2
        go_ret2
        exact ⟨HBL.out, .inr ⟨_, rfl, HN.out⟩⟩
      have HPL : Hid (PlOk lc) := ⟨HA.out.1 rfl, HB.out.1 rfl⟩
      clear HA HB HBL
      go_upto_region 17 with fail
      clear x0 x1 x2 x3 x4 x5
      have hl1 : 1 ≤ lc.length := by have := HPL.out.1.1; simpa using this
      have hl8 : lc.length ≤ 8 := by have := HPL.out.1.2.1; simpa using this
      obtain ⟨cb, hco, -, -, -⟩ := crow_own HS2.out.cols (by rw [List.length_map]; omega)
      subst hco
      have HKI : Hid (∀ i (h : i < (lc.map Prod.fst).length), (lc.map Prod.fst)[i].kind = 1 ∨ (lc.map Prod.fst)[i].kind = 2 ∨ (lc.map Prod.fst)[i].kind = 3) := kinds_ok HPL.out
      clear HCK
      go_wp2_with fail
      go_loopw [14] (fun i wr => ∃ (L : List (RBd × Value)) (bv : Value) (q : Nat) (b : Bool), i = .int .i64 (L.length : Int) ∧ L.length ≤ m ∧ PF w wr (.slice (some ⟨cb, 0, none⟩) lc.length cc) (.slice eo lc.length ec) bv (rowsR (L.map Prod.fst)) (lc.map Prod.fst) (lc.map Prod.snd) L ∧ rowsR (L.map Prod.fst) ≤ L.length * 100 ∧ q ≤ s.size ∧ wr.heap[w.heap.size]? = some (rb s q b) ∧ (b = false → ∀ p ∈ L, RGood (lc.map Prod.fst) p.1) ∧
          (∀ l rs, Hf s l rs → b = false ∧ l = lc ∧ rs.length = m ∧ L.map Prod.fst = rs.take L.length ∧ (bytesOf s).drop q = rbandsB (lc.map Prod.fst) (rs.drop L.length))) (fun i _ => m - (intOf i).toNat)
      case atStart => exact ⟨[], _, q2, false, rfl, Nat.zero_le _, HS2.out, by simp [rowsR], hq2, HR2.out, fun _ p hp => by simp at hp, fun l rs h => by obtain ⟨h1, h2, h3, h4⟩ := HF2.out l rs h; exact ⟨rfl, h2, h3, by simp, by simpa using h4⟩⟩
      case round =>
        clear HS2 HR2 HF2 hq2
        rename World => B
        obtain ⟨L, bv, q, b, rfl, hLm, hS, hrw, hq, hR, hG, hF⟩ := hrel
        have HS : Hid (PF w B (.slice (some ⟨cb, 0, none⟩) lc.length cc) (.slice eo lc.length ec) bv (rowsR (L.map Prod.fst)) (lc.map Prod.fst) (lc.map Prod.snd) L) := hS
        have HR : Hid (B.heap[w.heap.size]? = some (rb s q b)) := hR
        have HG : Hid (b = false → ∀ p ∈ L, RGood (lc.map Prod.fst) p.1) := hG
        have HF : Hid (∀ l rs, Hf s l rs → b = false ∧ l = lc ∧ rs.length = m ∧ L.map Prod.fst = rs.take L.length ∧ (bytesOf s).drop q = rbandsB (lc.map Prod.fst) (rs.drop L.length)) := hF
        have HRW : Hid (rowsR (L.map Prod.fst) ≤ L.length * 100) := hrw
        have hrn : rowsR (L.map Prod.fst) ≤ 200000 := by omega
        have hB : w.heap.size + 1 < B.heap.size := lt_of_block hS.file
        obtain ⟨x0, x1, x2, x3, x4, x5⟩ := rb_cells hR
        clear hS hR hG hF hrw
        cases b
        rotate_left
        · have HN : Hid (∀ l rs, ROk l rs → bytesOf s ≠ ftR l rs) := fun l rs h1 h2 => absurd (HF.out l rs ⟨h1, h2⟩).1 (by simp)
          have HBL : Hid (Below w.heap.size w B) := HS.out.bel
          by_cases hlt : L.length < m
          · go_wp2
            go_ret2
            exact ⟨HBL.out, .inr ⟨_, rfl, HN.out⟩⟩
          · go_wp2
            go_ret2
            exact ⟨HBL.out, .inr ⟨_, rfl, HN.out⟩⟩
        have HGL : Hid (∀ p ∈ L, RGood (lc.map Prod.fst) p.1) := HG.out rfl
        by_cases hlt : L.length < m
        · -- one band more
          have HFB : Hid (∀ l rs, Hf s l rs → l = lc ∧ rs.length = m ∧ L.map Prod.fst = rs.take L.length ∧ ∃ h : L.length < rs.length, RGood (lc.map Prod.fst) rs[L.length] ∧ (bytesOf s).drop q = vint rs[L.length].rows ++ (prtsF (lc.map Prod.fst) 0 rs[L.length].parts ++ rbandsB (lc.map Prod.fst) (rs.drop (L.length + 1)))) := fun l rs h => by
            obtain ⟨h1, h2, h3, h4, h5⟩ := HF.out l rs h
            have hi : L.length < rs.length := by omega
            have hg := h.1.bands _ (List.getElem_mem hi)
            rw [h2] at hg
            refine ⟨h2, h3, h4, hi, hg, ?_⟩
            rw [h5, List.drop_eq_getElem_cons hi]
            unfold rbandsB
            rw [List.flatMap_cons, rbandB_F, List.append_assoc]
          clear HF x0 x1 x2 x3 x4 x5
          have x2 := (rb_cells HR.out).2.2.1
          go_upto_region 20 with fail
          clear x2
          go_wp2_with fail
          refine (rnumberS_any w.heap.size q 100 false s _ (by omega) hm2 hq HR.out).mono ?_
          rintro e w2 ⟨hK2, nr, q2, b2, rfl, hnr, hq2, hR2, hu2', -⟩
          have hP : PB w B (w2.alloc (.cells #[.int .i64 (nr : Int), .slice none 0 0] 99)) w2.heap.size nr (.slice none 0 0) [] := ⟨alloc_at w2 _, World.ownsRow_nil _ _ _ _, hK2.size, hK2.alloc _⟩
          have hRW : (w2.alloc (.cells #[.int .i64 (nr : Int), .slice none 0 0] 99)).heap[w.heap.size]? = some (rb s q2 b2) := by rw [Below.heap_alloc _ _ _ (lt_of_block hR2)]; exact hR2
          have HF2 : Hid (∀ l rs, Hf s l rs → b2 = false ∧ l = lc ∧ rs.length = m ∧ L.map Prod.fst = rs.take L.length ∧ ∃ h : L.length < rs.length, RGood (lc.map Prod.fst) rs[L.length] ∧ rs[L.length].rows = nr ∧ (bytesOf s).drop q2 = prtsF (lc.map Prod.fst) 0 rs[L.length].parts ++ rbandsB (lc.map Prod.fst) (rs.drop (L.length + 1))) := fun l rs h => by
            obtain ⟨h2, h3, h4, hi, h5, h6⟩ := HFB.out l rs h
            obtain ⟨e1, e2, e3⟩ := hu2' _ h5.hi (rest_starts h6)
            exact ⟨e3, h2, h3, h4, hi, h5, e1.symm, by rw [e2]; exact rest_next h6⟩
          go_upto_region 21 with fail
          generalize w2.alloc (.cells #[.int .i64 (nr : Int), .slice none 0 0] 99) = W3 at *
          generalize w2.heap.size = g at *
          have HP3 : Hid (PB w B W3 g nr (.slice none 0 0) []) := hP
          have HR3 : Hid (W3.heap[w.heap.size]? = some (rb s q2 b2)) := hRW
          clear hK2 hR2 hu2' hP hRW HFB HG HR
          clear w2
          go_wp2_with fail
          go_loopw [16] (fun i wi => ∃ (ps : List Prt) (pv : Value) (q : Nat) (b : Bool), i = .int .i64 (ps.length : Int) ∧ ps.length ≤ lc.length ∧ PB w B wi g nr pv ps ∧ q ≤ s.size ∧ wi.heap[w.heap.size]? = some (rb s q b) ∧ (b = false → AllI (PtOk (lc.map Prod.fst)) ps) ∧
              (∀ l rs, Hf s l rs → b = false ∧ l = lc ∧ rs.length = m ∧ L.map Prod.fst = rs.take L.length ∧ ∃ h : L.length < rs.length, RGood (lc.map Prod.fst) rs[L.length] ∧ rs[L.length].rows = nr ∧ ps = rs[L.length].parts.take ps.length ∧ (bytesOf s).drop q = prtsF (lc.map Prod.fst) ps.length (rs[L.length].parts.drop ps.length) ++ rbandsB (lc.map Prod.fst) (rs.drop (L.length + 1)))) (fun i _ => lc.length - (intOf i).toNat)
          case atStart => exact ⟨[], _, q2, b2, rfl, Nat.zero_le _, HP3.out, hq2, HR3.out, fun _ i hi => by simp at hi, fun l rs h => by obtain ⟨h1, h2, h3, h4, hi, h5, h6, h7⟩ := HF2.out l rs h; exact ⟨h1, h2, h3, h4, hi, h5, h6, by simp, by simpa using h7⟩⟩
          case round =>
            clear HP3 HR3 HF2 hq2
            obtain ⟨ps, pv, q, b, rfl, hpl, hP, hq, hR, hA, hF⟩ := hrel
            have HP : Hid (PB w B wr g nr pv ps) := hP
            have HR : Hid (wr.heap[w.heap.size]? = some (rb s q b)) := hR
            have HA : Hid (b = false → AllI (PtOk (lc.map Prod.fst)) ps) := hA
            have HF : Hid (∀ l rs, Hf s l rs → b = false ∧ l = lc ∧ rs.length = m ∧ L.map Prod.fst = rs.take L.length ∧ ∃ h : L.length < rs.length, RGood (lc.map Prod.fst) rs[L.length] ∧ rs[L.length].rows = nr ∧ ps = rs[L.length].parts.take ps.length ∧ (bytesOf s).drop q = prtsF (lc.map Prod.fst) ps.length (rs[L.length].parts.drop ps.length) ++ rbandsB (lc.map Prod.fst) (rs.drop (L.length + 1))) := hF
            obtain ⟨po, pc, rfl⟩ := own_form hP.own
            clear hP hR hA hF
            by_cases hlp : ps.length < lc.length
            · have hic : ps.length < (lc.map Prod.fst).length := by rw [List.length_map]; exact hlp
              have HKC : Hid ((lc.map Prod.fst)[ps.length].kind = 1 ∨ (lc.map Prod.fst)[ps.length].kind = 2 ∨ (lc.map Prod.fst)[ps.length].kind = 3) := HKI.out _ hic
              have HGD : Hid (((lc.map Prod.fst).getD ps.length ⟨⟨#[]⟩, 0⟩).kind = (lc.map Prod.fst)[ps.length].kind) := by show _ = _; rw [List.getD_eq_getElem?_getD, List.getElem?_eq_getElem hic]; rfl
              have HCOL : Hid (∀ W, Kp w.heap.size B W → W.cell? ⟨w.heap.size + 1, 0, none⟩ = some (.slice (some ⟨cb, 0, none⟩) lc.length cc) ∧ W.cell? ⟨cb, ps.length * 2 + 1, none⟩ = some (.int .i64 (lc.map Prod.fst)[ps.length].kind)) := fun W k => ⟨(HS.out.kp k).cells.1.1, (HS.out.kp k).kind _ hic⟩
              have HLE : Hid (∀ g', (Value.slice po ps.length pc).ownBlock = some g' → g' < wr.heap.size) := fun g' h => (HP.out.own.lt g' h).2
              have hgw : g < wr.heap.size := lt_of_block HP.out.box
              have hBw : B.heap.size ≤ wr.heap.size := HP.out.kp.size
              generalize hkk : (lc.map Prod.fst)[ps.length].kind = kk at *
              clear hkk
              go_wp2_with fail
              refine (rnumberS_any w.heap.size q 65536 b s _ (by omega) hm2 hq HR.out).mono ?_
              rintro e w2 ⟨hK2, sz, q2, b2, rfl, hsz, hq2, hR2, hu2', hst2⟩
              have hPP : PP w B (w2.alloc (.cells (rcell ⟨sz, noBnd, ⟨#[]⟩⟩).toArray 101)) g nr (.slice po ps.length pc) ps w2.heap.size sz noBnd := ⟨(HP.out.step (by omega) hK2).below (by omega) ((Below.refl _ _).alloc (Nat.le_refl _) _), alloc_at w2 _, fun h => by have := HLE.out _ h; have := hK2.size; omega, by have := hK2.size; omega, Nat.le_trans hBw hK2.size⟩
              have hRW : (w2.alloc (.cells (rcell ⟨sz, noBnd, ⟨#[]⟩⟩).toArray 101)).heap[w.heap.size]? = some (rb s q2 b2) := by rw [Below.heap_alloc _ _ _ (lt_of_block hR2)]; exact hR2
              have HU2 : Hid (∀ y, y ≤ 65536 → Starts (bytesOf s) q (vint y) → sz = y ∧ q2 = q + (vint y).length ∧ b2 = b) := hu2'
              have HST2 : Hid (b = true → b2 = true) := hst2
              rw [show (rcell ⟨sz, noBnd, ⟨#[]⟩⟩).toArray = #[.int .i64 (sz : Int), .bool false, .bool false, .int .i64 0, .string ⟨#[]⟩, .bool false, .int .i64 0, .string ⟨#[]⟩, .string ⟨#[]⟩] from rfl] at hPP hRW
              clear hR2 hu2' hst2
              go_upto_region 25 with fail
              generalize w2.alloc (.cells #[.int .i64 (sz : Int), .bool false, .bool false, .int .i64 0, .string ⟨#[]⟩, .bool false, .int .i64 0, .string ⟨#[]⟩, .string ⟨#[]⟩] 101) = W3 at *
              generalize w2.heap.size = h at *
              have HP3 : Hid (PP w B W3 g nr (.slice po ps.length pc) ps h sz noBnd) := hPP
              have HR3 : Hid (W3.heap[w.heap.size]? = some (rb s q2 b2)) := hRW
              clear hPP hRW hK2 HP HR
              clear w2
              go_wp2_with fail
              refine (rbyteS_any w.heap.size q2 b2 s _ hm2 hq2 HR3.out).mono ?_
              rintro e w4 ⟨hK4, fl, q4, b4, rfl, hfl, hq4, hR4, hu4', hst4⟩
              have HP4 : Hid (PP w B w4 g nr (.slice po ps.length pc) ps h sz noBnd) := HP3.out.step (by omega) hK4
              have HR4 : Hid (w4.heap[w.heap.size]? = some (rb s q4 b4)) := hR4
              have HU4 : Hid (∀ x, Starts (bytesOf s) q2 [x] → fl = x ∧ q4 = q2 + 1 ∧ b4 = b2) := hu4'
              have HST4 : Hid (b2 = true → b4 = true) := hst4
              clear hK4 hR4 hu4' hst4 HP3 HR3
              go_upto_if 119 with fail
              go_cut [] from 118 to 122 (fun wx => ∃ b5, PP w B wx g nr (.slice po ps.length pc) ps h sz noBnd ∧ wx.heap[w.heap.size]? = some (rb s q4 b5) ∧ ((fl ≤ 1 ∧ b5 = b4) ∨ (1 < fl ∧ b5 = true)))
              case first =>
                obtain ⟨x0, x1, x2, x3, x4, x5⟩ := rb_cells HR4.out
                by_cases h1 : 1 < fl
                · have hd : decide ((1 : Int) < (fl : Int)) = true := by simp; omega
                  have HPx : Hid (PP w B (w4.setCell ⟨w.heap.size, 2, none⟩ (.bool true)) g nr (.slice po ps.length pc) ps h sz noBnd) := HP4.out.step (by omega) (Kp.set0 (Kp.refl _ _))
                  have HRx : Hid ((w4.setCell ⟨w.heap.size, 2, none⟩ (.bool true)).heap[w.heap.size]? = some (rb s q4 true)) := rb_bad0 HR4.out
                  go_wp2
                  go_meet
                  exact ⟨true, HPx.out, HRx.out, .inr ⟨h1, rfl⟩⟩
                · have hd : decide ((1 : Int) < (fl : Int)) = false := by simp; omega
                  go_wp2
                  go_meet
                  exact ⟨b4, HP4.out, HR4.out, .inl ⟨by omega, rfl⟩⟩
              case rest =>
                obtain ⟨b5, hPx, hRx, hfb⟩ := hcut
                rename World => w5
                have HP5 : Hid (PP w B w5 g nr (.slice po ps.length pc) ps h sz noBnd) := hPx
                have HR5 : Hid (w5.heap[w.heap.size]? = some (rb s q4 b5)) := hRx
                have HFB : Hid ((fl ≤ 1 ∧ b5 = b4) ∨ (1 < fl ∧ b5 = true)) := hfb
                clear hPx hRx hfb HP4 HR4
                go_upto_if 124 with fail
                go_cut [19, 20, 21] from 123 to 186 (fun v19 v20 v21 wx => ∃ x q6 b6, PP w B wx g nr (.slice po ps.length pc) ps h sz x ∧ wx.heap[w.heap.size]? = some (rb s q6 b6) ∧ RB s kk q2 b2 x q6 b6)
                case first =>
                  by_cases h1 : fl = 1
                  · have hb5 : b5 = b4 := by rcases HFB.out with ⟨-, h⟩ | ⟨h, -⟩; exact h; omega
                    subst hb5
                    subst h1
                    obtain ⟨⟨p0, p1, p2, p3, p4, p5, p6, p7, p8⟩, pf⟩ := HP5.out.cells
                    have f1 := pf 1
                    go_upto_region 30 with fail
                    have hP6 : PP w B (w5.setCell ⟨h, 1, none⟩ (.bool true)) g nr (.slice po ps.length pc) ps h sz ⟨true, noBnd.least, noBnd.most⟩ := PP.put1 (x := noBnd) HP5.out
                    have hR6 : (w5.setCell ⟨h, 1, none⟩ (.bool true)).heap[w.heap.size]? = some (rb s q4 b5) := HP5.out.read1 (by omega) HR5.out _ _
                    clear p0 p1 p2 p3 p4 p5 p6 p7 p8 pf f1
                    generalize w5.setCell ⟨h, 1, none⟩ (.bool true) = W6 at *
                    have HP6 : Hid (PP w B W6 g nr (.slice po ps.length pc) ps h sz ⟨true, noBnd.least, noBnd.most⟩) := hP6
                    have HR6 : Hid (W6.heap[w.heap.size]? = some (rb s q4 b5)) := hR6
                    obtain ⟨c0, c1⟩ := HCOL.out W6 hP6.pb.kp
                    clear hP6 hR6 HP5 HR5
                    go_wp2_with fail
                    refine (roneS_any kk HKC.out w.heap.size q4 b5 s _ hm2 hq4 HR6.out).mono ?_
                    rintro e w7 ⟨hK7, v1, rfl, hv1, q7, b7, hq7, hR7, hu7, hst7⟩
                    have HV1 : Hid (VR v1) := hv1
                    have HU7 : Hid (∀ x, VK kk x → Starts (bytesOf s) q4 (plainB kk x) → v1 = x ∧ q7 = q4 + (plainB kk x).length ∧ b7 = b5) := hu7
                    have HST7 : Hid (b5 = true → b7 = true) := hst7
                    have hP7 := HP6.out.step (by omega) hK7
                    have HP7 : Hid (PP w B w7 g nr (.slice po ps.length pc) ps h sz ⟨true, noBnd.least, noBnd.most⟩) := hP7
                    have HR7 : Hid (w7.heap[w.heap.size]? = some (rb s q7 b7)) := hR7
                    obtain ⟨⟨p0, p1, p2, p3, p4, p5, p6, p7, p8⟩, pf⟩ := hP7.cells
                    have f2 := pf 2
                    have f3 := pf 3
                    have f4 := pf 4
                    clear c0 c1 hv1 hu7 hst7 hP7 hR7 hK7 HP6 HR6
                    go_upto_region 31 with fail
                    have hP8 : PP w B (((w7.setCell ⟨h, 2, none⟩ (.bool v1.null)).setCell ⟨h, 3, none⟩ (.int .i64 v1.n)).setCell ⟨h, 4, none⟩ (.string v1.s)) g nr (.slice po ps.length pc) ps h sz ⟨true, v1, noBnd.most⟩ := HP7.out.putL v1
                    have hR8 : (((w7.setCell ⟨h, 2, none⟩ (.bool v1.null)).setCell ⟨h, 3, none⟩ (.int .i64 v1.n)).setCell ⟨h, 4, none⟩ (.string v1.s)).heap[w.heap.size]? = some (rb s q7 b7) := HP7.out.readL (by omega) HR7.out _ _ _ _ _ _
                    clear p0 p1 p2 p3 p4 p5 p6 p7 p8 pf f2 f3 f4
                    generalize ((w7.setCell ⟨h, 2, none⟩ (.bool v1.null)).setCell ⟨h, 3, none⟩ (.int .i64 v1.n)).setCell ⟨h, 4, none⟩ (.string v1.s) = W8 at *
                    have HP8 : Hid (PP w B W8 g nr (.slice po ps.length pc) ps h sz ⟨true, v1, noBnd.most⟩) := hP8
                    have HR8 : Hid (W8.heap[w.heap.size]? = some (rb s q7 b7)) := hR8
                    obtain ⟨c0, c1⟩ := HCOL.out W8 hP8.pb.kp
                    clear hP8 hR8 HP7 HR7
                    clear w7 W6
                    go_wp2_with fail
                    refine (roneS_any kk HKC.out w.heap.size q7 b7 s _ hm2 hq7 HR8.out).mono ?_
                    rintro e w9 ⟨hK9, v2, rfl, hv2, q9, b9, hq9, hR9, hu9, hst9⟩
                    have HV2 : Hid (VR v2) := hv2
                    have HU9 : Hid (∀ x, VK kk x → Starts (bytesOf s) q7 (plainB kk x) → v2 = x ∧ q9 = q7 + (plainB kk x).length ∧ b9 = b7) := hu9
                    have HST9 : Hid (b7 = true → b9 = true) := hst9
                    have hP9 := HP8.out.step (by omega) hK9
                    have HP9 : Hid (PP w B w9 g nr (.slice po ps.length pc) ps h sz ⟨true, v1, noBnd.most⟩) := hP9
                    have HR9 : Hid (w9.heap[w.heap.size]? = some (rb s q9 b9)) := hR9
                    obtain ⟨⟨p0, p1, p2, p3, p4, p5, p6, p7, p8⟩, pf⟩ := hP9.cells
                    have f5 := pf 5
                    have f6 := pf 6
                    have f7 := pf 7
                    clear c0 c1 hv2 hu9 hst9 hP9 hR9 hK9 HP8 HR8
                    go_upto_region 32 with fail
                    have hPa : PP w B (((w9.setCell ⟨h, 5, none⟩ (.bool v2.null)).setCell ⟨h, 6, none⟩ (.int .i64 v2.n)).setCell ⟨h, 7, none⟩ (.string v2.s)) g nr (.slice po ps.length pc) ps h sz ⟨true, v1, v2⟩ := HP9.out.putM v2
                    have hRa : (((w9.setCell ⟨h, 5, none⟩ (.bool v2.null)).setCell ⟨h, 6, none⟩ (.int .i64 v2.n)).setCell ⟨h, 7, none⟩ (.string v2.s)).heap[w.heap.size]? = some (rb s q9 b9) := HP9.out.readL (by omega) HR9.out _ _ _ _ _ _
                    clear p0 p1 p2 p3 p4 p5 p6 p7 p8 pf f5 f6 f7
                    generalize ((w9.setCell ⟨h, 5, none⟩ (.bool v2.null)).setCell ⟨h, 6, none⟩ (.int .i64 v2.n)).setCell ⟨h, 7, none⟩ (.string v2.s) = Wa at *
                    have HPa : Hid (PP w B Wa g nr (.slice po ps.length pc) ps h sz ⟨true, v1, v2⟩) := hPa
                    have HRa : Hid (Wa.heap[w.heap.size]? = some (rb s q9 b9)) := hRa
                    clear hPa hRa HP9 HR9
                    clear w9 W8
                    obtain ⟨⟨p0, p1, p2, p3, p4, p5, p6, p7, p8⟩, -⟩ := HPa.out.cells
                    obtain ⟨c0, c1⟩ := HCOL.out Wa HPa.out.pb.kp
                    have HMY : Hid (Calls Try.prog 41 #[.agg #[.bool v1.null, .int .i64 v1.n, .string v1.s], .int .i64 kk] Wa.drew fun e w' => e = .returned (.bool (mayB v1 kk)) ∧ Below Wa.drew.heap.size Wa.drew w') := may_any v1 kk _ HKC.out
                    refine Un.begin_ (fun W => (W.cell? ⟨h, 2, none⟩ = some (.bool v1.null) ∧ W.cell? ⟨h, 3, none⟩ = some (.int .i64 v1.n) ∧ W.cell? ⟨h, 4, none⟩ = some (.string v1.s)) ∧ W.cell? ⟨w.heap.size + 1, 0, none⟩ = some (.slice (some ⟨cb, 0, none⟩) lc.length cc) ∧ W.cell? ⟨cb, ps.length * 2 + 1, none⟩ = some (.int .i64 kk)) 11 (by kernel_rfl) ?_
                    have hHeld : (fun W => (W.cell? ⟨h, 2, none⟩ = some (.bool v1.null) ∧ W.cell? ⟨h, 3, none⟩ = some (.int .i64 v1.n) ∧ W.cell? ⟨h, 4, none⟩ = some (.string v1.s)) ∧ W.cell? ⟨w.heap.size + 1, 0, none⟩ = some (.slice (some ⟨cb, 0, none⟩) lc.length cc) ∧ W.cell? ⟨cb, ps.length * 2 + 1, none⟩ = some (.int .i64 kk)) Wa.drew := ⟨⟨p2, p3, p4⟩, c0, c1⟩
                    refine Un.pick (i := 0) (v := ?_) rfl (by kernel_rfl) (by kernel_rfl) (by kernel_rfl) (by kernel_rfl) (fun _ _ _ h => h) (Or.inl ⟨by rfl, ?_⟩) (by assumption) ?_
                    rotate_left
                    · intro w _; go_simp
                      try with_reducible rfl
                    try simp only [Act.put, List.setIfInBounds_toArray, List.set_cons_zero, List.set_cons_succ]
                    refine Un.take (i := 1) (v := ?_) rfl (by kernel_rfl) (by kernel_rfl) (by kernel_rfl) (by kernel_rfl) (by kernel_rfl) (by kernel_rfl) (fun _ _ _ h => h) (Or.inl ⟨by rfl, ?_⟩) (by assumption) ?_
                    rotate_left
                    · intro w hSw; (try dsimp only at hSw); go_simp
                      try with_reducible rfl
                    try simp only [Act.put, List.setIfInBounds_toArray, List.set_cons_zero, List.set_cons_succ]
                    refine Un.pick (i := 2) (v := ?_) rfl (by kernel_rfl) (by kernel_rfl) (by kernel_rfl) (by kernel_rfl) (fun _ _ _ h => h) (Or.inl ⟨by rfl, ?_⟩) (by assumption) ?_
                    rotate_left
                    · intro w _; go_simp
                      try with_reducible rfl
                    try simp only [Act.put, List.setIfInBounds_toArray, List.set_cons_zero, List.set_cons_succ]
                    refine Un.pick (i := 3) (v := ?_) rfl (by kernel_rfl) (by kernel_rfl) (by kernel_rfl) (by kernel_rfl) (fun _ _ _ h => h) (Or.inl ⟨by rfl, ?_⟩) (by assumption) ?_
                    rotate_left
                    · intro w _; go_simp
                      try with_reducible rfl
                    try simp only [Act.put, List.setIfInBounds_toArray, List.set_cons_zero, List.set_cons_succ]
                    refine Un.pick (i := 4) (v := ?_) rfl (by kernel_rfl) (by kernel_rfl) (by kernel_rfl) (by kernel_rfl) (fun _ _ _ h => h) (Or.inl ⟨by rfl, ?_⟩) (by assumption) ?_
                    rotate_left
                    · intro w _; go_simp
                      try with_reducible rfl
                    try simp only [Act.put, List.setIfInBounds_toArray, List.set_cons_zero, List.set_cons_succ]
                    refine Un.take (i := 5) (v := ?_) rfl (by kernel_rfl) (by kernel_rfl) (by kernel_rfl) (by kernel_rfl) (by kernel_rfl) (by kernel_rfl) (fun _ _ _ h => h) (Or.inl ⟨by rfl, ?_⟩) (by assumption) ?_
                    rotate_left
                    · intro w hSw; (try dsimp only at hSw); go_simp
                      try with_reducible rfl
                    try simp only [Act.put, List.setIfInBounds_toArray, List.set_cons_zero, List.set_cons_succ]
                    refine Un.pick (i := 6) (v := ?_) rfl (by kernel_rfl) (by kernel_rfl) (by kernel_rfl) (by kernel_rfl) (fun _ _ _ h => h) (Or.inl ⟨by rfl, ?_⟩) (by assumption) ?_
                    rotate_left
                    · intro w _; go_simp
                      try with_reducible rfl
                    try simp only [Act.put, List.setIfInBounds_toArray, List.set_cons_zero, List.set_cons_succ]
                    refine Un.pick (i := 7) (v := ?_) rfl (by kernel_rfl) (by kernel_rfl) (by kernel_rfl) (by kernel_rfl) (fun _ _ _ h => h) (Or.inl ⟨by rfl, ?_⟩) (by assumption) ?_
                    rotate_left
                    · intro w _; go_simp
                      try with_reducible rfl
                    try simp only [Act.put, List.setIfInBounds_toArray, List.set_cons_zero, List.set_cons_succ]
                    refine Un.pick (i := 8) (v := ?_) rfl (by kernel_rfl) (by kernel_rfl) (by kernel_rfl) (by kernel_rfl) (fun _ _ _ h => h) (Or.inl ⟨by rfl, ?_⟩) (by assumption) ?_
                    rotate_left
                    · intro w _; go_simp
                      try with_reducible rfl
                    try simp only [Act.put, List.setIfInBounds_toArray, List.set_cons_zero, List.set_cons_succ]
                    refine Un.take (i := 9) (v := ?_) rfl (by kernel_rfl) (by kernel_rfl) (by kernel_rfl) (by kernel_rfl) (by kernel_rfl) (by kernel_rfl) (fun _ _ _ h => h) (Or.inl ⟨by rfl, ?_⟩) (by assumption) ?_
                    rotate_left
                    · intro w hSw; (try dsimp only at hSw); go_simp
                      try with_reducible rfl
                    try simp only [Act.put, List.setIfInBounds_toArray, List.set_cons_zero, List.set_cons_succ]
                    refine Un.one (i := 10) (by kernel_rfl) rfl (fun K hK => ?_)
                    rw [if_pos (by rfl)]
                    go_simp
                    go_at_call 41
                    refine HMY.out.mono ?_
                    rintro e Wb ⟨rfl, hbb⟩
                    have hbb2 : Below Wa.heap.size Wa Wb := (Below.refl Wa.heap.size Wa).drew.trans hbb
                    have HPb : Hid (PP w B Wb g nr (.slice po ps.length pc) ps h sz ⟨true, v1, v2⟩) := HPa.out.below (by omega) hbb2
                    have HRb : Hid (Wb.heap[w.heap.size]? = some (rb s q9 b9)) := (hbb2.block _ (lt_of_block HRa.out)).trans HRa.out
                    have hc2 := HPb.out.cells.1
                    have hc3 := HCOL.out Wb HPb.out.pb.kp
                    refine hK.out _ _ (fun _ => ⟨⟨hc2.2.2.1, hc2.2.2.2.1, hc2.2.2.2.2.1⟩, hc3⟩) ?_
                    clear hK K hHeld hbb hbb2 hc2 hc3 p0 p1 p2 p3 p4 p5 p6 p7 p8 c0 c1 HMY HPa HRa
                    try simp only [Act.put, List.setIfInBounds_toArray, List.set_cons_zero, List.set_cons_succ]
                    refine Un.one (i := 11) (by kernel_rfl) rfl (fun K hK => ?_)
                    rw [if_pos (by rfl)]
                    go_simp
                    refine hK.out _ _ (fun h => absurd h (by decide)) ?_
                    clear hK K
                    try simp only [Act.put, List.setIfInBounds_toArray, List.set_cons_zero, List.set_cons_succ]
                    refine Un.done (by kernel_rfl) ?_ _
                    try simp only [Act.put, List.setIfInBounds_toArray, List.set_cons_zero, List.set_cons_succ]
                    clear Wa
                    go_upto_region 33 with fail
                    obtain ⟨⟨p0, p1, p2, p3, p4, p5, p6, p7, p8⟩, -⟩ := HPb.out.cells
                    obtain ⟨c0, c1⟩ := HCOL.out Wb HPb.out.pb.kp
                    have HMY : Hid (Calls Try.prog 41 #[.agg #[.bool v2.null, .int .i64 v2.n, .string v2.s], .int .i64 kk] Wb.drew fun e w' => e = .returned (.bool (mayB v2 kk)) ∧ Below Wb.drew.heap.size Wb.drew w') := may_any v2 kk _ HKC.out
                    refine Un.begin_ (fun W => (W.cell? ⟨h, 5, none⟩ = some (.bool v2.null) ∧ W.cell? ⟨h, 6, none⟩ = some (.int .i64 v2.n) ∧ W.cell? ⟨h, 7, none⟩ = some (.string v2.s)) ∧ W.cell? ⟨w.heap.size + 1, 0, none⟩ = some (.slice (some ⟨cb, 0, none⟩) lc.length cc) ∧ W.cell? ⟨cb, ps.length * 2 + 1, none⟩ = some (.int .i64 kk)) 11 (by kernel_rfl) ?_
                    have hHeld : (fun W => (W.cell? ⟨h, 5, none⟩ = some (.bool v2.null) ∧ W.cell? ⟨h, 6, none⟩ = some (.int .i64 v2.n) ∧ W.cell? ⟨h, 7, none⟩ = some (.string v2.s)) ∧ W.cell? ⟨w.heap.size + 1, 0, none⟩ = some (.slice (some ⟨cb, 0, none⟩) lc.length cc) ∧ W.cell? ⟨cb, ps.length * 2 + 1, none⟩ = some (.int .i64 kk)) Wb.drew := ⟨⟨p5, p6, p7⟩, c0, c1⟩
                    refine Un.pick (i := 0) (v := ?_) rfl (by kernel_rfl) (by kernel_rfl) (by kernel_rfl) (by kernel_rfl) (fun _ _ _ h => h) (Or.inl ⟨by rfl, ?_⟩) (by assumption) ?_
                    rotate_left
                    · intro w _; go_simp
                      try with_reducible rfl
                    try simp only [Act.put, List.setIfInBounds_toArray, List.set_cons_zero, List.set_cons_succ]
                    refine Un.take (i := 1) (v := ?_) rfl (by kernel_rfl) (by kernel_rfl) (by kernel_rfl) (by kernel_rfl) (by kernel_rfl) (by kernel_rfl) (fun _ _ _ h => h) (Or.inl ⟨by rfl, ?_⟩) (by assumption) ?_
                    rotate_left
                    · intro w hSw; (try dsimp only at hSw); go_simp
                      try with_reducible rfl
                    try simp only [Act.put, List.setIfInBounds_toArray, List.set_cons_zero, List.set_cons_succ]
                    refine Un.pick (i := 2) (v := ?_) rfl (by kernel_rfl) (by kernel_rfl) (by kernel_rfl) (by kernel_rfl) (fun _ _ _ h => h) (Or.inl ⟨by rfl, ?_⟩) (by assumption) ?_
                    rotate_left
                    · intro w _; go_simp
                      try with_reducible rfl
                    try simp only [Act.put, List.setIfInBounds_toArray, List.set_cons_zero, List.set_cons_succ]
                    refine Un.pick (i := 3) (v := ?_) rfl (by kernel_rfl) (by kernel_rfl) (by kernel_rfl) (by kernel_rfl) (fun _ _ _ h => h) (Or.inl ⟨by rfl, ?_⟩) (by assumption) ?_
                    rotate_left
                    · intro w _; go_simp
                      try with_reducible rfl
                    try simp only [Act.put, List.setIfInBounds_toArray, List.set_cons_zero, List.set_cons_succ]
                    refine Un.pick (i := 4) (v := ?_) rfl (by kernel_rfl) (by kernel_rfl) (by kernel_rfl) (by kernel_rfl) (fun _ _ _ h => h) (Or.inl ⟨by rfl, ?_⟩) (by assumption) ?_
                    rotate_left
                    · intro w _; go_simp
                      try with_reducible rfl
                    try simp only [Act.put, List.setIfInBounds_toArray, List.set_cons_zero, List.set_cons_succ]
                    refine Un.take (i := 5) (v := ?_) rfl (by kernel_rfl) (by kernel_rfl) (by kernel_rfl) (by kernel_rfl) (by kernel_rfl) (by kernel_rfl) (fun _ _ _ h => h) (Or.inl ⟨by rfl, ?_⟩) (by assumption) ?_
                    rotate_left
                    · intro w hSw; (try dsimp only at hSw); go_simp
                      try with_reducible rfl
                    try simp only [Act.put, List.setIfInBounds_toArray, List.set_cons_zero, List.set_cons_succ]
                    refine Un.pick (i := 6) (v := ?_) rfl (by kernel_rfl) (by kernel_rfl) (by kernel_rfl) (by kernel_rfl) (fun _ _ _ h => h) (Or.inl ⟨by rfl, ?_⟩) (by assumption) ?_
                    rotate_left
                    · intro w _; go_simp
                      try with_reducible rfl
                    try simp only [Act.put, List.setIfInBounds_toArray, List.set_cons_zero, List.set_cons_succ]
                    refine Un.pick (i := 7) (v := ?_) rfl (by kernel_rfl) (by kernel_rfl) (by kernel_rfl) (by kernel_rfl) (fun _ _ _ h => h) (Or.inl ⟨by rfl, ?_⟩) (by assumption) ?_
                    rotate_left
                    · intro w _; go_simp
                      try with_reducible rfl
                    try simp only [Act.put, List.setIfInBounds_toArray, List.set_cons_zero, List.set_cons_succ]
                    refine Un.pick (i := 8) (v := ?_) rfl (by kernel_rfl) (by kernel_rfl) (by kernel_rfl) (by kernel_rfl) (fun _ _ _ h => h) (Or.inl ⟨by rfl, ?_⟩) (by assumption) ?_
                    rotate_left
                    · intro w _; go_simp
                      try with_reducible rfl
                    try simp only [Act.put, List.setIfInBounds_toArray, List.set_cons_zero, List.set_cons_succ]
                    refine Un.take (i := 9) (v := ?_) rfl (by kernel_rfl) (by kernel_rfl) (by kernel_rfl) (by kernel_rfl) (by kernel_rfl) (by kernel_rfl) (fun _ _ _ h => h) (Or.inl ⟨by rfl, ?_⟩) (by assumption) ?_
                    rotate_left
                    · intro w hSw; (try dsimp only at hSw); go_simp
                      try with_reducible rfl
                    try simp only [Act.put, List.setIfInBounds_toArray, List.set_cons_zero, List.set_cons_succ]
                    refine Un.one (i := 10) (by kernel_rfl) rfl (fun K hK => ?_)
                    rw [if_pos (by rfl)]
                    go_simp
                    go_at_call 41
                    refine HMY.out.mono ?_
                    rintro e Wc ⟨rfl, hbb⟩
                    have hbb2 : Below Wb.heap.size Wb Wc := (Below.refl Wb.heap.size Wb).drew.trans hbb
                    have HPc : Hid (PP w B Wc g nr (.slice po ps.length pc) ps h sz ⟨true, v1, v2⟩) := HPb.out.below (by omega) hbb2
                    have HRc : Hid (Wc.heap[w.heap.size]? = some (rb s q9 b9)) := (hbb2.block _ (lt_of_block HRb.out)).trans HRb.out
                    have hc2 := HPc.out.cells.1
                    have hc3 := HCOL.out Wc HPc.out.pb.kp
                    refine hK.out _ _ (fun _ => ⟨⟨hc2.2.2.2.2.2.1, hc2.2.2.2.2.2.2.1, hc2.2.2.2.2.2.2.2.1⟩, hc3⟩) ?_
                    clear hK K hHeld hbb hbb2 hc2 hc3 p0 p1 p2 p3 p4 p5 p6 p7 p8 c0 c1 HMY HPb HRb
                    try simp only [Act.put, List.setIfInBounds_toArray, List.set_cons_zero, List.set_cons_succ]
                    refine Un.one (i := 11) (by kernel_rfl) rfl (fun K hK => ?_)
                    rw [if_pos (by rfl)]
                    go_simp
                    refine hK.out _ _ (fun h => absurd h (by decide)) ?_
                    clear hK K
                    try simp only [Act.put, List.setIfInBounds_toArray, List.set_cons_zero, List.set_cons_succ]
                    refine Un.done (by kernel_rfl) ?_ _
                    try simp only [Act.put, List.setIfInBounds_toArray, List.set_cons_zero, List.set_cons_succ]
                    clear Wb
                    obtain ⟨⟨p0, p1, p2, p3, p4, p5, p6, p7, p8⟩, -⟩ := HPc.out.cells
                    have hz1 : v1.s.size ≤ maxLen := by have := HV1.out.sz; unfold maxLen; omega
                    have hz2 : v2.s.size ≤ maxLen := by have := HV2.out.sz; unfold maxLen; omega
                    go_wp2_with fail
                    refine (less_any v2 v1 _ hz2 hz1).mono ?_
                    rintro e Wd ⟨rfl, hbd⟩
                    have HPd : Hid (PP w B Wd g nr (.slice po ps.length pc) ps h sz ⟨true, v1, v2⟩) := HPc.out.below (by omega) hbd
                    have HRd : Hid (Wd.heap[w.heap.size]? = some (rb s q9 b9)) := (hbd.block _ (lt_of_block HRc.out)).trans HRc.out
                    have HALL : Hid (∀ bz, (bz = if mayB v1 kk = true ∧ mayB v2 kk = true ∧ ¬ vcmp v2 v1 < 0 then b9 else true) → RB s kk q2 b2 ⟨true, v1, v2⟩ q9 bz) := fun bz hbz => RB.one HKC.out hq9 HU4.out HST4.out rfl HV1.out HU7.out HST7.out HV2.out HU9.out HST9.out hbz
                    obtain ⟨x0, x1, x2, x3, x4, x5⟩ := rb_cells HRd.out
                    have HPe : Hid (PP w B (Wd.setCell ⟨w.heap.size, 2, none⟩ (.bool true)) g nr (.slice po ps.length pc) ps h sz ⟨true, v1, v2⟩) := HPd.out.step (by omega) (Kp.set0 (Kp.refl _ _))
                    have HRe : Hid ((Wd.setCell ⟨w.heap.size, 2, none⟩ (.bool true)).heap[w.heap.size]? = some (rb s q9 true)) := rb_bad0 HRd.out
                    clear p0 p1 p2 p3 p4 p5 p6 p7 p8 hz1 hz2 hbd HPc HRc HU7 HST7 HU9 HST9 HV1 HV2 HCOL
                    clear Wc
                    cases hm1 : mayB v1 kk
                    · rw [hm1] at HALL
                      go_wp2
                      go_meet
                      exact ⟨_, q9, true, HPe.out, HRe.out, HALL.out true (by simp)⟩
                    cases hm2' : mayB v2 kk
                    · rw [hm1, hm2'] at HALL
                      go_wp2
                      go_meet
                      exact ⟨_, q9, true, HPe.out, HRe.out, HALL.out true (by simp)⟩
                    by_cases hv : vcmp v2 v1 < 0
                    · have hdv : decide (vcmp v2 v1 < 0) = true := by simpa using hv
                      have HAL2 : Hid (RB s kk q2 b2 ⟨true, v1, v2⟩ q9 true) := HALL.out true (by rw [if_neg (fun h => h.2.2 hv)])
                      clear HALL hv
                      go_wp2
                      go_meet
                      exact ⟨_, q9, true, HPe.out, HRe.out, HAL2.out⟩
                    · have hdv : decide (vcmp v2 v1 < 0) = false := by simpa using hv
                      have HAL2 : Hid (RB s kk q2 b2 ⟨true, v1, v2⟩ q9 b9) := HALL.out b9 (by rw [if_pos ⟨hm1, hm2', hv⟩])
                      clear HALL hv
                      go_wp2
                      go_meet
                      exact ⟨_, q9, b9, HPd.out, HRd.out, HAL2.out⟩
                  · have HRB : Hid (RB s kk q2 b2 noBnd q4 b5) := by
                      rcases HFB.out with ⟨h2, h3⟩ | ⟨h2, h3⟩
                      · rw [h3]; exact RB.zero hq4 HU4.out HST4.out (by omega)
                      · rw [h3]; exact RB.many hq4 HU4.out h2
                    have hd : ((fl : Int) == 1) = false := by simp; omega
                    have hd2 : ¬ (fl : Int) = 1 := by omega
                    go_wp2
                    go_meet
                    exact ⟨noBnd, q4, b5, HP5.out, HR5.out, HRB.out⟩
                case rest =>
                  obtain ⟨x, q6, b6, hPx, hRx, hRB⟩ := hcut
                  rename World => w6
                  have HRBp : Hid (RB s kk q2 b2 x q6 b6) := hRB
                  have HP6 : Hid (PP w B w6 g nr (.slice po ps.length pc) ps h sz x) := hPx
                  have HR6 : Hid (w6.heap[w.heap.size]? = some (rb s q6 b6)) := hRx
                  have hq6 : q6 ≤ s.size := hRB.le
                  obtain ⟨⟨p0, p1, p2, p3, p4, p5, p6, p7, p8⟩, -⟩ := hPx.cells
                  obtain ⟨g0, g1, g2⟩ := hPx.pb.cells
                  have hown := hPx.pb.own
                  have hz6 : B.heap.size ≤ w6.heap.size := hPx.pb.kp.size
                  clear hPx hRx hRB HP5 HR5 HFB HCOL HLE
                  go_upto_region 23 with (at_builtin; refine wpList_append_lies _ rfl _ _ 97 rfl B.heap.size 101 u0' _ 9 96 Try.underlying97 hu hu0 hu1 hu2 rfl (by decide) _ ps.length _ rfl (hown.alloc _) ⟨w6.heap.size, 0, none⟩ 1 1 (rcell ⟨sz, x, ⟨#[]⟩⟩) rfl rfl (nine_at w6 _ _) (nine_one _) (by decide) (by unfold maxLen; omega) (by omega) (by simp; omega) _ rfl ?_; intro g7 cap7 w7 hown7 hgr7 hat7 hlt7; have hg7 := Grew.lies (n := ps.length + 1) (cap := cap7) hgr7 hat7; obtain ⟨d0, d1⟩ := HP6.out.pb.kept hg7)
                  have ho7 : w7.ownsRow B.heap.size 101 9 (.slice (some ⟨g7, 0, none⟩) (ps.length + 1) cap7) (ps ++ [(⟨sz, x, ⟨#[]⟩⟩ : Prt)]).length ((ps ++ [(⟨sz, x, ⟨#[]⟩⟩ : Prt)]).flatMap rcell) := by
                    rw [List.flatMap_append, List.flatMap_singleton, List.length_append]
                    exact hown7
                  have HP7 : Hid (PB w B (w7.setCell ⟨g, 1, none⟩ (.slice (some ⟨g7, 0, none⟩) (ps.length + 1) cap7)) g nr (.slice (some ⟨g7, 0, none⟩) (ps.length + 1) cap7) (ps ++ [(⟨sz, x, ⟨#[]⟩⟩ : Prt)])) := HP6.out.pb.grew hg7 ho7
                  have HR7 : Hid ((w7.setCell ⟨g, 1, none⟩ (.slice (some ⟨g7, 0, none⟩) (ps.length + 1) cap7)).heap[w.heap.size]? = some (rb s q6 b6)) := HP6.out.pb.reader (by omega) hg7 HR6.out
                  clear p0 p1 p2 p3 p4 p5 p6 p7 p8 g0 g1 g2 hown hown7 hgr7 hat7 hlt7 ho7 hg7 d0 d1 HP6 HR6
                  generalize w7.setCell ⟨g, 1, none⟩ (.slice (some ⟨g7, 0, none⟩) (ps.length + 1) cap7) = W7 at *
                  generalize Value.slice (some ⟨g7, 0, none⟩) (ps.length + 1) cap7 = pv7 at *
                  have hpt := RB.part (cs := lc.map Prod.fst) (i := ps.length) hsz HU2.out HST2.out (by rw [HGD.out]; exact HRBp.out)
                  have HA7 : Hid (b6 = false → AllI (PtOk (lc.map Prod.fst)) (ps ++ [(⟨sz, x, ⟨#[]⟩⟩ : Prt)])) := fun hb => (HA.out (hpt.1 hb).1).snoc (hpt.1 hb).2
                  have HF7 : Hid (∀ l rs, Hf s l rs → b6 = false ∧ l = lc ∧ rs.length = m ∧ L.map Prod.fst = rs.take L.length ∧ ∃ h : L.length < rs.length, RGood (lc.map Prod.fst) rs[L.length] ∧ rs[L.length].rows = nr ∧ ps ++ [(⟨sz, x, ⟨#[]⟩⟩ : Prt)] = rs[L.length].parts.take (ps.length + 1) ∧ (bytesOf s).drop q6 = prtsF (lc.map Prod.fst) (ps.length + 1) (rs[L.length].parts.drop (ps.length + 1)) ++ rbandsB (lc.map Prod.fst) (rs.drop (L.length + 1))) := fun l rs hf => by
                    obtain ⟨h1, h2, h3, h4, hi, h5, h6, h7, h8⟩ := HF.out l rs hf
                    have hip : ps.length < rs[L.length].parts.length := by rw [h5.len, List.length_map]; exact hlp
                    rw [List.drop_eq_getElem_cons hip, prtsF, List.append_assoc] at h8
                    obtain ⟨e1, e2, e3⟩ := hpt.2 rs[L.length].parts[ps.length] _ (h5.each _ hip) h8
                    exact ⟨by rw [e2, h1], h2, h3, h4, hi, h5, h6, take_snoc h7 hip e1, e3⟩
                  clear hpt HRBp HU2 HST2 HU4 HST4 HA HF HGD HKC hsz hfl
                  go_wp2_with fail
                  go_roundw
                  case rel => exact ⟨ps ++ [(⟨sz, x, ⟨#[]⟩⟩ : Prt)], pv7, q6, b6, by rw [List.length_append]; go_num, by rw [List.length_append, List.length_singleton]; omega, HP7.out, hq6, HR7.out, HA7.out, by rw [List.length_append]; exact HF7.out⟩
                  case measure => simp [intOf]; omega
            · have HPL2 : Hid (ps.length = lc.length) := by show _ = _; omega
              obtain ⟨x0, x1, x2, x3, x4, x5⟩ := rb_cells HR.out
              obtain ⟨g0, g1, g2⟩ := HP.out.cells
              by_cases h1 : nr = 0
              · have hd : decide ((nr : Int) = 0) = true := by simp; omega
                have hPx : PB w B (wr.setCell ⟨w.heap.size, 2, none⟩ (.bool true)) g nr (.slice po ps.length pc) ps := HP.out.step (by omega) (Kp.set0 (Kp.refl _ _))
                have hRx : (wr.setCell ⟨w.heap.size, 2, none⟩ (.bool true)).heap[w.heap.size]? = some (rb s q true) := rb_bad0 HR.out
                have HR0 : Hid (nr = 0) := h1
                have hbe : ((nr : Int) == 0) = true := by simp; omega
                clear h1
                go_upto_region 40 with fail
                clear hd hbe x0 x1 x2 x3 x4 x5 g0 g1 g2
                generalize wr.setCell ⟨w.heap.size, 2, none⟩ (.bool true) = w5 at *
                have hbb : ∃ b7, b7 = true := ⟨_, rfl⟩
                obtain ⟨b7, hb7e⟩ := hbb
                rw [← hb7e] at hRx
                have hb7 : (nr = 0 ∧ b7 = true) ∨ (1 ≤ nr ∧ b7 = b) := .inl ⟨HR0.out, hb7e⟩
                clear hb7e
                have HB7 : Hid ((nr = 0 ∧ b7 = true) ∨ (1 ≤ nr ∧ b7 = b)) := hb7
                have HS5 : Hid (PF w w5 (.slice (some ⟨cb, 0, none⟩) lc.length cc) (.slice eo lc.length ec) bv (rowsR (L.map Prod.fst)) (lc.map Prod.fst) (lc.map Prod.snd) L) := HS.out.kp hPx.kp
                have HP5 : Hid (PB w B w5 g nr (.slice po ps.length pc) ps) := hPx
                have HR5 : Hid (w5.heap[w.heap.size]? = some (rb s q b7)) := hRx
                obtain ⟨g0, g1, g2⟩ := hPx.cells
                obtain ⟨⟨c0, c1, c2, c3⟩, cf⟩ := HS5.out.cells
                have cf3 := cf 3
                have HDI : Hid (∀ p ∈ L, ∀ g', p.2.ownBlock = some g' → (Value.slice po ps.length pc).ownBlock ≠ some g') := fun p hp g' h1 h2 => by
                  have e1 := ((HS.out.each p hp).lt g' h1).2
                  have e2 := (HP5.out.own.lt g' h2).1
                  omega
                have hgB : B.heap.size ≤ g := hPx.far
                have HGN : Hid (bv.ownBlock ≠ some g) := fun h => by have := (HS.out.own.lt g h).2; omega
                clear hPx hRx hb7 HP HR HS
                refine Un.begin_ (fun W => W.cell? ⟨w.heap.size + 1, 3, none⟩ = some (.int .i64 (rowsR (L.map Prod.fst) : Int)) ∧ W.cell? ⟨g, 0, none⟩ = some (.int .i64 (nr : Int))) 10 (by kernel_rfl) ?_
                have hHeld : (fun W => W.cell? ⟨w.heap.size + 1, 3, none⟩ = some (.int .i64 (rowsR (L.map Prod.fst) : Int)) ∧ W.cell? ⟨g, 0, none⟩ = some (.int .i64 (nr : Int))) w5.drew := ⟨c3, g0⟩
                refine Un.pick (i := 0) (v := ?_) rfl (by kernel_rfl) (by kernel_rfl) (by kernel_rfl) (by kernel_rfl) (fun _ _ _ h => h) (Or.inl ⟨by rfl, ?_⟩) (by assumption) ?_
                rotate_left
                · intro w _; go_simp
                  try with_reducible rfl
                try simp only [Act.put, List.setIfInBounds_toArray, List.set_cons_zero, List.set_cons_succ]
                refine Un.pick (i := 1) (v := ?_) rfl (by kernel_rfl) (by kernel_rfl) (by kernel_rfl) (by kernel_rfl) (fun _ _ _ h => h) (Or.inl ⟨by rfl, ?_⟩) (by assumption) ?_
                rotate_left
                · intro w _; go_simp
                  try with_reducible rfl
                try simp only [Act.put, List.setIfInBounds_toArray, List.set_cons_zero, List.set_cons_succ]
                refine Un.pick (i := 2) (v := ?_) rfl (by kernel_rfl) (by kernel_rfl) (by kernel_rfl) (by kernel_rfl) (fun _ _ _ h => h) (Or.inl ⟨by rfl, ?_⟩) (by assumption) ?_
                rotate_left
                · intro w _; go_simp
                  try with_reducible rfl
                try simp only [Act.put, List.setIfInBounds_toArray, List.set_cons_zero, List.set_cons_succ]
                refine Un.pick (i := 3) (v := ?_) rfl (by kernel_rfl) (by kernel_rfl) (by kernel_rfl) (by kernel_rfl) (fun _ _ _ h => h) (Or.inl ⟨by rfl, ?_⟩) (by assumption) ?_
                rotate_left
                · intro w _; go_simp
                  try with_reducible rfl
                try simp only [Act.put, List.setIfInBounds_toArray, List.set_cons_zero, List.set_cons_succ]
                refine Un.take (i := 4) (v := ?_) rfl (by kernel_rfl) (by kernel_rfl) (by kernel_rfl) (by kernel_rfl) (by kernel_rfl) (by kernel_rfl) (fun _ _ _ h => h) (Or.inl ⟨by rfl, ?_⟩) (by assumption) ?_
                rotate_left
                · intro w hSw; (try dsimp only at hSw); go_simp
                  try with_reducible rfl
                try simp only [Act.put, List.setIfInBounds_toArray, List.set_cons_zero, List.set_cons_succ]
                refine Un.pick (i := 5) (v := ?_) rfl (by kernel_rfl) (by kernel_rfl) (by kernel_rfl) (by kernel_rfl) (fun _ _ _ h => h) (Or.inl ⟨by rfl, ?_⟩) (by assumption) ?_
                rotate_left
                · intro w _; go_simp
                  try with_reducible rfl
                try simp only [Act.put, List.setIfInBounds_toArray, List.set_cons_zero, List.set_cons_succ]
                refine Un.take (i := 6) (v := ?_) rfl (by kernel_rfl) (by kernel_rfl) (by kernel_rfl) (by kernel_rfl) (by kernel_rfl) (by kernel_rfl) (fun _ _ _ h => h) (Or.inl ⟨by rfl, ?_⟩) (by assumption) ?_
                rotate_left
                · intro w hSw; (try dsimp only at hSw); go_simp
                  try with_reducible rfl
                try simp only [Act.put, List.setIfInBounds_toArray, List.set_cons_zero, List.set_cons_succ]
                refine Un.pick (i := 7) (v := ?_) rfl (by kernel_rfl) (by kernel_rfl) (by kernel_rfl) (by kernel_rfl) (fun _ _ _ h => h) (Or.inl ⟨by rfl, ?_⟩) (by assumption) ?_
                rotate_left
                · intro w _; go_simp
                  try with_reducible rfl
                try simp only [Act.put, List.setIfInBounds_toArray, List.set_cons_zero, List.set_cons_succ]
                refine Un.pick (i := 8) (v := ?_) rfl (by kernel_rfl) (by kernel_rfl) (by kernel_rfl) (by kernel_rfl) (fun _ _ _ h => h) (Or.inl ⟨by rfl, ?_⟩) (by assumption) ?_
                rotate_left
                · intro w _; go_simp
                  try with_reducible rfl
                try simp only [Act.put, List.setIfInBounds_toArray, List.set_cons_zero, List.set_cons_succ]
                refine Un.pick (i := 9) (v := ?_) rfl (by kernel_rfl) (by kernel_rfl) (by kernel_rfl) (by kernel_rfl) (fun _ _ _ h => h) (Or.inl ⟨by rfl, ?_⟩) (by assumption) ?_
                rotate_left
                · intro w _; go_simp
                  try with_reducible rfl
                try simp only [Act.put, List.setIfInBounds_toArray, List.set_cons_zero, List.set_cons_succ]
                refine Un.one (i := 10) (by kernel_rfl) rfl (fun K hK => ?_)
                rw [if_pos (by rfl)]
                go_simp
                refine hK.out _ _ (fun h => absurd h (by decide)) ?_
                clear hK K hHeld
                refine Un.done (by kernel_rfl) ?_ _
                try simp only [Act.put, List.setIfInBounds_toArray, List.set_cons_zero, List.set_cons_succ]
                rw [wrapRN hrn hnr]
                have hS6 : PF w (w5.setCell ⟨w.heap.size + 1, 3, none⟩ (.int .i64 ((rowsR (L.map Prod.fst) + nr : Nat) : Int))) (.slice (some ⟨cb, 0, none⟩) lc.length cc) (.slice eo lc.length ec) bv (rowsR (L.map Prod.fst) + nr) (lc.map Prod.fst) (lc.map Prod.snd) L := HS5.out.putsR _
                have hR6 : (w5.setCell ⟨w.heap.size + 1, 3, none⟩ (.int .i64 ((rowsR (L.map Prod.fst) + nr : Nat) : Int))).heap[w.heap.size]? = some (rb s q b7) := by rw [heap_setCell_other _ _ _ _ (by simp)]; exact HR5.out
                have hX6 : (w5.setCell ⟨w.heap.size + 1, 3, none⟩ (.int .i64 ((rowsR (L.map Prod.fst) + nr : Nat) : Int))).heap[g]? = some (.cells #[.int .i64 (nr : Int), (.slice po ps.length pc)] 99 (0, 0)) := by rw [heap_setCell_other _ _ _ _ (by simp; omega)]; exact HP5.out.box
                have hO6 : (w5.setCell ⟨w.heap.size + 1, 3, none⟩ (.int .i64 ((rowsR (L.map Prod.fst) + nr : Nat) : Int))).ownsRow (w.heap.size + 1) 101 9 (.slice po ps.length pc) ps.length (ps.flatMap rcell) := by
                  have := ownsRow_base HP5.out.own (show w.heap.size + 1 ≤ B.heap.size by omega)
                  exact this.kept (box_set_grown w5 _ 3 _) (.inr (own_far this HS5.out.file (by decide)).symm)
                rw [show ((rowsR (L.map Prod.fst) + nr : Nat) : Int) = (rowsR (L.map Prod.fst) : Int) + (nr : Int) from by omega] at hS6 hR6 hX6 hO6
                clear g0 g1 g2 c0 c1 c2 c3 cf cf3 HS5 HP5 HR5
                generalize w5.setCell ⟨w.heap.size + 1, 3, none⟩ (.int .i64 ((rowsR (L.map Prod.fst) : Int) + (nr : Int))) = W6 at *
                have HS6 : Hid (PF w W6 (.slice (some ⟨cb, 0, none⟩) lc.length cc) (.slice eo lc.length ec) bv (rowsR (L.map Prod.fst) + nr) (lc.map Prod.fst) (lc.map Prod.snd) L) := hS6
                have HR6 : Hid (W6.heap[w.heap.size]? = some (rb s q b7)) := hR6
                have HX6 : Hid (W6.heap[g]? = some (.cells #[.int .i64 (nr : Int), (.slice po ps.length pc)] 99 (0, 0))) := hX6
                have HO6 : Hid (W6.ownsRow (w.heap.size + 1) 101 9 (.slice po ps.length pc) ps.length (ps.flatMap rcell)) := hO6
                obtain ⟨⟨c0, c1, c2, c3⟩, cf⟩ := hS6.cells
                obtain ⟨g0, g1⟩ := two_of hX6
                clear hS6 hR6 hX6 hO6 cf
                go_upto_region 41 with fail
                refine Un.begin_ (fun W => W.cell? ⟨w.heap.size + 1, 2, none⟩ = some bv ∧ W.cell? ⟨g, 0, none⟩ = some (.int .i64 (nr : Int)) ∧ W.cell? ⟨g, 1, none⟩ = some (.slice po ps.length pc)) 10 (by kernel_rfl) ?_
                have hHeld : (fun W => W.cell? ⟨w.heap.size + 1, 2, none⟩ = some bv ∧ W.cell? ⟨g, 0, none⟩ = some (.int .i64 (nr : Int)) ∧ W.cell? ⟨g, 1, none⟩ = some (.slice po ps.length pc)) W6.drew := ⟨c2, g0, g1⟩
                refine Un.pick (i := 0) (v := ?_) rfl (by kernel_rfl) (by kernel_rfl) (by kernel_rfl) (by kernel_rfl) (fun _ _ _ h => h) (Or.inl ⟨by rfl, ?_⟩) (by assumption) ?_
                rotate_left
                · intro w _; go_simp
                  try with_reducible rfl
                try simp only [Act.put, List.setIfInBounds_toArray, List.set_cons_zero, List.set_cons_succ]
                refine Un.pick (i := 1) (v := ?_) rfl (by kernel_rfl) (by kernel_rfl) (by kernel_rfl) (by kernel_rfl) (fun _ _ _ h => h) (Or.inl ⟨by rfl, ?_⟩) (by assumption) ?_
                rotate_left
                · intro w _; go_simp
                  try with_reducible rfl
                try simp only [Act.put, List.setIfInBounds_toArray, List.set_cons_zero, List.set_cons_succ]
                refine Un.pick (i := 2) (v := ?_) rfl (by kernel_rfl) (by kernel_rfl) (by kernel_rfl) (by kernel_rfl) (fun _ _ _ h => h) (Or.inl ⟨by rfl, ?_⟩) (by assumption) ?_
                rotate_left
                · intro w _; go_simp
                  try with_reducible rfl
                try simp only [Act.put, List.setIfInBounds_toArray, List.set_cons_zero, List.set_cons_succ]
                refine Un.pick (i := 3) (v := ?_) rfl (by kernel_rfl) (by kernel_rfl) (by kernel_rfl) (by kernel_rfl) (fun _ _ _ h => h) (Or.inl ⟨by rfl, ?_⟩) (by assumption) ?_
                rotate_left
                · intro w _; go_simp
                  try with_reducible rfl
                try simp only [Act.put, List.setIfInBounds_toArray, List.set_cons_zero, List.set_cons_succ]
                refine Un.take (i := 4) (v := ?_) rfl (by kernel_rfl) (by kernel_rfl) (by kernel_rfl) (by kernel_rfl) (by kernel_rfl) (by kernel_rfl) (fun _ _ _ h => h) (Or.inl ⟨by rfl, ?_⟩) (by assumption) ?_
                rotate_left
                · intro w hSw; (try dsimp only at hSw); go_simp
                  try with_reducible rfl
                try simp only [Act.put, List.setIfInBounds_toArray, List.set_cons_zero, List.set_cons_succ]
                refine Un.take (i := 5) (v := ?_) rfl (by kernel_rfl) (by kernel_rfl) (by kernel_rfl) (by kernel_rfl) (by kernel_rfl) (by kernel_rfl) (fun _ _ _ h => h) (Or.inl ⟨by rfl, ?_⟩) (by assumption) ?_
                rotate_left
                · intro w hSw; (try dsimp only at hSw); go_simp
                  try with_reducible rfl
                try simp only [Act.put, List.setIfInBounds_toArray, List.set_cons_zero, List.set_cons_succ]
                refine Un.one (i := 6) (by kernel_rfl) rfl (fun K hK => ?_)
                rw [if_pos (by rfl)]
                go_simp
                have HS7 : Hid (PF w (W6.drew.alloc (.cells (ecell (⟨nr, ps⟩, (.slice po ps.length pc))).toArray 99)) (.slice (some ⟨cb, 0, none⟩) lc.length cc) (.slice eo lc.length ec) bv (rowsR (L.map Prod.fst) + nr) (lc.map Prod.fst) (lc.map Prod.snd) L) := HS6.out.below (((Below.refl W6.heap.size W6).drew).alloc (Nat.le_refl _) _)
                have hX7 : (W6.drew.alloc (.cells (ecell (⟨nr, ps⟩, (.slice po ps.length pc))).toArray 99)).heap[g]? = some (.cells #[.int .i64 (nr : Int), (.slice po ps.length pc)] 99 (0, 0)) := alloc_old _ (lt_of_block (show W6.drew.heap[g]? = _ from HX6.out)) (show W6.drew.heap[g]? = _ from HX6.out)
                obtain ⟨k0, k1⟩ := two_of hX7
                refine hK.out _ _ (fun _ => ⟨HS7.out.cells.1.2.2.1, k0, k1⟩) ?_
                clear hK K hHeld
                try simp only [Act.put, List.setIfInBounds_toArray, List.set_cons_zero, List.set_cons_succ]
                refine Un.one (i := 7) (by kernel_rfl) rfl (fun K hK => ?_)
                have hown := HS6.out.own
                have hz6 : w.heap.size + 1 < W6.heap.size := lt_of_block HS6.out.file
                refine step_append_lies _ (by rfl) _ _ 94 (by rfl) (w.heap.size + 1) 99 r0' _ 2 32 Try.underlying94 hr' hr0 hr1 hr2 rfl (by decide) bv L.length _ (by rfl) ((ownsRow_below hown (Below.refl _ _).drew).alloc _) ⟨W6.heap.size, 0, none⟩ 1 1 (ecell (⟨nr, ps⟩, (.slice po ps.length pc))) (by rfl) rfl (two_atE W6.drew _ _ _) (by intro u hu; simp [ecell] at hu; rcases hu with rfl | rfl <;> rfl) (by decide) (by unfold maxLen; omega) (by omega) (by simp; omega) _ rfl ?_
                intro g8 cap8 w8 hown8 hgr8 hat8 hlt8
                have hg8 : Grew W6 w8 bv (.slice (some ⟨g8, 0, none⟩) (L.length + 1) cap8) := grew_drew (grew_drew (Grew.lies (w := W6.drew.drew) (o := .cells (ecell (⟨nr, ps⟩, .slice po ps.length pc)).toArray 99) (show World.grownBy _ _ _ from hgr8) hat8))
                have ho8 : w8.ownsRow (w.heap.size + 1) 99 2 (.slice (some ⟨g8, 0, none⟩) (L.length + 1) cap8) (L ++ [((⟨nr, ps⟩ : RBd), Value.slice po ps.length pc)]).length ((L ++ [((⟨nr, ps⟩ : RBd), Value.slice po ps.length pc)]).flatMap ecell) := by
                  rw [List.flatMap_append, List.flatMap_singleton, List.length_append]
                  exact hown8
                have HF9 : Hid (PF w (w8.setCell ⟨w.heap.size + 1, 2, none⟩ (.slice (some ⟨g8, 0, none⟩) (L.length + 1) cap8)) (.slice (some ⟨cb, 0, none⟩) lc.length cc) (.slice eo lc.length ec) (.slice (some ⟨g8, 0, none⟩) (L.length + 1) cap8) (rowsR (L.map Prod.fst) + nr) (lc.map Prod.fst) (lc.map Prod.snd) (L ++ [((⟨nr, ps⟩ : RBd), Value.slice po ps.length pc)])) := HS6.out.growB hg8 HO6.out HDI.out ho8
                have HR9 : Hid ((w8.setCell ⟨w.heap.size + 1, 2, none⟩ (.slice (some ⟨g8, 0, none⟩) (L.length + 1) cap8)).heap[w.heap.size]? = some (rb s q b7)) := PF.reader HR6.out HS6.out.own hg8
                obtain ⟨⟨d0, d1, d2, d3⟩, df⟩ := HS6.out.keptF HS6.out.own (by decide) hg8
                have df2 := df 2
                have hX8 : w8.heap[g]? = some (.cells #[.int .i64 (nr : Int), (.slice po ps.length pc)] 99 (0, 0)) := (hg8.by_.block g (lt_of_block HX6.out) (fun e => HGN.out e.symm)).trans HX6.out
                obtain ⟨k0, k1⟩ := two_of hX8
                refine hK.out _ _ (fun _ => ⟨d2, k0, k1⟩) ?_
                clear hK K hown hown8 hgr8 hat8 hlt8 ho8 hg8 df hX8 hX7
                try simp only [Act.put, List.setIfInBounds_toArray, List.set_cons_zero, List.set_cons_succ]
                have hHeld : (fun W => W.cell? ⟨w.heap.size + 1, 2, none⟩ = some bv ∧ W.cell? ⟨g, 0, none⟩ = some (.int .i64 (nr : Int)) ∧ W.cell? ⟨g, 1, none⟩ = some (.slice po ps.length pc)) w8 := ⟨d2, k0, k1⟩
                refine Un.pick (i := 8) (v := ?_) rfl (by kernel_rfl) (by kernel_rfl) (by kernel_rfl) (by kernel_rfl) (fun _ _ _ h => h) (Or.inl ⟨by rfl, ?_⟩) (by assumption) ?_
                rotate_left
                · intro w _; go_simp
                  try with_reducible rfl
                try simp only [Act.put, List.setIfInBounds_toArray, List.set_cons_zero, List.set_cons_succ]
                refine Un.pick (i := 9) (v := ?_) rfl (by kernel_rfl) (by kernel_rfl) (by kernel_rfl) (by kernel_rfl) (fun _ _ _ h => h) (Or.inl ⟨by rfl, ?_⟩) (by assumption) ?_
                rotate_left
                · intro w _; go_simp
                  try with_reducible rfl
                try simp only [Act.put, List.setIfInBounds_toArray, List.set_cons_zero, List.set_cons_succ]
                refine Un.one (i := 10) (by kernel_rfl) rfl (fun K hK => ?_)
                rw [if_pos (by rfl)]
                go_simp
                refine hK.out _ _ (fun h => absurd h (by decide)) ?_
                clear hK K hHeld d0 d1 d2 d3 df2 k0 k1 c0 c1 c2 c3 g0 g1
                refine Un.done (by kernel_rfl) ?_ _
                try simp only [Act.put, List.setIfInBounds_toArray, List.set_cons_zero, List.set_cons_succ]
                clear HS6 HS7 HR6 HX6 HO6 HDI HGN
                generalize w8.setCell ⟨w.heap.size + 1, 2, none⟩ (.slice (some ⟨g8, 0, none⟩) (L.length + 1) cap8) = W9 at *
                generalize Value.slice (some ⟨g8, 0, none⟩) (L.length + 1) cap8 = bv9 at *
                have HRS : Hid (rowsR ((L ++ [((⟨nr, ps⟩ : RBd), Value.slice po ps.length pc)]).map Prod.fst) = rowsR (L.map Prod.fst) + nr) := by show _ = _; rw [List.map_append, List.map_singleton, rowsR_snoc]
                have HG9 : Hid (b7 = false → ∀ p ∈ L ++ [((⟨nr, ps⟩ : RBd), Value.slice po ps.length pc)], RGood (lc.map Prod.fst) p.1) := fun hb p hp => by
                  rcases List.mem_append.1 hp with hp | hp
                  · exact HGL.out p hp
                  · simp at hp
                    subst hp
                    rcases HB7.out with ⟨-, h2⟩ | ⟨h1, h2⟩
                    · rw [h2] at hb; cases hb
                    · exact ⟨h1, hnr, by show ps.length = _; rw [List.length_map]; exact HPL2.out, HA.out (by rw [← h2]; exact hb)⟩
                have HF10 : Hid (∀ l rs, Hf s l rs → b7 = false ∧ l = lc ∧ rs.length = m ∧ (L ++ [((⟨nr, ps⟩ : RBd), Value.slice po ps.length pc)]).map Prod.fst = rs.take (L.length + 1) ∧ (bytesOf s).drop q = rbandsB (lc.map Prod.fst) (rs.drop (L.length + 1))) := fun l rs hf => by
                  obtain ⟨h1, h2, h3, h4, hi, h5, h6, h7, h8⟩ := HF.out l rs hf
                  have hlen : rs[L.length].parts.length = ps.length := by rw [h5.len, List.length_map, HPL2.out]
                  rw [← hlen, List.take_length] at h7
                  rw [← hlen, List.drop_length, prtsF, List.nil_append] at h8
                  refine ⟨?_, h2, h3, ?_, h8⟩
                  · rcases HB7.out with ⟨h9, -⟩ | ⟨-, h9⟩
                    · have := h5.lo; omega
                    · rw [h9, h1]
                  · rw [List.map_append, List.map_singleton]
                    refine take_snoc h4 hi ?_
                    generalize rs[L.length] = rr at *
                    obtain ⟨r1, r2⟩ := rr
                    simp only at h6 h7
                    rw [h6, h7]
                clear HB7 HA HF HGL
                have hrw := HRW.out
                go_wp2_with fail
                go_roundw
                case rel => exact ⟨L ++ [((⟨nr, ps⟩ : RBd), Value.slice po ps.length pc)], bv9, q, b7, by rw [List.length_append]; go_num, by rw [List.length_append, List.length_singleton]; omega, by rw [HRS.out]; exact HF9.out, by rw [HRS.out, List.length_append, List.length_singleton]; omega, hq, HR9.out, HG9.out, by rw [List.length_append]; exact HF10.out⟩
                case measure => simp [intOf]; omega
              · have hd : decide ((nr : Int) = 0) = false := by simp; omega
                have hPx : PB w B wr g nr (.slice po ps.length pc) ps := HP.out
                have hRx : wr.heap[w.heap.size]? = some (rb s q b) := HR.out
                have hbe : ((nr : Int) == 0) = false := by simp; omega
                go_upto_region 40 with fail
                clear hd hbe x0 x1 x2 x3 x4 x5 g0 g1 g2
                have hbb : ∃ b7, b7 = b := ⟨_, rfl⟩
                obtain ⟨b7, hb7e⟩ := hbb
                rw [← hb7e] at hRx
                have hb7 : (nr = 0 ∧ b7 = true) ∨ (1 ≤ nr ∧ b7 = b) := .inr ⟨by omega, hb7e⟩
                clear hb7e
                generalize wr = w5 at *
                have HB7 : Hid ((nr = 0 ∧ b7 = true) ∨ (1 ≤ nr ∧ b7 = b)) := hb7
                have HS5 : Hid (PF w w5 (.slice (some ⟨cb, 0, none⟩) lc.length cc) (.slice eo lc.length ec) bv (rowsR (L.map Prod.fst)) (lc.map Prod.fst) (lc.map Prod.snd) L) := HS.out.kp hPx.kp
                have HP5 : Hid (PB w B w5 g nr (.slice po ps.length pc) ps) := hPx
                have HR5 : Hid (w5.heap[w.heap.size]? = some (rb s q b7)) := hRx
                obtain ⟨g0, g1, g2⟩ := hPx.cells
                obtain ⟨⟨c0, c1, c2, c3⟩, cf⟩ := HS5.out.cells
                have cf3 := cf 3
                have HDI : Hid (∀ p ∈ L, ∀ g', p.2.ownBlock = some g' → (Value.slice po ps.length pc).ownBlock ≠ some g') := fun p hp g' h1 h2 => by
                  have e1 := ((HS.out.each p hp).lt g' h1).2
                  have e2 := (HP5.out.own.lt g' h2).1
                  omega
                have hgB : B.heap.size ≤ g := hPx.far
                have HGN : Hid (bv.ownBlock ≠ some g) := fun h => by have := (HS.out.own.lt g h).2; omega
                clear hPx hRx hb7 HP HR HS
                refine Un.begin_ (fun W => W.cell? ⟨w.heap.size + 1, 3, none⟩ = some (.int .i64 (rowsR (L.map Prod.fst) : Int)) ∧ W.cell? ⟨g, 0, none⟩ = some (.int .i64 (nr : Int))) 10 (by kernel_rfl) ?_
                have hHeld : (fun W => W.cell? ⟨w.heap.size + 1, 3, none⟩ = some (.int .i64 (rowsR (L.map Prod.fst) : Int)) ∧ W.cell? ⟨g, 0, none⟩ = some (.int .i64 (nr : Int))) w5.drew := ⟨c3, g0⟩
                refine Un.pick (i := 0) (v := ?_) rfl (by kernel_rfl) (by kernel_rfl) (by kernel_rfl) (by kernel_rfl) (fun _ _ _ h => h) (Or.inl ⟨by rfl, ?_⟩) (by assumption) ?_
                rotate_left
                · intro w _; go_simp
                  try with_reducible rfl
                try simp only [Act.put, List.setIfInBounds_toArray, List.set_cons_zero, List.set_cons_succ]
                refine Un.pick (i := 1) (v := ?_) rfl (by kernel_rfl) (by kernel_rfl) (by kernel_rfl) (by kernel_rfl) (fun _ _ _ h => h) (Or.inl ⟨by rfl, ?_⟩) (by assumption) ?_
                rotate_left
                · intro w _; go_simp
                  try with_reducible rfl
                try simp only [Act.put, List.setIfInBounds_toArray, List.set_cons_zero, List.set_cons_succ]
                refine Un.pick (i := 2) (v := ?_) rfl (by kernel_rfl) (by kernel_rfl) (by kernel_rfl) (by kernel_rfl) (fun _ _ _ h => h) (Or.inl ⟨by rfl, ?_⟩) (by assumption) ?_
                rotate_left
                · intro w _; go_simp
                  try with_reducible rfl
                try simp only [Act.put, List.setIfInBounds_toArray, List.set_cons_zero, List.set_cons_succ]
                refine Un.pick (i := 3) (v := ?_) rfl (by kernel_rfl) (by kernel_rfl) (by kernel_rfl) (by kernel_rfl) (fun _ _ _ h => h) (Or.inl ⟨by rfl, ?_⟩) (by assumption) ?_
                rotate_left
                · intro w _; go_simp
                  try with_reducible rfl
                try simp only [Act.put, List.setIfInBounds_toArray, List.set_cons_zero, List.set_cons_succ]
                refine Un.take (i := 4) (v := ?_) rfl (by kernel_rfl) (by kernel_rfl) (by kernel_rfl) (by kernel_rfl) (by kernel_rfl) (by kernel_rfl) (fun _ _ _ h => h) (Or.inl ⟨by rfl, ?_⟩) (by assumption) ?_
                rotate_left
                · intro w hSw; (try dsimp only at hSw); go_simp
                  try with_reducible rfl
                try simp only [Act.put, List.setIfInBounds_toArray, List.set_cons_zero, List.set_cons_succ]
                refine Un.pick (i := 5) (v := ?_) rfl (by kernel_rfl) (by kernel_rfl) (by kernel_rfl) (by kernel_rfl) (fun _ _ _ h => h) (Or.inl ⟨by rfl, ?_⟩) (by assumption) ?_
                rotate_left
                · intro w _; go_simp
                  try with_reducible rfl
                try simp only [Act.put, List.setIfInBounds_toArray, List.set_cons_zero, List.set_cons_succ]
                refine Un.take (i := 6) (v := ?_) rfl (by kernel_rfl) (by kernel_rfl) (by kernel_rfl) (by kernel_rfl) (by kernel_rfl) (by kernel_rfl) (fun _ _ _ h => h) (Or.inl ⟨by rfl, ?_⟩) (by assumption) ?_
                rotate_left
                · intro w hSw; (try dsimp only at hSw); go_simp
                  try with_reducible rfl
                try simp only [Act.put, List.setIfInBounds_toArray, List.set_cons_zero, List.set_cons_succ]
                refine Un.pick (i := 7) (v := ?_) rfl (by kernel_rfl) (by kernel_rfl) (by kernel_rfl) (by kernel_rfl) (fun _ _ _ h => h) (Or.inl ⟨by rfl, ?_⟩) (by assumption) ?_
                rotate_left
                · intro w _; go_simp
                  try with_reducible rfl
                try simp only [Act.put, List.setIfInBounds_toArray, List.set_cons_zero, List.set_cons_succ]
                refine Un.pick (i := 8) (v := ?_) rfl (by kernel_rfl) (by kernel_rfl) (by kernel_rfl) (by kernel_rfl) (fun _ _ _ h => h) (Or.inl ⟨by rfl, ?_⟩) (by assumption) ?_
                rotate_left
                · intro w _; go_simp
                  try with_reducible rfl
                try simp only [Act.put, List.setIfInBounds_toArray, List.set_cons_zero, List.set_cons_succ]
                refine Un.pick (i := 9) (v := ?_) rfl (by kernel_rfl) (by kernel_rfl) (by kernel_rfl) (by kernel_rfl) (fun _ _ _ h => h) (Or.inl ⟨by rfl, ?_⟩) (by assumption) ?_
                rotate_left
                · intro w _; go_simp
                  try with_reducible rfl
                try simp only [Act.put, List.setIfInBounds_toArray, List.set_cons_zero, List.set_cons_succ]
                refine Un.one (i := 10) (by kernel_rfl) rfl (fun K hK => ?_)
                rw [if_pos (by rfl)]
                go_simp
                refine hK.out _ _ (fun h => absurd h (by decide)) ?_
                clear hK K hHeld
                refine Un.done (by kernel_rfl) ?_ _
                try simp only [Act.put, List.setIfInBounds_toArray, List.set_cons_zero, List.set_cons_succ]
                rw [wrapRN hrn hnr]
                have hS6 : PF w (w5.setCell ⟨w.heap.size + 1, 3, none⟩ (.int .i64 ((rowsR (L.map Prod.fst) + nr : Nat) : Int))) (.slice (some ⟨cb, 0, none⟩) lc.length cc) (.slice eo lc.length ec) bv (rowsR (L.map Prod.fst) + nr) (lc.map Prod.fst) (lc.map Prod.snd) L := HS5.out.putsR _
                have hR6 : (w5.setCell ⟨w.heap.size + 1, 3, none⟩ (.int .i64 ((rowsR (L.map Prod.fst) + nr : Nat) : Int))).heap[w.heap.size]? = some (rb s q b7) := by rw [heap_setCell_other _ _ _ _ (by simp)]; exact HR5.out
                have hX6 : (w5.setCell ⟨w.heap.size + 1, 3, none⟩ (.int .i64 ((rowsR (L.map Prod.fst) + nr : Nat) : Int))).heap[g]? = some (.cells #[.int .i64 (nr : Int), (.slice po ps.length pc)] 99 (0, 0)) := by rw [heap_setCell_other _ _ _ _ (by simp; omega)]; exact HP5.out.box
                have hO6 : (w5.setCell ⟨w.heap.size + 1, 3, none⟩ (.int .i64 ((rowsR (L.map Prod.fst) + nr : Nat) : Int))).ownsRow (w.heap.size + 1) 101 9 (.slice po ps.length pc) ps.length (ps.flatMap rcell) := by
                  have := ownsRow_base HP5.out.own (show w.heap.size + 1 ≤ B.heap.size by omega)
                  exact this.kept (box_set_grown w5 _ 3 _) (.inr (own_far this HS5.out.file (by decide)).symm)
                rw [show ((rowsR (L.map Prod.fst) + nr : Nat) : Int) = (rowsR (L.map Prod.fst) : Int) + (nr : Int) from by omega] at hS6 hR6 hX6 hO6
                clear g0 g1 g2 c0 c1 c2 c3 cf cf3 HS5 HP5 HR5
                generalize w5.setCell ⟨w.heap.size + 1, 3, none⟩ (.int .i64 ((rowsR (L.map Prod.fst) : Int) + (nr : Int))) = W6 at *
                have HS6 : Hid (PF w W6 (.slice (some ⟨cb, 0, none⟩) lc.length cc) (.slice eo lc.length ec) bv (rowsR (L.map Prod.fst) + nr) (lc.map Prod.fst) (lc.map Prod.snd) L) := hS6
                have HR6 : Hid (W6.heap[w.heap.size]? = some (rb s q b7)) := hR6
                have HX6 : Hid (W6.heap[g]? = some (.cells #[.int .i64 (nr : Int), (.slice po ps.length pc)] 99 (0, 0))) := hX6
                have HO6 : Hid (W6.ownsRow (w.heap.size + 1) 101 9 (.slice po ps.length pc) ps.length (ps.flatMap rcell)) := hO6
                obtain ⟨⟨c0, c1, c2, c3⟩, cf⟩ := hS6.cells
                obtain ⟨g0, g1⟩ := two_of hX6
                clear hS6 hR6 hX6 hO6 cf
                go_upto_region 41 with fail
                refine Un.begin_ (fun W => W.cell? ⟨w.heap.size + 1, 2, none⟩ = some bv ∧ W.cell? ⟨g, 0, none⟩ = some (.int .i64 (nr : Int)) ∧ W.cell? ⟨g, 1, none⟩ = some (.slice po ps.length pc)) 10 (by kernel_rfl) ?_
                have hHeld : (fun W => W.cell? ⟨w.heap.size + 1, 2, none⟩ = some bv ∧ W.cell? ⟨g, 0, none⟩ = some (.int .i64 (nr : Int)) ∧ W.cell? ⟨g, 1, none⟩ = some (.slice po ps.length pc)) W6.drew := ⟨c2, g0, g1⟩
                refine Un.pick (i := 0) (v := ?_) rfl (by kernel_rfl) (by kernel_rfl) (by kernel_rfl) (by kernel_rfl) (fun _ _ _ h => h) (Or.inl ⟨by rfl, ?_⟩) (by assumption) ?_
                rotate_left
                · intro w _; go_simp
                  try with_reducible rfl
                try simp only [Act.put, List.setIfInBounds_toArray, List.set_cons_zero, List.set_cons_succ]
                refine Un.pick (i := 1) (v := ?_) rfl (by kernel_rfl) (by kernel_rfl) (by kernel_rfl) (by kernel_rfl) (fun _ _ _ h => h) (Or.inl ⟨by rfl, ?_⟩) (by assumption) ?_
                rotate_left
                · intro w _; go_simp
                  try with_reducible rfl
                try simp only [Act.put, List.setIfInBounds_toArray, List.set_cons_zero, List.set_cons_succ]
                refine Un.pick (i := 2) (v := ?_) rfl (by kernel_rfl) (by kernel_rfl) (by kernel_rfl) (by kernel_rfl) (fun _ _ _ h => h) (Or.inl ⟨by rfl, ?_⟩) (by assumption) ?_
                rotate_left
                · intro w _; go_simp
                  try with_reducible rfl
                try simp only [Act.put, List.setIfInBounds_toArray, List.set_cons_zero, List.set_cons_succ]
                refine Un.pick (i := 3) (v := ?_) rfl (by kernel_rfl) (by kernel_rfl) (by kernel_rfl) (by kernel_rfl) (fun _ _ _ h => h) (Or.inl ⟨by rfl, ?_⟩) (by assumption) ?_
                rotate_left
                · intro w _; go_simp
                  try with_reducible rfl
                try simp only [Act.put, List.setIfInBounds_toArray, List.set_cons_zero, List.set_cons_succ]
                refine Un.take (i := 4) (v := ?_) rfl (by kernel_rfl) (by kernel_rfl) (by kernel_rfl) (by kernel_rfl) (by kernel_rfl) (by kernel_rfl) (fun _ _ _ h => h) (Or.inl ⟨by rfl, ?_⟩) (by assumption) ?_
                rotate_left
                · intro w hSw; (try dsimp only at hSw); go_simp
                  try with_reducible rfl
                try simp only [Act.put, List.setIfInBounds_toArray, List.set_cons_zero, List.set_cons_succ]
                refine Un.take (i := 5) (v := ?_) rfl (by kernel_rfl) (by kernel_rfl) (by kernel_rfl) (by kernel_rfl) (by kernel_rfl) (by kernel_rfl) (fun _ _ _ h => h) (Or.inl ⟨by rfl, ?_⟩) (by assumption) ?_
                rotate_left
                · intro w hSw; (try dsimp only at hSw); go_simp
                  try with_reducible rfl
                try simp only [Act.put, List.setIfInBounds_toArray, List.set_cons_zero, List.set_cons_succ]
                refine Un.one (i := 6) (by kernel_rfl) rfl (fun K hK => ?_)
                rw [if_pos (by rfl)]
                go_simp
                have HS7 : Hid (PF w (W6.drew.alloc (.cells (ecell (⟨nr, ps⟩, (.slice po ps.length pc))).toArray 99)) (.slice (some ⟨cb, 0, none⟩) lc.length cc) (.slice eo lc.length ec) bv (rowsR (L.map Prod.fst) + nr) (lc.map Prod.fst) (lc.map Prod.snd) L) := HS6.out.below (((Below.refl W6.heap.size W6).drew).alloc (Nat.le_refl _) _)
                have hX7 : (W6.drew.alloc (.cells (ecell (⟨nr, ps⟩, (.slice po ps.length pc))).toArray 99)).heap[g]? = some (.cells #[.int .i64 (nr : Int), (.slice po ps.length pc)] 99 (0, 0)) := alloc_old _ (lt_of_block (show W6.drew.heap[g]? = _ from HX6.out)) (show W6.drew.heap[g]? = _ from HX6.out)
                obtain ⟨k0, k1⟩ := two_of hX7
                refine hK.out _ _ (fun _ => ⟨HS7.out.cells.1.2.2.1, k0, k1⟩) ?_
                clear hK K hHeld
                try simp only [Act.put, List.setIfInBounds_toArray, List.set_cons_zero, List.set_cons_succ]
                refine Un.one (i := 7) (by kernel_rfl) rfl (fun K hK => ?_)
                have hown := HS6.out.own
                have hz6 : w.heap.size + 1 < W6.heap.size := lt_of_block HS6.out.file
                refine step_append_lies _ (by rfl) _ _ 94 (by rfl) (w.heap.size + 1) 99 r0' _ 2 32 Try.underlying94 hr' hr0 hr1 hr2 rfl (by decide) bv L.length _ (by rfl) ((ownsRow_below hown (Below.refl _ _).drew).alloc _) ⟨W6.heap.size, 0, none⟩ 1 1 (ecell (⟨nr, ps⟩, (.slice po ps.length pc))) (by rfl) rfl (two_atE W6.drew _ _ _) (by intro u hu; simp [ecell] at hu; rcases hu with rfl | rfl <;> rfl) (by decide) (by unfold maxLen; omega) (by omega) (by simp; omega) _ rfl ?_
                intro g8 cap8 w8 hown8 hgr8 hat8 hlt8
                have hg8 : Grew W6 w8 bv (.slice (some ⟨g8, 0, none⟩) (L.length + 1) cap8) := grew_drew (grew_drew (Grew.lies (w := W6.drew.drew) (o := .cells (ecell (⟨nr, ps⟩, .slice po ps.length pc)).toArray 99) (show World.grownBy _ _ _ from hgr8) hat8))
                have ho8 : w8.ownsRow (w.heap.size + 1) 99 2 (.slice (some ⟨g8, 0, none⟩) (L.length + 1) cap8) (L ++ [((⟨nr, ps⟩ : RBd), Value.slice po ps.length pc)]).length ((L ++ [((⟨nr, ps⟩ : RBd), Value.slice po ps.length pc)]).flatMap ecell) := by
                  rw [List.flatMap_append, List.flatMap_singleton, List.length_append]
                  exact hown8
                have HF9 : Hid (PF w (w8.setCell ⟨w.heap.size + 1, 2, none⟩ (.slice (some ⟨g8, 0, none⟩) (L.length + 1) cap8)) (.slice (some ⟨cb, 0, none⟩) lc.length cc) (.slice eo lc.length ec) (.slice (some ⟨g8, 0, none⟩) (L.length + 1) cap8) (rowsR (L.map Prod.fst) + nr) (lc.map Prod.fst) (lc.map Prod.snd) (L ++ [((⟨nr, ps⟩ : RBd), Value.slice po ps.length pc)])) := HS6.out.growB hg8 HO6.out HDI.out ho8
                have HR9 : Hid ((w8.setCell ⟨w.heap.size + 1, 2, none⟩ (.slice (some ⟨g8, 0, none⟩) (L.length + 1) cap8)).heap[w.heap.size]? = some (rb s q b7)) := PF.reader HR6.out HS6.out.own hg8
                obtain ⟨⟨d0, d1, d2, d3⟩, df⟩ := HS6.out.keptF HS6.out.own (by decide) hg8
                have df2 := df 2
                have hX8 : w8.heap[g]? = some (.cells #[.int .i64 (nr : Int), (.slice po ps.length pc)] 99 (0, 0)) := (hg8.by_.block g (lt_of_block HX6.out) (fun e => HGN.out e.symm)).trans HX6.out
                obtain ⟨k0, k1⟩ := two_of hX8
                refine hK.out _ _ (fun _ => ⟨d2, k0, k1⟩) ?_
                clear hK K hown hown8 hgr8 hat8 hlt8 ho8 hg8 df hX8 hX7
                try simp only [Act.put, List.setIfInBounds_toArray, List.set_cons_zero, List.set_cons_succ]
                have hHeld : (fun W => W.cell? ⟨w.heap.size + 1, 2, none⟩ = some bv ∧ W.cell? ⟨g, 0, none⟩ = some (.int .i64 (nr : Int)) ∧ W.cell? ⟨g, 1, none⟩ = some (.slice po ps.length pc)) w8 := ⟨d2, k0, k1⟩
                refine Un.pick (i := 8) (v := ?_) rfl (by kernel_rfl) (by kernel_rfl) (by kernel_rfl) (by kernel_rfl) (fun _ _ _ h => h) (Or.inl ⟨by rfl, ?_⟩) (by assumption) ?_
                rotate_left
                · intro w _; go_simp
                  try with_reducible rfl
                try simp only [Act.put, List.setIfInBounds_toArray, List.set_cons_zero, List.set_cons_succ]
                refine Un.pick (i := 9) (v := ?_) rfl (by kernel_rfl) (by kernel_rfl) (by kernel_rfl) (by kernel_rfl) (fun _ _ _ h => h) (Or.inl ⟨by rfl, ?_⟩) (by assumption) ?_
                rotate_left
                · intro w _; go_simp
                  try with_reducible rfl
                try simp only [Act.put, List.setIfInBounds_toArray, List.set_cons_zero, List.set_cons_succ]
                refine Un.one (i := 10) (by kernel_rfl) rfl (fun K hK => ?_)
                rw [if_pos (by rfl)]
                go_simp
                refine hK.out _ _ (fun h => absurd h (by decide)) ?_
                clear hK K hHeld d0 d1 d2 d3 df2 k0 k1 c0 c1 c2 c3 g0 g1
                refine Un.done (by kernel_rfl) ?_ _
                try simp only [Act.put, List.setIfInBounds_toArray, List.set_cons_zero, List.set_cons_succ]
                clear HS6 HS7 HR6 HX6 HO6 HDI HGN
                generalize w8.setCell ⟨w.heap.size + 1, 2, none⟩ (.slice (some ⟨g8, 0, none⟩) (L.length + 1) cap8) = W9 at *
                generalize Value.slice (some ⟨g8, 0, none⟩) (L.length + 1) cap8 = bv9 at *
                have HRS : Hid (rowsR ((L ++ [((⟨nr, ps⟩ : RBd), Value.slice po ps.length pc)]).map Prod.fst) = rowsR (L.map Prod.fst) + nr) := by show _ = _; rw [List.map_append, List.map_singleton, rowsR_snoc]
                have HG9 : Hid (b7 = false → ∀ p ∈ L ++ [((⟨nr, ps⟩ : RBd), Value.slice po ps.length pc)], RGood (lc.map Prod.fst) p.1) := fun hb p hp => by
                  rcases List.mem_append.1 hp with hp | hp
                  · exact HGL.out p hp
                  · simp at hp
                    subst hp
                    rcases HB7.out with ⟨-, h2⟩ | ⟨h1, h2⟩
                    · rw [h2] at hb; cases hb
                    · exact ⟨h1, hnr, by show ps.length = _; rw [List.length_map]; exact HPL2.out, HA.out (by rw [← h2]; exact hb)⟩
                have HF10 : Hid (∀ l rs, Hf s l rs → b7 = false ∧ l = lc ∧ rs.length = m ∧ (L ++ [((⟨nr, ps⟩ : RBd), Value.slice po ps.length pc)]).map Prod.fst = rs.take (L.length + 1) ∧ (bytesOf s).drop q = rbandsB (lc.map Prod.fst) (rs.drop (L.length + 1))) := fun l rs hf => by
                  obtain ⟨h1, h2, h3, h4, hi, h5, h6, h7, h8⟩ := HF.out l rs hf
                  have hlen : rs[L.length].parts.length = ps.length := by rw [h5.len, List.length_map, HPL2.out]
                  rw [← hlen, List.take_length] at h7
                  rw [← hlen, List.drop_length, prtsF, List.nil_append] at h8
                  refine ⟨?_, h2, h3, ?_, h8⟩
                  · rcases HB7.out with ⟨h9, -⟩ | ⟨-, h9⟩
                    · have := h5.lo; omega
                    · rw [h9, h1]
                  · rw [List.map_append, List.map_singleton]
                    refine take_snoc h4 hi ?_
                    generalize rs[L.length] = rr at *
                    obtain ⟨r1, r2⟩ := rr
                    simp only at h6 h7
                    rw [h6, h7]
                clear HB7 HA HF HGL
                have hrw := HRW.out
                go_wp2_with fail
                go_roundw
                case rel => exact ⟨L ++ [((⟨nr, ps⟩ : RBd), Value.slice po ps.length pc)], bv9, q, b7, by rw [List.length_append]; go_num, by rw [List.length_append, List.length_singleton]; omega, by rw [HRS.out]; exact HF9.out, by rw [HRS.out, List.length_append, List.length_singleton]; omega, hq, HR9.out, HG9.out, by rw [List.length_append]; exact HF10.out⟩
                case measure => simp [intOf]; omega
        · have HFE : Hid (∀ l rs, Hf s l rs → l = lc ∧ rs = L.map Prod.fst) := fun l rs h => by
            obtain ⟨-, h2, h3, h4, -⟩ := HF.out l rs h
            refine ⟨h2, ?_⟩
            rw [h4, List.take_of_length_le (by omega)]
          have HLN : Hid (L.length ≤ 2000) := by show _ ≤ _; omega
          obtain ⟨⟨c0, c1, c2, c3⟩, -⟩ := HS.out.cells
          clear HF HG
          by_cases hbig : 2000 < rowsR (L.map Prod.fst)
          · have hd : decide ((2000 : Int) < (rowsR (L.map Prod.fst) : Int)) = true := by simp; omega
            have HN : Hid (∀ l rs, ROk l rs → bytesOf s ≠ ftR l rs) := fun l rs h1 h2 => by
              have h3 := (HFE.out l rs ⟨h1, h2⟩).2
              have h4 := h1.rows
              rw [h3] at h4
              omega
            have HBL : Hid (Below w.heap.size w B) := HS.out.bel
            go_wp2
            go_ret2
            exact ⟨HBL.out, .inr ⟨_, rfl, HN.out⟩⟩
          · have hd : decide ((2000 : Int) < (rowsR (L.map Prod.fst) : Int)) = false := by simp; omega
            have HROK : Hid (ROk lc (L.map Prod.fst)) := ⟨HPL.out, fun b hb => by
              obtain ⟨p, hp, rfl⟩ := List.mem_map.1 hb
              exact HGL.out p hp, by omega⟩
            have HFT : Hid (Calls Try.prog 57 #[.pointer (some ⟨w.heap.size + 1, 0, none⟩)] B fun e w' => e = .returned (.string (strOf (footR (lc.map Prod.fst) (lc.map Prod.snd) (L.map Prod.fst)))) ∧ Below B.heap.size B w') := by
              refine foot_any (lc.map Prod.fst) (lc.map Prod.snd) (L.map Prod.fst) _ _ _ _ (w.heap.size + 1) B (by rw [List.length_map]; exact hl8) (by rw [List.length_map, List.length_map]) (names_of_ok HPL.out.1) (fun c hc => ?_) (by rw [List.length_map]; exact HLN.out) (fun b hb => ?_) HS.out.file (CSl.of_owns HS.out.cols) (ISl.of_owns HS.out.encs) ⟨L, rfl, GSl.of_owns ecell_len HS.out.own, fun p hp => GSl.of_owns rcell_len (HS.out.each p hp)⟩
              · obtain ⟨i, hi, rfl⟩ := List.getElem_of_mem hc
                exact HKI.out i hi
              · exact rbok_of_good HKI.out (HROK.out.bands b hb)
            rw [footR_ft] at HFT
            have HSB : Hid (∀ W, Below B.heap.size B W → PF w W (.slice (some ⟨cb, 0, none⟩) lc.length cc) (.slice eo lc.length ec) bv (rowsR (L.map Prod.fst)) (lc.map Prod.fst) (lc.map Prod.snd) L) := fun W h => HS.out.below h
            clear HGL hrn hLm HRW HLN
            go_wp2_with fail
            refine HFT.out.mono ?_
            rintro e wz ⟨rfl, hbz⟩
            have HSZ : Hid (PF w wz (.slice (some ⟨cb, 0, none⟩) lc.length cc) (.slice eo lc.length ec) bv (rowsR (L.map Prod.fst)) (lc.map Prod.fst) (lc.map Prod.snd) L) := HSB.out wz hbz
            clear hbz HFT HSB HS HR c0 c1 c2 c3 x0 x1 x2 x3 x4 x5
            by_cases heq : strOf (ftR lc (L.map Prod.fst)) = s
            · have HPS : Hid (Psd (bytesOf s) lc (L.map Prod.fst)) := ⟨HROK.out, by rw [← heq, bytesOf_strOf _ (ftR_lt _ _)], fun l' rs' h1 h2 => HFE.out l' rs' ⟨h1, h2⟩⟩
              have HEQ : Hid (strOf (ftR lc (L.map Prod.fst)) = s) := heq
              clear heq
              generalize strOf (ftR lc (L.map Prod.fst)) = S at *
              obtain rfl := HEQ.out
              clear HEQ
              go_wp2
              go_ret2
              exact ⟨HSZ.out.bel, .inl ⟨lc, L, _, _, bv, rfl, HPS.out, HSZ.out⟩⟩
            · have hne : ((strOf (ftR lc (L.map Prod.fst))).toList == s.toList) = false := by
                rw [beq_eq_false_iff_ne]
                intro h
                exact heq (toList_inj h)
              have HN : Hid (∀ l rs, ROk l rs → bytesOf s ≠ ftR l rs) := fun l rs h1 h2 => by
                obtain ⟨e1, e2⟩ := HFE.out l rs ⟨h1, h2⟩
                rw [e1, e2] at h2
                exact heq (by rw [← h2, strOf_bytesOf])
              clear heq
              generalize strOf (ftR lc (L.map Prod.fst)) = S at *
              go_wp2
              go_ret2
              exact ⟨HSZ.out.bel, .inr ⟨_, rfl, HN.out⟩⟩
end Go.Proofs.Ytjidbonhhpkljaa.Ec
