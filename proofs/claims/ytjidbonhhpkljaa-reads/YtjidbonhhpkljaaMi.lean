/- What the proof stands on: RdReadP, RdReadQ, RdRead, RdRColumns, RdReads. -/
import Derived.Test.YtjidbonhhpkljaaMh
import Derived.Laws.OwnMore

/- The document's Read: how it cuts a file, and what a store into a part leaves. -/
set_option linter.unusedVariables false
namespace Go.Proofs.Ytjidbonhhpkljaa.Ec
open Go.RowKit Go.Proofs.Ytjidbonhhpkljaa.Pk Go.Proofs.Ytjidbonhhpkljaa.Pm
/-- The footer's length, as the document reads it. -/
def sz4 (s : ByteArray) (n : Nat) : Nat := (bytesOf s).getD n 0 + 256 * (bytesOf s).getD (n + 1) 0 + 65536 * (bytesOf s).getD (n + 2) 0 + 16777216 * (bytesOf s).getD (n + 3) 0
theorem four_at {B : List Nat} {n : Nat} (h : n + 4 ≤ B.length) : (B.drop n).take 4 = [B.getD n 0, B.getD (n + 1) 0, B.getD (n + 2) 0, B.getD (n + 3) 0] := by
  apply List.ext_getElem
  · simp; omega
  · intro i h1 h2
    simp at h2
    have : i = 0 ∨ i = 1 ∨ i = 2 ∨ i = 3 := by omega
    rcases this with rfl | rfl | rfl | rfl
    · simp [List.getElem?_eq_getElem (show n < B.length by omega)]
    · simp [List.getElem?_eq_getElem (show n + 1 < B.length by omega)]
    · simp [List.getElem?_eq_getElem (show n + 2 < B.length by omega)]
    · simp [List.getElem?_eq_getElem (show n + 3 < B.length by omega)]
theorem sz4_lenB (s : ByteArray) (n : Nat) (h : n + 4 ≤ s.size) : ((bytesOf s).drop n).take 4 = lenB (sz4 s n) := by
  rw [four_at (by rw [bytesOf_length]; exact h)]
  have g0 := getD_lt s n
  have g1 := getD_lt s (n + 1)
  have g2 := getD_lt s (n + 2)
  have g3 := getD_lt s (n + 3)
  unfold sz4 lenB
  generalize (bytesOf s).getD n 0 = a at *
  generalize (bytesOf s).getD (n + 1) 0 = b at *
  generalize (bytesOf s).getD (n + 2) 0 = c at *
  generalize (bytesOf s).getD (n + 3) 0 = d at *
  have e1 : (a + 256 * b + 65536 * c + 16777216 * d) % 256 = a := by omega
  have e2 : (a + 256 * b + 65536 * c + 16777216 * d) / 256 % 256 = b := by omega
  have e3 : (a + 256 * b + 65536 * c + 16777216 * d) / 65536 % 256 = c := by omega
  have e4 : (a + 256 * b + 65536 * c + 16777216 * d) / 16777216 % 256 = d := by omega
  rw [e1, e2, e3, e4]
theorem lenB_sz {a b : Nat} (ha : a < 4294967296) (hb : b < 4294967296) (h : lenB a = lenB b) : a = b := by
  unfold lenB at h
  simp at h
  omega
theorem sz4_lt (s : ByteArray) (n : Nat) : sz4 s n < 4294967296 := by
  have g0 := getD_lt s n
  have g1 := getD_lt s (n + 1)
  have g2 := getD_lt s (n + 2)
  have g3 := getD_lt s (n + 3)
  unfold sz4
  omega
theorem drop_take_drop (B : List Nat) (a k : Nat) : B.drop a = (B.drop a).take k ++ B.drop (a + k) := by
  rw [← List.drop_drop]
  exact (List.take_append_drop _ _).symm
theorem Cut.marks {s : ByteArray} {C F : List Nat} (h : Cut s C F) : (∃ X, bytesOf s = [83, 84, 82, 65] ++ X) ∧ (∃ X, bytesOf s = X ++ [83, 84, 82, 65]) ∧ 12 ≤ s.size ∧ sz4 s (s.size - 8) = F.length ∧ F.length ≤ s.size - 12 := by
  have hl := h.len
  have h6 := h.1
  refine ⟨⟨_, h.2⟩, ⟨markB ++ (C ++ (F ++ lenB F.length)), by rw [h.2]; simp [markB]⟩, by omega, ?_, by omega⟩
  refine lenB_sz (sz4_lt _ _) (by omega) ?_
  rw [← sz4_lenB s _ (by omega), h.2]
  have e : markB ++ (C ++ (F ++ (lenB F.length ++ markB))) = (markB ++ (C ++ F)) ++ (lenB F.length ++ markB) := by simp
  rw [e, List.drop_append_of_le_length (by simp [markB]; omega), List.drop_of_length_le (by simp [markB]; omega), List.nil_append]
  simp [lenB]
theorem cut_of {s : ByteArray} (h12 : 12 ≤ s.size) (h6 : s.size ≤ 65536) (hp : ∃ X, bytesOf s = [83, 84, 82, 65] ++ X) (hs : ∃ X, bytesOf s = X ++ [83, 84, 82, 65]) (hz : sz4 s (s.size - 8) ≤ s.size - 12) :
    Cut s (bytesOf (s.extract 4 (s.size - 8 - sz4 s (s.size - 8)))) (bytesOf (s.extract (s.size - 8 - sz4 s (s.size - 8)) (s.size - 8))) := by
  have h4 := sz4_lenB s (s.size - 8) (by omega)
  generalize sz4 s (s.size - 8) = z at *
  refine ⟨h6, ?_⟩
  have hlen : (bytesOf (s.extract (s.size - 8 - z) (s.size - 8))).length = z := by rw [bytesOf_length, ByteArray.size_extract]; omega
  rw [hlen, bytesOf_extract, bytesOf_extract, ← h4]
  obtain ⟨X, hX⟩ := hp
  obtain ⟨Y, hY⟩ := hs
  have hYl : Y.length = s.size - 4 := by
    have := congrArg List.length hY
    rw [bytesOf_length] at this
    simp at this
    omega
  have e1 : (bytesOf s).drop (s.size - 4) = markB := by rw [hY, ← hYl, List.drop_left]; rfl
  have e2 : (bytesOf s).take 4 = markB := by rw [hX]; rfl
  have d3 := drop_take_drop (bytesOf s) (s.size - 8) 4
  rw [show s.size - 8 + 4 = s.size - 4 by omega, e1] at d3
  have d2 := drop_take_drop (bytesOf s) (s.size - 8 - z) z
  rw [show s.size - 8 - z + z = s.size - 8 by omega, d3] at d2
  have d1 := drop_take_drop (bytesOf s) 4 (s.size - 8 - z - 4)
  rw [show 4 + (s.size - 8 - z - 4) = s.size - 8 - z by omega, d2] at d1
  have d0 := List.take_append_drop 4 (bytesOf s)
  rw [e2, d1] at d0
  rw [show s.size - 8 - (s.size - 8 - z) = z by omega]
  exact d0.symm
/-- Sizes of parts. -/
def szL (L : List (RBd × Value)) : List (List Nat) := L.map fun p => p.1.parts.map fun x => x.size
/-- A part of a band gets its text. -/
def withText (L : List (RBd × Value)) (k i : Nat) (t : ByteArray) : List (RBd × Value) :=
  match L[k]? with
  | some p => L.set k (⟨p.1.rows, p.1.parts.set i ⟨(p.1.parts.getD i noPrt).size, (p.1.parts.getD i noPrt).bnd, t⟩⟩, p.2)
  | none => L
theorem withText_at {L : List (RBd × Value)} {k i : Nat} {t : ByteArray} (hk : k < L.length) (hi : i < L[k].1.parts.length) : withText L k i t = L.set k (⟨L[k].1.rows, L[k].1.parts.set i ⟨L[k].1.parts[i].size, L[k].1.parts[i].bnd, t⟩⟩, L[k].2) := by
  unfold withText
  rw [List.getElem?_eq_getElem hk]
  simp only
  rw [show L[k].1.parts.getD i noPrt = L[k].1.parts[i] by rw [List.getD_eq_getElem?_getD, List.getElem?_eq_getElem hi]; rfl]
theorem szL_text {L : List (RBd × Value)} {k i : Nat} {t : ByteArray} (hk : k < L.length) (hi : i < L[k].1.parts.length) : szL (withText L k i t) = szL L := by
  rw [withText_at hk hi]
  unfold szL
  rw [List.map_set]
  simp only [List.map_set]
  have e1 : (L[k].1.parts.map fun x => x.size).set i L[k].1.parts[i].size = L[k].1.parts.map fun x => x.size := by
    have : (L[k].1.parts.map fun x => x.size)[i]'(by simpa using hi) = L[k].1.parts[i].size := by simp
    rw [← this, List.set_getElem_self]
  rw [e1]
  have : (L.map fun p => p.1.parts.map fun x => x.size)[k]'(by simpa using hk) = L[k].1.parts.map fun x => x.size := by simp
  rw [← this, List.set_getElem_self]
theorem ecell_text {L : List (RBd × Value)} {k i : Nat} {t : ByteArray} (hk : k < L.length) (hi : i < L[k].1.parts.length) : (withText L k i t).flatMap ecell = L.flatMap ecell := by
  rw [withText_at hk hi]
  have key : ∀ (M : List (RBd × Value)) (k : Nat) (hk : k < M.length) (q : RBd × Value), ecell q = ecell M[k] → (M.set k q).flatMap ecell = M.flatMap ecell := by
    intro M
    induction M with
    | nil => intro k hk; simp at hk
    | cons x r ih =>
      intro k hk q hq
      cases k with
      | zero => rw [List.set_cons_zero, List.flatMap_cons, List.flatMap_cons]; rw [show ecell q = ecell x from hq]
      | succ k => rw [List.set_cons_succ, List.flatMap_cons, List.flatMap_cons, ih k (by simpa using hk) q (by simpa using hq)]
  exact key L k hk _ rfl
theorem tot_take {rs : List RBd} {k : Nat} (h : k < rs.length) : tot (rs.take (k + 1)) = tot (rs.take k) + szs rs[k].parts := by
  rw [List.take_succ_eq_append_getElem h]
  simp only [tot, List.map_append, List.map_cons, List.map_nil, List.sum_append, List.sum_cons, List.sum_nil, Nat.add_zero]
theorem szs_take {ps : List Prt} {i : Nat} (h : i < ps.length) : szs (ps.take (i + 1)) = szs (ps.take i) + ps[i].size := by
  rw [List.take_succ_eq_append_getElem h]
  simp only [szs, List.map_append, List.map_cons, List.map_nil, List.sum_append, List.sum_cons, List.sum_nil, Nat.add_zero]
theorem szs_le {ps : List Prt} (i : Nat) : szs (ps.take i) ≤ szs ps := by
  have : szs ps = szs (ps.take i) + szs (ps.drop i) := by
    conv => lhs; rw [← List.take_append_drop i ps]
    simp only [szs, List.map_append, List.sum_append]
  omega
theorem tot_le {rs : List RBd} (k : Nat) : tot (rs.take k) ≤ tot rs := by
  have : tot rs = tot (rs.take k) + tot (rs.drop k) := by
    conv => lhs; rw [← List.take_append_drop k rs]
    simp only [tot, List.map_append, List.sum_append]
  omega
/-- So much at least. -/
theorem tot_ge {rs : List RBd} {k i : Nat} (hk : k < rs.length) (hi : i < rs[k].parts.length) : tot (rs.take k) + szs (rs[k].parts.take i) + rs[k].parts[i].size ≤ tot rs := by
  have h1 := tot_le (rs := rs) (k + 1)
  rw [tot_take hk] at h1
  have h2 := szs_le (ps := rs[k].parts) (i + 1)
  rw [szs_take hi] at h2
  omega
theorem szL_len {L M : List (RBd × Value)} (h : szL L = szL M) : L.length = M.length := by
  have := congrArg List.length h
  simpa [szL] using this
theorem szL_parts {L M : List (RBd × Value)} (h : szL L = szL M) {k : Nat} (h1 : k < L.length) (h2 : k < M.length) : (L[k].1.parts.map fun x => x.size) = M[k].1.parts.map fun x => x.size := by
  have e : (szL L)[k]? = (szL M)[k]? := by rw [h]
  simpa [szL, h1, h2] using e
theorem szL_at {L M : List (RBd × Value)} (h : szL L = szL M) {k i : Nat} (h1 : k < L.length) (h2 : k < M.length) (h3 : i < L[k].1.parts.length) (h4 : i < M[k].1.parts.length) : L[k].1.parts[i].size = M[k].1.parts[i].size := by
  have e := szL_parts h h1 h2
  have e2 : (L[k].1.parts.map fun x => x.size)[i]? = (M[k].1.parts.map fun x => x.size)[i]? := by rw [e]
  simpa [h3, h4] using e2
/-- What a walk reads of a band's part. -/
theorem PF.part {w W : World} {cv ev bv : Value} {rn : Nat} {cs : List Col} {es : List Int} {L : List (RBd × Value)} (h : PF w W cv ev bv rn cs es L) {k i : Nat} (hk : k < L.length) (hi : i < L[k].1.parts.length) : ∃ bb bc pb pc, bv = .slice (some ⟨bb, 0, none⟩) L.length bc ∧ L[k].2 = .slice (some ⟨pb, 0, none⟩) L[k].1.parts.length pc ∧ W.cell? ⟨bb, k * 2 + 1, none⟩ = some L[k].2 ∧ (∀ j u, (rcell L[k].1.parts[i])[j]? = some u → W.cell? ⟨pb, i * 9 + j, none⟩ = some u) ∧ (∀ j, W.frozen? ⟨pb, j, none⟩ = false) ∧ pb < W.heap.size ∧ w.heap.size + 1 ≤ pb := by
  have hp := h.each L[k] (List.getElem_mem hk)
  obtain ⟨bb, bc, hb, -⟩ := h.own.form (by omega)
  obtain ⟨pb, pc, hpb, -⟩ := hp.form (by omega)
  have ho := h.own
  rw [hb] at ho
  have hp2 := hp
  rw [hpb] at hp2
  refine ⟨bb, bc, pb, pc, hb, hpb, ?_, fun j u hu => ?_, fun j => hp2.frozenAt j, (hp2.lt pb rfl).2, (hp2.lt pb rfl).1⟩
  · rw [ho.cellAt _ (by omega)]
    exact flat_at ecell 2 ecell_len L k hk 1 _ rfl
  · have hj : j < 9 := by have := (List.getElem?_eq_some_iff.1 hu).1; simpa [rcell] using this
    rw [hp2.cellAt _ (by omega)]
    exact flat_at rcell 9 rcell_len L[k].1.parts i hi j u hu
end Go.Proofs.Ytjidbonhhpkljaa.Ec

/- The document's Read: a part of a band gets its text, in memory. -/
set_option linter.unusedVariables false
namespace Go.Proofs.Ytjidbonhhpkljaa.Ec
open Go.RowKit Go.Proofs.Ytjidbonhhpkljaa.Pk Go.Proofs.Ytjidbonhhpkljaa.Pm
/-- A list with cells written from a place on. -/
def setL (xs : List Value) : Nat → List Value → List Value
  | _, [] => xs
  | o, v :: r => setL (xs.set o v) (o + 1) r
theorem setL_right (A : List Value) : ∀ (vs B : List Value) (o : Nat), setL (A ++ B) (A.length + o) vs = A ++ setL B o vs
  | [], B, o => rfl
  | v :: r, B, o => by
    show setL ((A ++ B).set (A.length + o) v) (A.length + o + 1) r = A ++ setL (B.set o v) (o + 1) r
    rw [List.set_append_right _ _ (by omega), show A.length + o - A.length = o by omega, Nat.add_assoc]
    exact setL_right A r (B.set o v) (o + 1)
theorem setL_whole : ∀ (vs B C : List Value), vs.length = B.length → setL (B ++ C) 0 vs = vs ++ C
  | [], [], C, _ => rfl
  | v :: r, b :: B, C, h => by
    show setL ((b :: (B ++ C)).set 0 v) (0 + 1) r = v :: (r ++ C)
    rw [List.set_cons_zero]
    have := setL_right [v] r (B ++ C) 0
    simp only [List.length_singleton, List.singleton_append, Nat.add_zero] at this
    rw [Nat.zero_add, this, setL_whole r B C (by simpa using h)]
theorem setL_flat (f : Prt → List Value) (m : Nat) (hf : ∀ x, (f x).length = m) : ∀ (ps : List Prt) (i : Nat) (hi : i < ps.length) (p : Prt), setL (ps.flatMap f) (i * m) (f p) = (ps.set i p).flatMap f
  | [], i, hi, _ => by simp at hi
  | x :: r, 0, _, p => by
    rw [List.flatMap_cons, List.set_cons_zero, List.flatMap_cons, Nat.zero_mul]
    exact setL_whole _ _ _ (by rw [hf, hf])
  | x :: r, i + 1, hi, p => by
    rw [List.flatMap_cons, List.set_cons_succ, List.flatMap_cons]
    have := setL_right (f x) (f p) (r.flatMap f) (i * m)
    rw [hf] at this
    rw [show (i + 1) * m = m + i * m by rw [Nat.succ_mul, Nat.add_comm], this, setL_flat f m hf r i (by simpa using hi) p]
theorem grownBy_two {w w1 w2 : World} {r : Option Nat} (h : w.grownBy w1 r) (h2 : w1.grownBy w2 r) : w.grownBy w2 r :=
  ⟨h2.os.trans h.os, h2.tape.trans h.tape, h2.output.trans h.output, Nat.le_trans h.size h2.size, fun k hk hn => (h2.block k (Nat.lt_of_lt_of_le hk h.size) hn).trans (h.block k hk hn)⟩
theorem owns_setCells {base : Nat} {e : TypeId} {size g n cap : Nat} : ∀ (vs : List Value) (o : Nat) (w : World) (xs : List Value), w.ownsRow base e size (.slice (some ⟨g, 0, none⟩) n cap) n xs →
    (w.setCells g o vs).ownsRow base e size (.slice (some ⟨g, 0, none⟩) n cap) n (setL xs o vs) ∧ w.grownBy (w.setCells g o vs) (some g)
  | [], _, w, _, h => ⟨h, ⟨rfl, rfl, rfl, Nat.le_refl _, fun _ _ _ => rfl⟩⟩
  | v :: r, o, w, xs, h => by
    obtain ⟨h1, h2⟩ := h.stored o v
    obtain ⟨h3, h4⟩ := owns_setCells r (o + 1) _ _ h1
    exact ⟨h3, grownBy_two h2 h4⟩
theorem snd_text {L : List (RBd × Value)} {k i : Nat} {t : ByteArray} (hk : k < L.length) (hi : i < L[k].1.parts.length) : (withText L k i t).map Prod.snd = L.map Prod.snd := by
  rw [withText_at hk hi, List.map_set]
  have : (L.map Prod.snd)[k]'(by simpa using hk) = L[k].2 := by simp
  rw [← this, List.set_getElem_self]
/-- The part's cells with their text. -/
theorem PF.text {w W : World} {cv ev bv : Value} {rn : Nat} {cs : List Col} {es : List Int} {L : List (RBd × Value)} (h : PF w W cv ev bv rn cs es L) {k i pb pc : Nat} (hk : k < L.length) (hi : i < L[k].1.parts.length) (hpv : L[k].2 = .slice (some ⟨pb, 0, none⟩) L[k].1.parts.length pc) (t : ByteArray) :
    PF w (W.setCells pb (i * 9) (rcell ⟨L[k].1.parts[i].size, L[k].1.parts[i].bnd, t⟩)) cv ev bv rn cs es (withText L k i t) := by
  have hp := h.each L[k] (List.getElem_mem hk)
  have hob : L[k].2.ownBlock = some pb := by rw [hpv]; rfl
  have hp2 := hp
  rw [hpv] at hp2
  have hlt := hp2.lt pb rfl
  obtain ⟨hn, hg⟩ := owns_setCells (rcell ⟨L[k].1.parts[i].size, L[k].1.parts[i].bnd, t⟩) (i * 9) W _ hp2
  rw [setL_flat rcell 9 rcell_len _ _ hi] at hn
  have hne : pb ≠ w.heap.size + 1 := fun e => own_far hp h.file (by decide) (by rw [hob, e])
  have far : ∀ {e : TypeId} {size n : Nat} {v : Value} {xs : List Value}, W.ownsRow (w.heap.size + 1) e size v n xs → e ≠ 101 → v.ownBlock = none ∨ v.ownBlock ≠ some pb := fun ho hne => by
    have := apart_of ho hp hne
    unfold Apart at this
    rw [hob] at this
    exact this
  have hdis := List.pairwise_iff_getElem.1 h.dis
  refine ⟨?_, h.cols.kept hg (far h.cols (by decide)), h.encs.kept hg (far h.encs (by decide)), ?_, fun p hp => ?_, ?_, below_setCells (Nat.le_refl _) (by omega) _ _ _ h.bel⟩
  · rw [hg.block _ (lt_of_block h.file) (fun e => hne (by cases e; rfl))]
    exact h.file
  · have := h.own.kept hg (far h.own (by decide))
    rw [ecell_text hk hi, show (withText L k i t).length = L.length by rw [withText_at hk hi, List.length_set]]
    exact this
  · rw [withText_at hk hi] at hp
    obtain ⟨k', hk', rfl⟩ := List.getElem_of_mem hp
    rw [List.length_set] at hk'
    rw [List.getElem_set]
    split
    · rename_i hkk
      show World.ownsRow _ _ _ _ L[k].2 (L[k].1.parts.set i _).length _
      rw [hpv, List.length_set]
      exact hn
    · rename_i hkk
      refine (h.each L[k'] (List.getElem_mem hk')).kept hg (.inr ?_)
      intro e
      rcases Nat.lt_or_ge k k' with h1 | h1
      · exact hdis k k' hk hk' h1 pb hob e
      · exact hdis k' k hk' hk (by omega) pb e hob
  · have h1 : (L.map Prod.snd).Pairwise fun p q => ∀ g, p.ownBlock = some g → q.ownBlock ≠ some g := List.pairwise_map.2 h.dis
    rw [← snd_text (t := t) hk hi] at h1
    exact List.pairwise_map.1 h1
theorem rcell_one (p : Prt) : (rcell p).toArray.all (·.oneCell') = true := by simp [rcell, Value.oneCell']
theorem PF.there {w W : World} {cv ev bv : Value} {rn : Nat} {cs : List Col} {es : List Int} {L : List (RBd × Value)} (h : PF w W cv ev bv rn cs es L) {k i pb pc : Nat} (hk : k < L.length) (hi : i < L[k].1.parts.length) (hpv : L[k].2 = .slice (some ⟨pb, 0, none⟩) L[k].1.parts.length pc) : W.there pb (i * 9) 9 := by
  obtain ⟨bb, bc, pb', pc', -, hp', -, q2, q3, -, -⟩ := h.part hk hi
  rw [hpv] at hp'
  cases hp'
  intro j hj
  exact ⟨by rw [q2 j _ (List.getElem?_eq_getElem (by rw [rcell_len]; exact hj))]; rfl, q3 _⟩
end Go.Proofs.Ytjidbonhhpkljaa.Ec

/- The document's Read and Columns. -/
set_option linter.unusedVariables false
set_option linter.unusedSimpArgs false
namespace Go.Proofs.Ytjidbonhhpkljaa.Ec
open Go.RowKit Go.Proofs.Ytjidbonhhpkljaa.Pk Go.Proofs.Ytjidbonhhpkljaa.Pm
/-- What Read answers. -/
def RRead (w : World) (s : ByteArray) (e : Ending) (w' : World) : Prop :=
  Below w.heap.size w w' ∧ ((∃ (cs : List Col) (n fb : Nat) (cv ev bv : Value), e = .returned (.tuple #[.pointer (some ⟨fb, 0, none⟩), .bool true]) ∧ CRes s cs n 0 ∧ w'.heap[fb]? = some (.cells #[cv, ev, bv, .int .i64 (n : Int)] 96 (0, 0)) ∧ w'.ownsRow w.heap.size 104 2 cv cs.length (ccells cs)) ∨
    (∃ v, e = .returned (.tuple #[v, .bool false]) ∧ CRes s [] 0 3))

set_option maxRecDepth 100000 in
set_option maxHeartbeats 16000000 in
theorem rRead_any (s : ByteArray) (w : World) (hm : s.size ≤ maxLen) :
    Calls Try.prog 63 #[.string s] w (RRead w s) := by
  have hmm := hm
  unfold maxLen at hmm
  by_cases hbig : 65536 < s.size
  · have hd : decide ((65536 : Int) < (s.size : Int)) = true := by simp; omega
    have HC : Hid (CRes s [] 0 3) := file_uncut (fun C F h => by have := h.1; omega)
    go_enter Try.func63, Try.ntmps63
    go_wp2
    go_ret2
    exact ⟨Below.refl _ _, .inr ⟨_, rfl, HC.out⟩⟩
  have hd : decide ((65536 : Int) < (s.size : Int)) = false := by simp; omega
  by_cases hsm : s.size < 12
  · have hd2 : decide ((s.size : Int) < 12) = true := by simp; omega
    have HC : Hid (CRes s [] 0 3) := file_uncut (fun C F h => by have := h.len; omega)
    go_enter Try.func63, Try.ntmps63
    go_wp2
    go_ret2
    exact ⟨Below.refl _ _, .inr ⟨_, rfl, HC.out⟩⟩
  have hd2 : decide ((s.size : Int) < 12) = false := by simp; omega
  have q1 : (4 : Int) ≤ (s.size : Int) := by omega
  cases hpre : ((s.extract 0 4).toList == [83, 84, 82, 65])
  · have HC : Hid (CRes s [] 0 3) := file_uncut (fun C F h => by
      have := (toList_mark _).2 ((pre_iff (by omega)).2 h.marks.1)
      rw [hpre] at this
      cases this)
    go_enter Try.func63, Try.ntmps63
    go_wp2
    go_ret2
    exact ⟨Below.refl _ _, .inr ⟨_, rfl, HC.out⟩⟩
  cases hsuf : ((s.extract (s.size - 4) s.size).toList == [83, 84, 82, 65])
  · have HC : Hid (CRes s [] 0 3) := file_uncut (fun C F h => by
      have := (toList_mark _).2 ((suf_iff (by omega)).2 h.marks.2.1)
      rw [hsuf] at this
      cases this)
    have h8 : ((s.size : Int) - 4).toNat = s.size - 4 := by omega
    go_enter Try.func63, Try.ntmps63
    go_wp2
    go_ret2
    exact ⟨Below.refl _ _, .inr ⟨_, rfl, HC.out⟩⟩
  have HP : Hid (∃ X, bytesOf s = [83, 84, 82, 65] ++ X) := (pre_iff (by omega)).1 ((toList_mark _).1 hpre)
  have HSF : Hid (∃ X, bytesOf s = X ++ [83, 84, 82, 65]) := (suf_iff (by omega)).1 ((toList_mark _).1 hsuf)
  have h8 : ((s.size : Int) - 4).toNat = s.size - 4 := by omega
  go_enter Try.func63, Try.ntmps63
  go_upto_region 4 with fail
  obtain ⟨m, hm8⟩ : ∃ m, s.size = m + 8 := ⟨s.size - 8, by omega⟩
  obtain ⟨m1, hm1⟩ : ∃ m1, m1 = m + 1 := ⟨_, rfl⟩
  obtain ⟨m2, hm2⟩ : ∃ m2, m2 = m + 2 := ⟨_, rfl⟩
  obtain ⟨m3, hm3⟩ : ∃ m3, m3 = m + 3 := ⟨_, rfl⟩
  have i0 : m < s.size := by omega
  have i1 : m1 < s.size := by omega
  have i2 : m2 < s.size := by omega
  have i3 : m3 < s.size := by omega
  have l0 : (m : Int) < (s.size : Int) := by omega
  have l1 : (m1 : Int) < (s.size : Int) := by omega
  have l2 : (m2 : Int) < (s.size : Int) := by omega
  have l3 : (m3 : Int) < (s.size : Int) := by omega
  obtain ⟨a, ha⟩ : ∃ a, s[m].toNat = a := ⟨_, rfl⟩
  obtain ⟨b, hb⟩ : ∃ b, s[m1].toNat = b := ⟨_, rfl⟩
  obtain ⟨c, hc⟩ : ∃ c, s[m2].toNat = c := ⟨_, rfl⟩
  obtain ⟨d, hdd⟩ : ∃ d, s[m3].toNat = d := ⟨_, rfl⟩
  have HZ : Hid (sz4 s m = a + 256 * b + 65536 * c + 16777216 * d) := by
    show _ = _
    unfold sz4
    rw [← hm1, ← hm2, ← hm3, List.getD_eq_getElem?_getD, List.getD_eq_getElem?_getD, List.getD_eq_getElem?_getD, List.getD_eq_getElem?_getD, byte_at s m i0, byte_at s m1 i1, byte_at s m2 i2, byte_at s m3 i3, ← ha, ← hb, ← hc, ← hdd]
    rfl
  have a0 : a < 256 := by rw [← ha]; exact s[m].toNat_lt
  have a1 : b < 256 := by rw [← hb]; exact s[m1].toNat_lt
  have a2 : c < 256 := by rw [← hc]; exact s[m2].toNat_lt
  have a3 : d < 256 := by rw [← hdd]; exact s[m3].toNat_lt
  have k0 : IntKind.i64.wrap ((s.size : Int) - 8) = (m : Int) := by rw [IntKind.wrap_i64]; omega
  have k1 : IntKind.i64.wrap ((s.size : Int) - 7) = (m1 : Int) := by rw [IntKind.wrap_i64]; omega
  have k2 : IntKind.i64.wrap ((s.size : Int) - 6) = (m2 : Int) := by rw [IntKind.wrap_i64]; omega
  have k3 : IntKind.i64.wrap ((s.size : Int) - 5) = (m3 : Int) := by rw [IntKind.wrap_i64]; omega
  have y0 : IntKind.i64.wrap (a : Int) = (a : Int) := by rw [IntKind.wrap_i64]; omega
  have y1 : IntKind.i64.wrap (b : Int) = (b : Int) := by rw [IntKind.wrap_i64]; omega
  have y2 : IntKind.i64.wrap (c : Int) = (c : Int) := by rw [IntKind.wrap_i64]; omega
  have y3 : IntKind.i64.wrap (d : Int) = (d : Int) := by rw [IntKind.wrap_i64]; omega
  have p1 : IntKind.i64.wrap (256 * (b : Int)) = 256 * (b : Int) := by rw [IntKind.wrap_i64]; omega
  have p2 : IntKind.i64.wrap (65536 * (c : Int)) = 65536 * (c : Int) := by rw [IntKind.wrap_i64]; omega
  have p3 : IntKind.i64.wrap (16777216 * (d : Int)) = 16777216 * (d : Int) := by rw [IntKind.wrap_i64]; omega
  have s1 : IntKind.i64.wrap ((a : Int) + 256 * (b : Int)) = (a : Int) + 256 * (b : Int) := by rw [IntKind.wrap_i64]; omega
  have s2 : IntKind.i64.wrap ((a : Int) + 256 * (b : Int) + 65536 * (c : Int)) = (a : Int) + 256 * (b : Int) + 65536 * (c : Int) := by rw [IntKind.wrap_i64]; omega
  have s3 : IntKind.i64.wrap ((a : Int) + 256 * (b : Int) + 65536 * (c : Int) + 16777216 * (d : Int)) = (a : Int) + 256 * (b : Int) + 65536 * (c : Int) + 16777216 * (d : Int) := by rw [IntKind.wrap_i64]; omega
  have HM8 : Hid (s.size = m + 8) := hm8
  have hs6 : s.size ≤ 65536 := by omega
  have h12 : 12 ≤ s.size := by omega
  clear hpre hsuf hd hd2 h8 q1 hmm hm hm8 hbig hsm hm1 hm2 hm3 a0 a1 a2 a3
  go_quiet (fail)
  obtain ⟨Z, hZ⟩ : ∃ Z : Nat, Z = a + 256 * b + 65536 * c + 16777216 * d := ⟨_, rfl⟩
  have hZi : (a : Int) + 256 * (b : Int) + 65536 * (c : Int) + 16777216 * (d : Int) = (Z : Int) := by omega
  rw [hZi]
  have HZS : Hid (sz4 s m = Z) := by show _ = _; rw [hZ]; exact HZ.out
  have hZb : Z < 4294967296 := by have := sz4_lt s m; rw [HZS.out] at this; exact this
  have HB0 : Hid (Below w.heap.size w (w.drewN nq)) := below_drewN (Below.refl _ _) _
  have HW0 : Hid ((w.drewN nq).heap.size = w.heap.size) := rfl
  generalize w.drewN nq = w0 at *
  clear ha hb hc hdd HZ k0 k1 k2 k3 p1 p2 p3 s1 s2 s3 i0 i1 i2 i3 l0 l1 l2 l3 hZ hZi
  clear y0 y1 y2 y3
  by_cases hzb : s.size - 12 < Z
  · have hd : decide ((s.size : Int) - 12 < (Z : Int)) = true := by simp; omega
    have HC : Hid (CRes s [] 0 3) := file_uncut (fun C F h => by
      have h2 := h.marks
      have h3 := HM8.out
      rw [show s.size - 8 = m by omega, HZS.out] at h2
      omega)
    go_wp2
    go_ret2
    exact ⟨HB0.out, .inr ⟨_, rfl, HC.out⟩⟩
  · have hd : decide ((s.size : Int) - 12 < (Z : Int)) = false := by simp; omega
    obtain ⟨f, hf⟩ : ∃ f, m = f + Z := ⟨m - Z, by have := HM8.out; omega⟩
    have HFM : Hid (m = f + Z) := hf
    have e0 : (s.size : Int) - 8 = (m : Int) := by have := HM8.out; omega
    have e1 : (m : Int) - (Z : Int) = (f : Int) := by omega
    have e2 : (f : Int) ≤ (m : Int) := by omega
    have e3 : (m : Int) ≤ (s.size : Int) := by have := HM8.out; omega
    have hf4 : 4 ≤ f := by have := HM8.out; omega
    have hm6 : m ≤ 65536 := by have := HM8.out; omega
    have HCT : Hid (Cut s (bytesOf (s.extract 4 f)) (bytesOf (s.extract f m))) := by
      have h3 := HM8.out
      have := cut_of h12 hs6 HP.out HSF.out (by rw [show s.size - 8 = m by omega, HZS.out]; omega)
      rw [show s.size - 8 = m by omega, HZS.out, show m - Z = f by omega] at this
      exact this
    have HFS : Hid ((s.extract f m).size ≤ 65536) := by show _ ≤ _; rw [ByteArray.size_extract]; omega
    have HCS : Hid ((s.extract 4 f).size = f - 4) := by show _ = _; have := HM8.out; rw [ByteArray.size_extract]; omega
    clear hf hzb HP HSF HZS
    go_wp2_with fail
    refine (parsed_any (s.extract f m) w0 HFS.out).mono ?_
    rintro e w1 ⟨hb1, ⟨l, L, cv, ev, bv, rfl, hps, hS⟩ | ⟨v, rfl, hno⟩⟩
    rotate_left
    · have HC : Hid (CRes s [] 0 3) := file_none HCT.out hno
      have HB1 : Hid (Below w.heap.size w w1) := HB0.out.trans (hb1.mono (by rw [HW0.out]; exact Nat.le_refl _))
      clear hno hb1
      go_wp2
      go_ret2
      exact ⟨HB1.out, .inr ⟨_, rfl, HC.out⟩⟩
    · have HPS : Hid (Psd (bytesOf (s.extract f m)) l (L.map Prod.fst)) := hps
      have HS1 : Hid (PF w0 w1 cv ev bv (rowsR (L.map Prod.fst)) (l.map Prod.fst) (l.map Prod.snd) L) := hS
      have HW1 : Hid (w.heap.size = w0.heap.size) := HW0.out.symm
      have HGP : Hid (∀ k (h : k < L.length), L[k].1.parts.length = l.length) := fun k h => by
        have := (hps.ok.bands L[k].1 (List.mem_map.2 ⟨_, List.getElem_mem h, rfl⟩)).len
        rw [List.length_map] at this
        exact this
      have HL2 : Hid (L.length ≤ 2000) := by
        show _ ≤ _
        have h1 := rowsR_ge (L.map Prod.fst) (fun b hb => (hps.ok.bands b hb).lo)
        have h2 := hps.ok.rows
        rw [List.length_map] at h1
        omega
      have hl8 : l.length ≤ 8 := by have := hps.ok.pl.1.2.1; simpa using this
      obtain ⟨co, cc, hcv⟩ := own_form hS.cols
      rw [List.length_map] at hcv
      subst hcv
      obtain ⟨bo, bc, hbv⟩ := own_form hS.own
      subst hbv
      clear hps hb1 hS
      go_upto_region 10 with fail
      go_wp2_with fail
      go_loopw [8, 9] (fun at_ i wr => ∃ (k : Nat) (M : List (RBd × Value)), i = .int .i64 (k : Int) ∧ k ≤ L.length ∧ at_ = .int .i64 ((4 + tot ((L.map Prod.fst).take k) : Nat) : Int) ∧ szL M = szL L ∧ PF w0 wr (.slice co l.length cc) ev (.slice bo L.length bc) (rowsR (L.map Prod.fst)) (l.map Prod.fst) (l.map Prod.snd) M ∧ 4 + tot ((L.map Prod.fst).take k) ≤ f) (fun _ i _ => L.length - (intOf i).toNat)
      case atStart => exact ⟨0, L, rfl, Nat.zero_le _, by simp [tot], rfl, HS1.out, by simpa [tot] using hf4⟩
      case round =>
        clear HS1
        obtain ⟨k, M, rfl, hk, rfl, hM, hS, hat⟩ := hrel
        have HM : Hid (szL M = szL L) := hM
        have HML : Hid (M.length = L.length) := szL_len hM
        have HS : Hid (PF w0 wr (.slice co l.length cc) ev (.slice bo L.length bc) (rowsR (L.map Prod.fst)) (l.map Prod.fst) (l.map Prod.snd) M) := hS
        obtain ⟨⟨c0, c1, c2, c3⟩, -⟩ := hS.cells
        clear hM hS
        have hl2 := HL2.out
        by_cases hlt : k < L.length
        · obtain ⟨T, hT⟩ : ∃ T, 4 + tot ((L.map Prod.fst).take k) = T := ⟨_, rfl⟩
          have HT : Hid (4 + tot ((L.map Prod.fst).take k) = T) := hT
          rw [hT] at hat
          rw [hT]
          have HLK : Hid (L[k].1.parts.length = l.length) := HGP.out k hlt
          clear hT
          go_upto_region 14 with fail
          clear c0 c1 c2 c3
          go_wp2_with fail
          go_loopw [8, 10] (fun at_ i wi => ∃ (j : Nat) (N : List (RBd × Value)), i = .int .i64 (j : Int) ∧ j ≤ l.length ∧ at_ = .int .i64 ((T + szs (L[k].1.parts.take j) : Nat) : Int) ∧ szL N = szL L ∧ PF w0 wi (.slice co l.length cc) ev (.slice bo L.length bc) (rowsR (L.map Prod.fst)) (l.map Prod.fst) (l.map Prod.snd) N ∧ T + szs (L[k].1.parts.take j) ≤ f) (fun _ i _ => l.length - (intOf i).toNat)
          case atStart => exact ⟨0, M, rfl, Nat.zero_le _, by simp [szs], HM.out, HS.out, by simpa [szs] using hat⟩
          case round =>
            clear HS HM HML
            obtain ⟨j, N, rfl, hj, rfl, hN, hS, hat2⟩ := hrel
            have HN : Hid (szL N = szL L) := hN
            have HNL : Hid (N.length = L.length) := szL_len hN
            have HS : Hid (PF w0 wr (.slice co l.length cc) ev (.slice bo L.length bc) (rowsR (L.map Prod.fst)) (l.map Prod.fst) (l.map Prod.snd) N) := hS
            obtain ⟨⟨c0, c1, c2, c3⟩, cf⟩ := hS.cells
            clear hN
            by_cases hlj : j < l.length
            · have hkN : k < N.length := by rw [HNL.out]; exact hlt
              have HNP : Hid (N[k].1.parts.length = l.length) := by
                show _ = _
                have := congrArg List.length (szL_parts HN.out hkN hlt)
                rw [List.length_map, List.length_map, HLK.out] at this
                exact this
              have hjN : j < N[k].1.parts.length := by rw [HNP.out]; exact hlj
              have hjL : j < L[k].1.parts.length := by rw [HLK.out]; exact hlj
              have HPZ : Hid (N[k].1.parts[j].size = L[k].1.parts[j].size) := szL_at HN.out hkN hlt hjN hjL
              have HGE : Hid (T + szs (L[k].1.parts.take j) + L[k].1.parts[j].size ≤ 4 + tot (L.map Prod.fst)) := by
                show _ ≤ _
                have := tot_ge (rs := L.map Prod.fst) (k := k) (i := j) (by rw [List.length_map]; exact hlt) (by simpa using hjL)
                simp only [List.getElem_map] at this
                have h2 := HT.out
                omega
              have HNX : Hid (T + szs (L[k].1.parts.take (j + 1)) = T + szs (L[k].1.parts.take j) + L[k].1.parts[j].size) := by
                show _ = _
                rw [szs_take hjL]
                omega
              obtain ⟨bb, bc', pb, pc, hbv, hpv, q1, q2, q3, q4, q5⟩ := hS.part hkN hjN
              rw [HNL.out] at hbv
              cases hbv
              rw [hpv, HNP.out] at q1
              have r0 := q2 0 _ rfl
              have r1 := q2 1 _ rfl
              have r2 := q2 2 _ rfl
              have r3 := q2 3 _ rfl
              have r4 := q2 4 _ rfl
              have r5 := q2 5 _ rfl
              have r6 := q2 6 _ rfl
              have r7 := q2 7 _ rfl
              have r8 := q2 8 _ rfl
              have HSZ : Hid (N[k].1.parts[j].size ≤ 65536 ∨ True) := .inr trivial
              have HQ2 : Hid (∀ j' u, (rcell N[k].1.parts[j])[j']? = some u → wr.cell? ⟨pb, j * 9 + j', none⟩ = some u) := q2
              have HPV : Hid (N[k].2 = .slice (some ⟨pb, 0, none⟩) N[k].1.parts.length pc) := hpv
              generalize hpp : N[k].1.parts[j] = pp at *
              have HPP : Hid (N[k].1.parts[j] = pp) := hpp
              generalize hat0 : T + szs (L[k].1.parts.take j) = A at *
              have HAT : Hid (T + szs (L[k].1.parts.take j) = A) := hat0
              simp only [Nat.add_zero] at r0
              clear hS q2 hpv hpp hat0 cf
              go_upto_region 18 with fail
              obtain ⟨r, hr⟩ : ∃ r, f = A + r := ⟨f - A, by omega⟩
              have HR : Hid (f = A + r) := hr
              have e4 : (f : Int) - (A : Int) = (r : Int) := by omega
              clear hr
              by_cases hbig : r < pp.size
              · have hd : decide (r < pp.size) = true := by simpa using hbig
                have HC : Hid (CRes s [] 0 3) := file_no HCT.out HPS.out (by
                  have h1 := HGE.out
                  have h2 := HPZ.out
                  have h3 := HCS.out
                  have h4 := HR.out
                  omega)
                have HBE : Hid (Below w.heap.size w wr) := HB0.out.trans (HS.out.bel.mono (by rw [HW0.out]; exact Nat.le_refl _))
                go_wp2
                go_ret2
                exact ⟨HBE.out.alloc HBE.out.size _, .inr ⟨_, rfl, HC.out⟩⟩
              · have hd : decide (r < pp.size) = false := by simpa using hbig
                obtain ⟨Q, hQ⟩ : ∃ Q, Q = A + pp.size := ⟨_, rfl⟩
                have hQi : (A : Int) + (pp.size : Int) = (Q : Int) := by omega
                have HQ : Hid (Q = A + pp.size) := hQ
                have HQF : Hid (Q ≤ f) := by show _ ≤ _; have := HR.out; omega
                have b1 : (A : Int) ≤ (Q : Int) := by omega
                have b2 : (Q : Int) ≤ (s.size : Int) := by have h1 := HQF.out; have h2 := HFM.out; have h3 := HM8.out; omega
                have b3 : Q ≤ 65536 := by have h1 := HQF.out; have h2 := HFM.out; have h3 := HM8.out; omega
                clear hQ hbig
                go_upto_region 21 with fail
                obtain ⟨tx, htx⟩ : ∃ tx, s.extract A Q = tx := ⟨_, rfl⟩
                rw [htx]
                have hal : Below wr.heap.size wr (wr.alloc (.cells (rcell ⟨pp.size, pp.bnd, tx⟩).toArray 101)) := (Below.refl _ _).alloc (Nat.le_refl _) _
                have hrg : (wr.alloc (.cells (rcell ⟨pp.size, pp.bnd, tx⟩).toArray 101)).rangeAt wr.heap.size 0 (rcell ⟨pp.size, pp.bnd, tx⟩) := row_range (alloc_at wr _)
                have HS2 : Hid (PF w0 (wr.alloc (.cells (rcell ⟨pp.size, pp.bnd, tx⟩).toArray 101)) (.slice co l.length cc) ev (.slice (some ⟨bb, 0, none⟩) L.length bc) (rowsR (L.map Prod.fst)) (l.map Prod.fst) (l.map Prod.snd) N) := HS.out.below hal
                have d2 := (hal.cell (p := ⟨w0.heap.size + 1, 2, none⟩) (lt_of_block HS.out.file)).trans c2
                have d3 := (hal.cell (p := ⟨bb, k * 2 + 1, none⟩) (HS.out.own.lt bb rfl).2).trans q1
                have HTH : Hid ((wr.alloc (.cells (rcell ⟨pp.size, pp.bnd, tx⟩).toArray 101)).drew.there pb (j * 9) 9) := (HS2.out.below (Below.refl _ _).drew).there hkN hjN HPV.out
                have HNE : Hid (wr.heap.size ≠ pb) := by show _ ≠ _; omega
                have hx : wr.alloc (.cells #[.int .i64 (pp.size : Int), .bool pp.bnd.there, .bool pp.bnd.least.null, .int .i64 pp.bnd.least.n, .string pp.bnd.least.s, .bool pp.bnd.most.null, .int .i64 pp.bnd.most.n, .string pp.bnd.most.s, .string tx] 101) = wr.alloc (.cells (rcell ⟨pp.size, pp.bnd, tx⟩).toArray 101) := rfl
                rw [hx]
                clear hx
                generalize wr.alloc (.cells (rcell ⟨pp.size, pp.bnd, tx⟩).toArray 101) = W2 at *
                generalize wr.heap.size = gb at *
                clear hal c0 c1 c2 c3 r0 r1 r2 r3 r4 r5 r6 r7 r8 q1 q3 HS HQ2
                refine Un.begin_ (fun W => W.cell? ⟨w0.heap.size + 1, 2, none⟩ = some (.slice (some ⟨bb, 0, none⟩) L.length bc) ∧ W.cell? ⟨bb, k * 2 + 1, none⟩ = some (.slice (some ⟨pb, 0, none⟩) l.length pc) ∧ W.rangeAt gb 0 (rcell ⟨pp.size, pp.bnd, tx⟩)) 11 (by kernel_rfl) ?_
                have hHeld : (fun W => W.cell? ⟨w0.heap.size + 1, 2, none⟩ = some (.slice (some ⟨bb, 0, none⟩) L.length bc) ∧ W.cell? ⟨bb, k * 2 + 1, none⟩ = some (.slice (some ⟨pb, 0, none⟩) l.length pc) ∧ W.rangeAt gb 0 (rcell ⟨pp.size, pp.bnd, tx⟩)) W2.drew := ⟨d2, d3, hrg⟩
                refine Un.pick (i := 0) (v := ?_) rfl (by kernel_rfl) (by kernel_rfl) (by kernel_rfl) (by kernel_rfl) (fun _ _ _ h => h) (Or.inl ⟨by rfl, ?_⟩) (by assumption) ?_
                rotate_left
                · intro w _; go_simp
                  try with_reducible rfl
                try simp only [Act.put, List.getElem_toArray, List.getElem_cons_zero, List.getElem_cons_succ, List.setIfInBounds_toArray, List.set_cons_zero, List.set_cons_succ]
                refine Un.pick (i := 1) (v := ?_) rfl (by kernel_rfl) (by kernel_rfl) (by kernel_rfl) (by kernel_rfl) (fun _ _ _ h => h) (Or.inl ⟨by rfl, ?_⟩) (by assumption) ?_
                rotate_left
                · intro w _; go_simp
                  try with_reducible rfl
                try simp only [Act.put, List.getElem_toArray, List.getElem_cons_zero, List.getElem_cons_succ, List.setIfInBounds_toArray, List.set_cons_zero, List.set_cons_succ]
                refine Un.pick (i := 2) (v := ?_) rfl (by kernel_rfl) (by kernel_rfl) (by kernel_rfl) (by kernel_rfl) (fun _ _ _ h => h) (Or.inl ⟨by rfl, ?_⟩) (by assumption) ?_
                rotate_left
                · intro w _; go_simp
                  try with_reducible rfl
                try simp only [Act.put, List.getElem_toArray, List.getElem_cons_zero, List.getElem_cons_succ, List.setIfInBounds_toArray, List.set_cons_zero, List.set_cons_succ]
                refine Un.take (i := 3) (v := ?_) rfl (by kernel_rfl) (by kernel_rfl) (by kernel_rfl) (by kernel_rfl) (by kernel_rfl) (by kernel_rfl) (fun _ _ _ h => h) (Or.inl ⟨by rfl, ?_⟩) (by assumption) ?_
                rotate_left
                · intro w hSw; (try dsimp only at hSw); go_simp
                  try with_reducible rfl
                try simp only [Act.put, List.getElem_toArray, List.getElem_cons_zero, List.getElem_cons_succ, List.setIfInBounds_toArray, List.set_cons_zero, List.set_cons_succ]
                refine Un.pick (i := 4) (v := ?_) rfl (by kernel_rfl) (by kernel_rfl) (by kernel_rfl) (by kernel_rfl) (fun _ _ _ h => h) (Or.inl ⟨by rfl, ?_⟩) (by assumption) ?_
                rotate_left
                · intro w _; go_simp
                  try with_reducible rfl
                try simp only [Act.put, List.getElem_toArray, List.getElem_cons_zero, List.getElem_cons_succ, List.setIfInBounds_toArray, List.set_cons_zero, List.set_cons_succ]
                refine Un.pick (i := 5) (v := ?_) rfl (by kernel_rfl) (by kernel_rfl) (by kernel_rfl) (by kernel_rfl) (fun _ _ _ h => h) (Or.inl ⟨by rfl, ?_⟩) (by assumption) ?_
                rotate_left
                · intro w _; go_simp
                  try with_reducible rfl
                try simp only [Act.put, List.getElem_toArray, List.getElem_cons_zero, List.getElem_cons_succ, List.setIfInBounds_toArray, List.set_cons_zero, List.set_cons_succ]
                refine Un.pick (i := 6) (v := ?_) rfl (by kernel_rfl) (by kernel_rfl) (by kernel_rfl) (by kernel_rfl) (fun _ _ _ h => h) (Or.inl ⟨by rfl, ?_⟩) (by assumption) ?_
                rotate_left
                · intro w _; go_simp
                  try with_reducible rfl
                try simp only [Act.put, List.getElem_toArray, List.getElem_cons_zero, List.getElem_cons_succ, List.setIfInBounds_toArray, List.set_cons_zero, List.set_cons_succ]
                refine Un.take (i := 7) (v := ?_) rfl (by kernel_rfl) (by kernel_rfl) (by kernel_rfl) (by kernel_rfl) (by kernel_rfl) (by kernel_rfl) (fun _ _ _ h => h) (Or.inl ⟨by rfl, ?_⟩) (by assumption) ?_
                rotate_left
                · intro w hSw; (try dsimp only at hSw); go_simp
                  try with_reducible rfl
                try simp only [Act.put, List.getElem_toArray, List.getElem_cons_zero, List.getElem_cons_succ, List.setIfInBounds_toArray, List.set_cons_zero, List.set_cons_succ]
                refine Un.pick (i := 8) (v := ?_) rfl (by kernel_rfl) (by kernel_rfl) (by kernel_rfl) (by kernel_rfl) (fun _ _ _ h => h) (Or.inl ⟨by rfl, ?_⟩) (by assumption) ?_
                rotate_left
                · intro w _; go_simp
                  try with_reducible rfl
                try simp only [Act.put, List.getElem_toArray, List.getElem_cons_zero, List.getElem_cons_succ, List.setIfInBounds_toArray, List.set_cons_zero, List.set_cons_succ]
                refine Un.take (i := 9) (v := .agg (rcell ⟨pp.size, pp.bnd, tx⟩).toArray) rfl (by kernel_rfl) (by kernel_rfl) (by kernel_rfl) (by kernel_rfl) (by kernel_rfl) (by kernel_rfl) (fun _ _ _ h => h) ?y9 hHeld ?_
                case y9 =>
                  refine yieldsIf_load_mid ?_ 101 (.tmp 11) ?_ gb 0 ?_ (rcell ⟨pp.size, pp.bnd, tx⟩) _ (fun W h => h.2.2) Try.underlying101 rfl ?_
                  · rfl
                  · rfl
                  · kernel_rfl
                  · kernel_rfl
                try simp only [Act.put, List.getElem_toArray, List.getElem_cons_zero, List.getElem_cons_succ, List.setIfInBounds_toArray, List.set_cons_zero, List.set_cons_succ]
                refine Un.pick (i := 10) (v := ?_) rfl (by kernel_rfl) (by kernel_rfl) (by kernel_rfl) (by kernel_rfl) (fun _ _ _ h => h) (Or.inl ⟨by rfl, ?_⟩) (by assumption) ?_
                rotate_left
                · intro w _; go_simp
                  try with_reducible rfl
                try simp only [Act.put, List.getElem_toArray, List.getElem_cons_zero, List.getElem_cons_succ, List.setIfInBounds_toArray, List.set_cons_zero, List.set_cons_succ]
                refine Un.one (i := 11) (by kernel_rfl) rfl (fun K hK => ?_)
                rw [if_pos (by rfl)]
                refine wp_store_mid 101 (.tmp 132) (.tmp 131) rfl pb (j * 9) (rcell ⟨pp.size, pp.bnd, tx⟩).toArray ?hx ?hy HTH.out (by kernel_rfl) (rcell_one _) ?_
                case hx => kernel_rfl
                case hy => kernel_rfl
                refine hK.out _ _ (fun h => absurd h (by decide)) ?_
                clear hK K
                try simp only [Act.put, List.getElem_toArray, List.getElem_cons_zero, List.getElem_cons_succ, List.setIfInBounds_toArray, List.set_cons_zero, List.set_cons_succ]
                refine Un.done (by kernel_rfl) ?_ _
                try simp only [Act.put, List.getElem_toArray, List.getElem_cons_zero, List.getElem_cons_succ, List.setIfInBounds_toArray, List.set_cons_zero, List.set_cons_succ]
                have hP := (HS2.out.below (Below.refl _ _).drew).text hkN hjN HPV.out tx
                rw [HPP.out] at hP
                have HS3 : Hid (PF w0 (W2.drew.setCells pb (j * 9) (rcell ⟨pp.size, pp.bnd, tx⟩)) (.slice co l.length cc) ev (.slice (some ⟨bb, 0, none⟩) L.length bc) (rowsR (L.map Prod.fst)) (l.map Prod.fst) (l.map Prod.snd) (withText N k j tx)) := hP
                have g0 : (W2.drew.setCells pb (j * 9) (rcell ⟨pp.size, pp.bnd, tx⟩)).cell? ⟨gb, 0, none⟩ = some (.int .i64 (pp.size : Int)) := by
                  rw [World.cell?_setCells_out pb _ _ _ _ (fun h => absurd h HNE.out)]
                  have := hrg 0 _ rfl
                  exact this
                have HSZ : Hid (szL (withText N k j tx) = szL L) := (szL_text hkN hjN).trans HN.out
                have HEND : Hid (T + szs (L[k].1.parts.take (j + 1)) = Q) := by show _ = _; rw [HNX.out, ← HPZ.out, HQ.out]
                try simp only [List.toList_toArray]
                generalize W2.drew.setCells pb (j * 9) (rcell ⟨pp.size, pp.bnd, tx⟩) = W3 at *
                clear hP HS2 hHeld d2 d3 hrg HTH HPV
                go_wp2
                go_roundw
                case rel => exact ⟨j + 1, withText N k j tx, by go_num, by omega, by rw [HEND.out], HSZ.out, HS3.out, by rw [HEND.out]; exact HQF.out⟩
                case measure => simp [intOf]; omega
            · have hjl : j = l.length := by omega
              have HNE2 : Hid (T + szs (L[k].1.parts.take j) = 4 + tot ((L.map Prod.fst).take (k + 1))) := by
                show _ = _
                rw [hjl, ← HLK.out, List.take_length, tot_take (by rw [List.length_map]; exact hlt), List.getElem_map]
                have := HT.out
                omega
              have HA2 : Hid (T + szs (L[k].1.parts.take j) ≤ f) := hat2
              obtain ⟨A, hA⟩ : ∃ A, T + szs (L[k].1.parts.take j) = A := ⟨_, rfl⟩
              have HAA : Hid (T + szs (L[k].1.parts.take j) = A) := hA
              rw [hA]
              clear hS cf hA hat2
              go_wp2
              go_roundw
              case rel => exact ⟨k + 1, N, by go_num, by omega, by rw [← HNE2.out, HAA.out], HN.out, HS.out, by rw [← HNE2.out]; exact HA2.out⟩
              case measure => simp [intOf]; omega
        · have hkl : k = L.length := by omega
          have HTT : Hid (4 + tot ((L.map Prod.fst).take k) = 4 + tot (L.map Prod.fst)) := by
            show _ = _
            rw [List.take_of_length_le (by rw [List.length_map]; omega)]
          have HBE : Hid (Below w.heap.size w wr) := HB0.out.trans (HS.out.bel.mono (by rw [HW0.out]; exact Nat.le_refl _))
          obtain ⟨T, hT⟩ : ∃ T, 4 + tot ((L.map Prod.fst).take k) = T := ⟨_, rfl⟩
          have HT2 : Hid (4 + tot ((L.map Prod.fst).take k) = T) := hT
          rw [hT]
          have HCO : Hid (wr.ownsRow w.heap.size 104 2 (.slice co l.length cc) (l.map Prod.fst).length (ccells (l.map Prod.fst))) := ownsRow_base HS.out.cols (by have := HW0.out; omega)
          have HFI : Hid _ := HS.out.file
          by_cases htf : T = f
          · have HC : Hid (CRes s (l.map Prod.fst) (rowsR (L.map Prod.fst)) 0) := file_yes HCT.out HPS.out (by
              have h1 := HTT.out
              have h3 := HT2.out
              have h2 := HCS.out
              omega)
            subst htf
            clear hT
            go_wp2
            go_ret2
            exact ⟨HBE.out, .inl ⟨_, _, _, _, _, _, rfl, HC.out, HFI.out, HCO.out⟩⟩
          · have HC : Hid (CRes s [] 0 3) := file_no HCT.out HPS.out (by
              have h1 := HTT.out
              have h3 := HT2.out
              have h2 := HCS.out
              omega)
            have hne : ((T : Int) == (f : Int)) = false := by simp; omega
            have hne2 : decide (T = f) = false := by simpa using htf
            clear hT
            go_wp2
            go_ret2
            exact ⟨HBE.out, .inr ⟨_, rfl, HC.out⟩⟩
end Go.Proofs.Ytjidbonhhpkljaa.Ec

/- The document's Columns. -/
set_option linter.unusedVariables false
set_option linter.unusedSimpArgs false
namespace Go.Proofs.Ytjidbonhhpkljaa.Ec
open Go.RowKit Go.Proofs.Ytjidbonhhpkljaa.Pk Go.Proofs.Ytjidbonhhpkljaa.Pm
set_option maxRecDepth 100000 in
set_option maxHeartbeats 4000000 in
theorem rColumns_any (s : ByteArray) (w : World) (hm : s.size ≤ maxLen) :
    Calls Try.prog 29 #[.string s] w fun e w' => Below w.heap.size w w' ∧ ∃ (cs : List Col) (n m : Nat) (cv : Value), e = .returned (.tuple #[cv, .int .i64 (n : Int), .int .i64 (m : Int)]) ∧ CRes s cs n m ∧ w'.ownsRow w.heap.size 104 2 cv cs.length (ccells cs) := by
  have HR : Hid (Calls Try.prog 63 #[.string s] w (RRead w s)) := rRead_any s w hm
  clear hm
  go_enter Try.func29, Try.ntmps29
  go_wp2_with fail
  refine HR.out.mono ?_
  rintro e w1 ⟨hb, ⟨cs, n, fb, cv, ev, bv, rfl, hc, hf, ho⟩ | ⟨v, rfl, hc⟩⟩
  · have c0 : w1.cell? ⟨fb, 0, none⟩ = some cv := by simp [World.cell?, hf]
    have c3 : w1.cell? ⟨fb, 3, none⟩ = some (.int .i64 (n : Int)) := by simp [World.cell?, hf]
    have HC : Hid (CRes s cs n 0) := hc
    have HB : Hid (Below w.heap.size w w1) := hb
    have HO : Hid (w1.ownsRow w.heap.size 104 2 cv cs.length (ccells cs)) := ho
    obtain ⟨co, cc, hcv⟩ := own_form ho
    subst hcv
    clear hb hc hf ho HR
    go_wp2_with fail
    go_quiet (fail)
    go_wp2
    simp [bodyPost, results, Try.results29, go_sem]
    exact ⟨below_drewN HB.out _, cs, n, 0, _, ⟨rfl, rfl, rfl⟩, HC.out, ownsRow_drewN HO.out _⟩
  · have HC : Hid (CRes s [] 0 3) := hc
    have HB : Hid (Below w.heap.size w w1) := hb
    clear hb hc HR
    go_wp2
    simp [bodyPost, results, Try.results29, go_sem]
    exact ⟨HB.out, [], 0, 3, _, ⟨rfl, rfl, rfl⟩, HC.out, World.ownsRow_nil _ _ _ _⟩
end Go.Proofs.Ytjidbonhhpkljaa.Ec

/- The statement Reads: Columns on both sides, and what came out is the caller's: true. -/
set_option linter.unusedVariables false
namespace Go.Proofs.Ytjidbonhhpkljaa.Ec
open Go.RowKit Go.Proofs.Ytjidbonhhpkljaa.Pk Go.Proofs.Ytjidbonhhpkljaa.Pm
theorem cowns_keep {v u : Value} {w w' : World} {base n : Nat} {xs : List Value} (h : w.ownsRow base 104 2 u n xs) (hk : KeepCols v w w') (hne : ∀ g, u.ownBlock = some g → v.ownBlock ≠ some g) : w'.ownsRow base 104 2 u n xs := by
  refine ⟨h.1, ?_⟩
  rcases h.2 with h1 | ⟨g, cap, cur, h1, h2, h3, h4⟩
  · exact .inl h1
  · exact .inr ⟨g, cap, cur, h1, h2, hk g cur h3 (hne g (by rw [h1]; rfl)), h4⟩

/-- Both sides answer alike. -/
theorem cres_le {s : ByteArray} {cs : List Col} {n e : Nat} (h : CRes s cs n e) : cs.length ≤ 8 := by
  rcases h with ⟨l, bs, h, rfl, -⟩ | ⟨-, rfl, -⟩
  · have := h.1.pl.1.2.1
    simpa using this
  · simp
theorem rd_both (s : ByteArray) (w0 : World) (hm : s.size ≤ maxLen) : ∃ (f n : Int) (l : List Col), l.length ≤ 100 ∧
    (∀ w, Calls Try.prog 29 #[.string s] w fun x w' => ∃ v, x = .returned (.tuple #[v, .int .i64 n, .int .i64 f]) ∧ w'.ownsRow w.heap.size 104 2 v l.length (ccells l) ∧ Below w.heap.size w w') ∧
    (∀ w, Calls Try.prog 30 #[.string s] w fun x w' => ∃ v, x = .returned (.tuple #[v, .int .i64 n, .int .i64 f]) ∧ w'.ownsRow w.heap.size 104 2 v l.length (ccells l) ∧ (f ≠ 0 → v = .slice none 0 0) ∧ Below w.heap.size w w') := by
  obtain ⟨x0, w0', fr, ⟨_, cs, n, m, cv, -, hc, -⟩, _⟩ := sColumns_any s w0 hm []
  refine ⟨(m : Int), (n : Int), cs, by have := cres_le hc; omega, fun w => (rColumns_any s w hm).mono ?_, fun w => (sColumns_any s w hm).mono ?_⟩
  · rintro x w' ⟨hb, cs', n', m', cv', rfl, hc', ho⟩
    obtain ⟨rfl, rfl, rfl⟩ := hc.uni hc'
    exact ⟨cv', rfl, ho, hb⟩
  · rintro x w' ⟨hb, cs', n', m', cv', rfl, hc', ho, hz⟩
    obtain ⟨rfl, rfl, rfl⟩ := hc.uni hc'
    exact ⟨cv', rfl, ho, fun h => hz (by omega), hb⟩

set_option maxRecDepth 100000 in
set_option maxHeartbeats 4000000 in
theorem reads_any (s : ByteArray) (w : World) (hm : s.size ≤ maxLen) :
    Calls Try.prog 9 #[.string s] w fun e w' => e = .returned (.bool true) ∧ Below w.heap.size w w' := by
  obtain ⟨f, n, l, hlen, H1, H2⟩ := rd_both s w hm
  have HH1 : Hid (∀ w, Calls Try.prog 29 #[.string s] w fun x w' => ∃ v, x = .returned (.tuple #[v, .int .i64 n, .int .i64 f]) ∧ w'.ownsRow w.heap.size 104 2 v l.length (ccells l) ∧ Below w.heap.size w w') := H1
  have HH2 : Hid (∀ w, Calls Try.prog 30 #[.string s] w fun x w' => ∃ v, x = .returned (.tuple #[v, .int .i64 n, .int .i64 f]) ∧ w'.ownsRow w.heap.size 104 2 v l.length (ccells l) ∧ (f ≠ 0 → v = .slice none 0 0) ∧ Below w.heap.size w w') := H2
  clear H1 H2
  go_enter Try.func9, Try.ntmps9
  go_wp2_with fail
  refine (HH1.out _).mono ?_
  rintro e w1 ⟨v0, rfl, o0, b1⟩
  go_wp2_with fail
  refine (HH2.out _).mono ?_
  rintro e w2 ⟨v1, rfl, o1, n1, b2⟩
  have N1 : Hid (f ≠ 0 → v1 = .slice none 0 0) := n1
  clear n1
  go_wp2_with fail
  refine (HH2.out _).mono ?_
  rintro e w3 ⟨v2, rfl, o2, n2, b3⟩
  clear n2 HH1 HH2
  have p0 := ownsRow_below (ownsRow_below o0 b2) b3
  have p1 := ownsRow_below o1 b3
  have s1 := b1.size
  have s2 := b2.size
  have s3 := b3.size
  have bb : Below w.heap.size w w3 := (b1.trans (b2.mono s1)).trans (b3.mono (by omega))
  obtain ⟨a0, g0, y0, k0, rfl, -, hr0⟩ := CSl.of_owns p0
  obtain ⟨a1, g1, y1, k1, rfl, -, hr1⟩ := CSl.of_owns p1
  obtain ⟨a2, g2, y2, k2, rfl, -, hr2⟩ := CSl.of_owns o2
  have ml : l.length ≤ maxLen := by unfold maxLen; omega
  have HS1 : Hid (∀ w, (∃ n, w = w3.drewN n) → Calls Try.prog 31 #[.slice a1 l.length k1, .slice a0 l.length k0] w fun e w' => e = .returned (.bool true) ∧ ∃ n, w' = w.drewN n) := by
    rintro w ⟨n, rfl⟩
    refine (sameColumns_any l l a1 a0 g1 y1 k1 g0 y0 k0 (w3.drewN n) ml ml (hr1.below (below_drewN (Below.refl _ _) n)) (hr0.below (below_drewN (Below.refl _ _) n))).mono ?_
    rintro e w' ⟨b, rfl, hb, hw⟩
    exact ⟨by rw [hb.2 rfl], hw⟩
  have HS2 : Hid (∀ w, (∃ n, w = w3.drewN n) → Calls Try.prog 31 #[.slice a2 l.length k2, .slice a0 l.length k0] w fun e w' => e = .returned (.bool true) ∧ ∃ n, w' = w.drewN n) := by
    rintro w ⟨n, rfl⟩
    refine (sameColumns_any l l a2 a0 g2 y2 k2 g0 y0 k0 (w3.drewN n) ml ml (hr2.below (below_drewN (Below.refl _ _) n)) (hr0.below (below_drewN (Below.refl _ _) n))).mono ?_
    rintro e w' ⟨b, rfl, hb, hw⟩
    exact ⟨by rw [hb.2 rfl], hw⟩
  clear hr0 hr1 hr2 o0
  go_wp2_with fail
  refine (HS1.out _ ⟨0, rfl⟩).mono ?_
  rintro e w4 ⟨rfl, n4, rfl⟩
  go_wp2_with fail
  refine (HS2.out _ ⟨n4, rfl⟩).mono ?_
  rintro e w5 ⟨rfl, n5, rfl⟩
  clear HS1 HS2
  have q1 := ownsRow_drewN (ownsRow_drewN (ownsRow_base (B := w.heap.size) p1 s1) n4) n5
  have q2 := ownsRow_drewN (ownsRow_drewN (ownsRow_base (B := w.heap.size) o2 (by omega)) n4) n5
  have q3 := below_drewN (below_drewN bb n4) n5
  have L1 : Hid (∀ g, (Value.slice a1 l.length k1).ownBlock = some g → g < w2.heap.size) := fun g hg => (o1.lt g hg).2
  have L2 : Hid (∀ g, (Value.slice a2 l.length k2).ownBlock = some g → w2.heap.size ≤ g ∧ g < w3.heap.size) := fun g hg => o2.lt g hg
  have L3 : Hid (((w3.drewN n4).drewN n5).heap.size = w3.heap.size) := rfl
  generalize (w3.drewN n4).drewN n5 = W at *
  have hA : Hid (CkInv (W.alloc (.cells #[.slice none 0 0, .slice none 0 0, .slice none 0 0, .slice none 0 0] 70)) w.heap.size W.heap.size (.slice none 0 0) []) :=
    ⟨heap_alloc_new W _, World.ownsRow_nil _ _ _ _, by simp⟩
  have r1 := q1.alloc (.cells #[.slice none 0 0, .slice none 0 0, .slice none 0 0, .slice none 0 0] 70)
  have r2 := q2.alloc (.cells #[.slice none 0 0, .slice none 0 0, .slice none 0 0, .slice none 0 0] 70)
  have r3 : Below w.heap.size w (W.alloc (.cells #[.slice none 0 0, .slice none 0 0, .slice none 0 0, .slice none 0 0] 70)) := q3.alloc q3.size _
  have r4 : Hid ((W.alloc (.cells #[.slice none 0 0, .slice none 0 0, .slice none 0 0, .slice none 0 0] 70)).heap.size = w3.heap.size + 1) := by show _ = _; rw [← L3.out]; simp
  have hWB : w.heap.size ≤ W.heap.size := q3.size
  clear q1 q2 q3 p0 p1 o1 o2 bb b1 b2 b3
  by_cases hf : f = 0
  · subst hf
    clear N1
    go_wp2_with fail
    generalize W.alloc (.cells #[.slice none 0 0, .slice none 0 0, .slice none 0 0, .slice none 0 0] 70) = WA at *
    refine (ownColumns_any _ w.heap.size _ _ l [] _ hlen (by simp) hA.out r1 hWB (by simp)).mono ?_
    rintro e w6 ⟨rfl, iv6, es6, hl6, hI6, hm6, hblk6, hk6, hb6⟩
    have o6 := cowns_keep r2 hk6 (fun g h2 h1 => by have := L1.out g h1; have := L2.out g h2; omega)
    have hs6 : Hid (∀ e ∈ es6, ∀ g' n' cap', e.1 = .slice (some ⟨g', 0, none⟩) n' cap' → 0 < n' → (Value.slice a2 l.length k2).ownBlock ≠ some g') := by
      intro e he g' n' cap' h1 h0 h2
      have h3 := L2.out g' h2
      have h5 := r4.out
      rcases hblk6 e he g' (by rw [h1]; rfl) with h4 | h4
      · have := L1.out g' h4
        omega
      · omega
    have HL6 : Hid (es6.length = 4) := hl6
    have HI6 : Hid (CkInv w6 w.heap.size W.heap.size iv6 es6) := show CkInv _ _ _ _ _ from hI6
    have HM6 : Hid (∀ e ∈ es6, 0 ≤ e.2 ∧ e.2 ≤ 100) := fun e he => by have := hm6 e he; simp at this; omega
    clear hA r1 r2 hI6 hm6 hblk6 hk6 L1 L2 L3 r4 hl6
    go_wp2_with fail
    refine (ownColumns_any _ w.heap.size _ _ l es6 _ hlen (by have := HL6.out; omega) HI6.out o6 hWB hs6.out).mono ?_
    rintro e w7 ⟨rfl, iv7, es7, hl7, hI7, hm7, hblk7, hk7, hb7⟩
    have HL7 : Hid ((es6 ++ es7).length = 8) := by show _ = _; rw [List.length_append, HL6.out, hl7]
    have HI7 : Hid (CkInv w7 w.heap.size W.heap.size iv7 (es6 ++ es7)) := hI7
    have HM7 : Hid (∀ e ∈ es6 ++ es7, 0 ≤ e.2 ∧ e.2 ≤ 100) := by
      intro e he
      rcases List.mem_append.1 he with h1 | h1
      · exact HM6.out e h1
      · have := hm7 e h1
        have := HL6.out
        omega
    clear hI7 hm7 hblk7 hk7 hl7 o6 HI6
    go_wp2_with fail
    refine (clooks_any _ w.heap.size _ (es6 ++ es7) _ (by rw [HL7.out]; omega) HI7.out HM7.out).mono ?_
    rintro e w8 ⟨rfl, hb8⟩
    have HB8 : Hid _ := hb8
    clear HI7 HM7 HL7
    go_wp2
    go_ret
    exact ⟨rfl, ((r3.trans hb6).trans hb7).trans (HB8.out.mono ((r3.trans hb6).trans hb7).size)⟩
  · have hf1 : (f != 0) = true := by simpa using hf
    have hnil := N1.out hf
    simp only [Value.slice.injEq] at hnil
    obtain ⟨rfl, hl0, rfl⟩ := hnil
    have HL0 : Hid (l.length = 0) := hl0
    clear hl0 N1
    go_wp2_with fail
    generalize W.alloc (.cells #[.slice none 0 0, .slice none 0 0, .slice none 0 0, .slice none 0 0] 70) = WA at *
    refine (ownColumns_any _ w.heap.size _ _ l [] _ hlen (by simp) hA.out r1 hWB (by simp)).mono ?_
    rintro e w6 ⟨rfl, iv6, es6, hl6, hI6, hm6, hblk6, hk6, hb6⟩
    have o6 := cowns_keep r2 hk6 (fun g h2 h1 => by have := L1.out g h1; have := L2.out g h2; omega)
    have hs6 : Hid (∀ e ∈ es6, ∀ g' n' cap', e.1 = .slice (some ⟨g', 0, none⟩) n' cap' → 0 < n' → (Value.slice a2 l.length k2).ownBlock ≠ some g') := by
      intro e he g' n' cap' h1 h0 h2
      have h3 := L2.out g' h2
      have h5 := r4.out
      rcases hblk6 e he g' (by rw [h1]; rfl) with h4 | h4
      · have := L1.out g' h4
        omega
      · omega
    have HL6 : Hid (es6.length = 4) := hl6
    have HI6 : Hid (CkInv w6 w.heap.size W.heap.size iv6 es6) := show CkInv _ _ _ _ _ from hI6
    have HM6 : Hid (∀ e ∈ es6, 0 ≤ e.2 ∧ e.2 ≤ 100) := fun e he => by have := hm6 e he; simp at this; omega
    clear hA r1 r2 hI6 hm6 hblk6 hk6 L1 L2 L3 r4 hl6
    go_wp2_with fail
    refine (ownColumns_any _ w.heap.size _ _ l es6 _ hlen (by have := HL6.out; omega) HI6.out o6 hWB hs6.out).mono ?_
    rintro e w7 ⟨rfl, iv7, es7, hl7, hI7, hm7, hblk7, hk7, hb7⟩
    have HL7 : Hid ((es6 ++ es7).length = 8) := by show _ = _; rw [List.length_append, HL6.out, hl7]
    have HI7 : Hid (CkInv w7 w.heap.size W.heap.size iv7 (es6 ++ es7)) := hI7
    have HM7 : Hid (∀ e ∈ es6 ++ es7, 0 ≤ e.2 ∧ e.2 ≤ 100) := by
      intro e he
      rcases List.mem_append.1 he with h1 | h1
      · exact HM6.out e h1
      · have := hm7 e h1
        have := HL6.out
        omega
    clear hI7 hm7 hblk7 hk7 hl7 o6 HI6
    go_wp2_with fail
    refine (clooks_any _ w.heap.size _ (es6 ++ es7) _ (by rw [HL7.out]; omega) HI7.out HM7.out).mono ?_
    rintro e w8 ⟨rfl, hb8⟩
    have HB8 : Hid _ := hb8
    clear HI7 HM7 HL7
    go_wp2
    go_ret
    exact ⟨rfl, ((r3.trans hb6).trans hb7).trans (HB8.out.mono ((r3.trans hb6).trans hb7).size)⟩
end Go.Proofs.Ytjidbonhhpkljaa.Ec
