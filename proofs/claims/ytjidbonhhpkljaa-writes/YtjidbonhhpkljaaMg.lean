/- What the proof stands on: WrLend, WrSame, WrSameR, WrSpoil. -/
import Derived.Test.YtjidbonhhpkljaaMf
import Derived.Outline

/- A table as a caller hands it in: the contract of lend. -/
set_option linter.unusedVariables false
set_option linter.unusedSimpArgs false
namespace Go.Proofs.Ytjidbonhhpkljaa.Ec
open Go.RowKit Go.Proofs.Ytjidbonhhpkljaa.Pk Go.Proofs.Ytjidbonhhpkljaa.Pm

/-- Where lend stands. -/
structure LdSt (w W : World) (cv rv a0 a1 a2 a3 a4 : Value) : Prop where
  tbl : W.heap[w.heap.size]? = some (.cells #[cv, rv] 52 (0, 0))
  res : W.heap[w.heap.size + 1]? = some (.cells #[.slice none 0 0, .slice none 0 0, .slice none 0 0, .slice none 0 0, .slice none 0 0] 57 (0, 0))
  box : W.heap[w.heap.size + 2]? = some (.cells #[a0, a1, a2, a3, a4] 57 (0, 0))
  bel : Below w.heap.size w W
theorem LdSt.below {w W W1 : World} {cv rv a0 a1 a2 a3 a4 : Value} (h : LdSt w W cv rv a0 a1 a2 a3 a4) (hb : Below W.heap.size W W1) : LdSt w W1 cv rv a0 a1 a2 a3 a4 :=
  ⟨(hb.block _ (lt_of_block h.tbl)).trans h.tbl, (hb.block _ (lt_of_block h.res)).trans h.res, (hb.block _ (lt_of_block h.box)).trans h.box, h.bel.trans (hb.mono h.bel.size)⟩
theorem LdSt.other {w W W1 : World} {cv rv a0 a1 a2 a3 a4 : Value} (h : LdSt w W cv rv a0 a1 a2 a3 a4) {g : Nat} (hg : w.heap.size + 2 < g) (hk : ∀ k, k ≠ g → k < W.heap.size → W1.heap[k]? = W.heap[k]?) (hb : Below w.heap.size w W1) : LdSt w W1 cv rv a0 a1 a2 a3 a4 :=
  ⟨(hk _ (by omega) (lt_of_block h.tbl)).trans h.tbl, (hk _ (by omega) (lt_of_block h.res)).trans h.res, (hk _ (by omega) (lt_of_block h.box)).trans h.box, hb⟩
theorem five_of {w : World} {g : Nat} {a b c d e : Value} {t : TypeId} (h : w.heap[g]? = some (.cells #[a, b, c, d, e] t (0, 0))) : (w.cell? ⟨g, 0, none⟩ = some a ∧ w.cell? ⟨g, 1, none⟩ = some b ∧ w.cell? ⟨g, 2, none⟩ = some c ∧ w.cell? ⟨g, 3, none⟩ = some d ∧ w.cell? ⟨g, 4, none⟩ = some e) ∧ (∀ j, w.frozen? ⟨g, j, none⟩ = false) := by
  exact ⟨⟨by simp [World.cell?, h], by simp [World.cell?, h], by simp [World.cell?, h], by simp [World.cell?, h], by simp [World.cell?, h]⟩, fun j => by simp [World.frozen?, h]⟩

theorem LdSt.grew {w W W1 : World} {cv rv a0 a1 a2 a3 a4 v v' : Value} {base e size n : Nat} {xs : List Value} (h : LdSt w W cv rv a0 a1 a2 a3 a4) (ho : W.ownsRow w.heap.size e size v n xs) (h1 : 52 ≠ e) (h2 : 57 ≠ e) (hg : Grew W W1 v v') : LdSt w W1 cv rv a0 a1 a2 a3 a4 :=
  ⟨(hg.by_.block _ (lt_of_block h.tbl) (own_far ho h.tbl h1)).trans h.tbl, (hg.by_.block _ (lt_of_block h.res) (own_far ho h.res h2)).trans h.res, (hg.by_.block _ (lt_of_block h.box) (own_far ho h.box h2)).trans h.box, h.bel.trans (hg.below (fun g hg => (ho.lt g hg).1) h.bel.size)⟩
theorem LdSt.put {w W : World} {cv rv a0 a1 a2 a3 a4 : Value} (h : LdSt w W cv rv a0 a1 a2 a3 a4) (j : Nat) (v : Value) {b0 b1 b2 b3 b4 : Value} (hb : (#[a0, a1, a2, a3, a4] : Array Value).setIfInBounds j v = #[b0, b1, b2, b3, b4]) : LdSt w (W.setCell ⟨w.heap.size + 2, j, none⟩ v) cv rv b0 b1 b2 b3 b4 := by
  have h5 := heap_setCell_same W (w.heap.size + 2) j _ _ v h.box
  rw [hb] at h5
  refine ⟨?_, ?_, h5, below_set h.bel h.bel.size (by omega) _ _⟩
  · rw [heap_setCell_other _ _ _ _ (by simp)]; exact h.tbl
  · rw [heap_setCell_other _ _ _ _ (by simp)]; exact h.res
def lcell (p : Nat × List Val) : Value := .slice (some ⟨p.1, 0, none⟩) (p.2.length + 8) (p.2.length + 8)
def rcl (p : Nat × List Val) : Value := .slice (some ⟨p.1, 0, none⟩) p.2.length (p.2.length + 8)
/-- The lists and the rows that are being lent. -/
structure Ls (w W : World) (lv rv : Value) (PL : List (Nat × List Val)) (rc : List Value) : Prop where
  lown : W.ownsRow w.heap.size 30 1 lv PL.length (PL.map lcell)
  rown : W.ownsRow w.heap.size 30 1 rv rc.length rc
  each : ∀ p ∈ PL, W.ownsRow w.heap.size 39 3 (lcell p) (p.2.length + 8) (vcells (lentV p.2 8))
  ap : Apart lv rv
theorem Ls.below {w W W1 : World} {lv rv : Value} {PL : List (Nat × List Val)} {rc : List Value} (h : Ls w W lv rv PL rc) (hb : Below W.heap.size W W1) : Ls w W1 lv rv PL rc :=
  ⟨ownsRow_below h.lown hb, ownsRow_below h.rown hb, fun p hp => ownsRow_below (h.each p hp) hb, h.ap⟩
theorem Ls.addL {w W W1 : World} {lv rv lv' : Value} {PL : List (Nat × List Val)} {rc : List Value} (h : Ls w W lv rv PL rc) (hg : Grew W W1 lv lv') {p : Nat × List Val} (ho : W1.ownsRow w.heap.size 30 1 lv' (PL ++ [p]).length ((PL ++ [p]).map lcell)) (hp : W.ownsRow w.heap.size 39 3 (lcell p) (p.2.length + 8) (vcells (lentV p.2 8))) : Ls w W1 lv' rv (PL ++ [p]) rc := by
  refine ⟨ho, kept_grew h.rown hg h.ap.symm, fun q hq => ?_, (h.ap.symm.grew h.rown hg).symm⟩
  rcases List.mem_append.1 hq with hq | hq
  · exact kept_grew (h.each q hq) hg (apart_of (h.each q hq) h.lown (by decide))
  · simp at hq
    subst hq
    exact kept_grew hp hg (apart_of hp h.lown (by decide))
theorem Ls.addR {w W W1 : World} {lv rv rv' : Value} {PL : List (Nat × List Val)} {rc rc' : List Value} (h : Ls w W lv rv PL rc) (hg : Grew W W1 rv rv') (ho : W1.ownsRow w.heap.size 30 1 rv' rc'.length rc') : Ls w W1 lv rv' PL rc' :=
  ⟨kept_grew h.lown hg h.ap, ho, fun q hq => kept_grew (h.each q hq) hg (apart_of (h.each q hq) h.rown (by decide)), h.ap.grew h.lown hg⟩
theorem Ls.put {w W : World} {lv rv : Value} {PL : List (Nat × List Val)} {rc : List Value} (h : Ls w W lv rv PL rc) {g : Nat} {cs : Array Value} {t : TypeId} (hb : W.heap[g]? = some (.cells cs t (0, 0))) (h1 : t ≠ 30) (h2 : t ≠ 39) (j : Nat) (v : Value) : Ls w (W.setCell ⟨g, j, none⟩ v) lv rv PL rc :=
  ⟨h.lown.kept (box_set_grown W g j v) (.inr (own_far h.lown hb h1).symm), h.rown.kept (box_set_grown W g j v) (.inr (own_far h.rown hb h1).symm), fun q hq => (h.each q hq).kept (box_set_grown W g j v) (.inr (own_far (h.each q hq) hb h2).symm), h.ap⟩

def beyS : Val := ⟨false, 0, ⟨#[98, 101, 121, 111, 110, 100]⟩⟩
/-- A table that was lent, all its lists with more behind. -/
def Lent (W : World) (cs : List Col) (rows : List (List Val)) (v : Value) : Prop :=
  ∃ (c0 c1 : Value) (gc : Nat) (ro : Option Addr) (rb roff rcap : Nat) (lo : Option Addr) (lb loff lcap : Nat), v = .agg #[c0, c1, .slice (some ⟨gc, 0, none⟩) (cs.length + 8) (cs.length + 8), .slice ro (rows.length + 8) rcap, .slice lo rows.length lcap] ∧ CSl W c0 cs ∧ RSl W c1 rows ∧
    CRow W (some ⟨gc, 0, none⟩) gc 0 (lentC cs 8) ∧ rows.length + 8 ≤ rcap ∧ RRow W ro rb roff (rows ++ List.replicate 8 [beyS]) ∧ RRow W lo lb loff (rows.map fun r => lentV r 8)

theorem own_same {W W' : World} {base : Nat} {e : TypeId} {size : Nat} {v : Value} {n : Nat} {xs : List Value} {g : Nat} (h : W.ownsRow base e size v n xs) (hk : ∀ k, k ≠ g → W'.heap[k]? = W.heap[k]?) (hne : some g ≠ v.ownBlock) : W'.ownsRow base e size v n xs := by
  rcases h.2 with ⟨rfl, h0⟩ | ⟨g', cap, cur, rfl, h1, h2, h3⟩
  · exact ⟨h.1, .inl ⟨rfl, h0⟩⟩
  · exact ⟨h.1, .inr ⟨g', cap, cur, rfl, h1, (hk g' (by intro e; subst e; simp [Value.ownBlock] at hne)).trans h2, h3⟩⟩
def bcl (g : Nat) : Value := .slice (some ⟨g, 0, none⟩) 1 1
/-- The lists and the rows, and those beyond. -/
structure Lg (w W : World) (lv rv : Value) (PL : List (Nat × List Val)) (GL : List Nat) : Prop where
  ls : Ls w W lv rv PL (PL.map rcl ++ GL.map bcl)
  bey : ∀ g ∈ GL, W.ownsRow w.heap.size 39 3 (bcl g) 1 (vcells [beyS])
theorem Lg.below {w W W1 : World} {lv rv : Value} {PL : List (Nat × List Val)} {GL : List Nat} (h : Lg w W lv rv PL GL) (hb : Below W.heap.size W W1) : Lg w W1 lv rv PL GL :=
  ⟨h.ls.below hb, fun g hg => ownsRow_below (h.bey g hg) hb⟩
theorem Lg.add {w W W1 : World} {lv rv rv' : Value} {PL : List (Nat × List Val)} {GL : List Nat} (h : Lg w W lv rv PL GL) (hg : Grew W W1 rv rv') {b : Nat} (ho : W1.ownsRow w.heap.size 30 1 rv' (PL.map rcl ++ (GL ++ [b]).map bcl).length (PL.map rcl ++ (GL ++ [b]).map bcl)) (hp : W.ownsRow w.heap.size 39 3 (bcl b) 1 (vcells [beyS])) : Lg w W1 lv rv' PL (GL ++ [b]) := by
  refine ⟨h.ls.addR hg ho, fun q hq => ?_⟩
  rcases List.mem_append.1 hq with hq | hq
  · exact kept_grew (h.bey q hq) hg (apart_of (h.bey q hq) h.ls.rown (by decide))
  · simp at hq
    subst hq
    exact kept_grew hp hg (apart_of hp h.ls.rown (by decide))
theorem Lg.same {w W W1 : World} {lv rv : Value} {PL : List (Nat × List Val)} {GL : List Nat} (h : Lg w W lv rv PL GL) {g : Nat} {cs : Array Value} {t : TypeId} (hb : W.heap[g]? = some (.cells cs t (0, 0))) (h1 : t ≠ 30) (h2 : t ≠ 39) (hk : ∀ k, k ≠ g → W1.heap[k]? = W.heap[k]?) : Lg w W1 lv rv PL GL :=
  ⟨⟨own_same h.ls.lown hk (own_far h.ls.lown hb h1), own_same h.ls.rown hk (own_far h.ls.rown hb h1), fun q hq => own_same (h.ls.each q hq) hk (own_far (h.ls.each q hq) hb h2), h.ls.ap⟩, fun q hq => own_same (h.bey q hq) hk (own_far (h.bey q hq) hb h2)⟩
theorem VRow.head {w : World} {ao : Option Addr} {b off : Nat} {l r : List Val} (h : VRow w ao b off (l ++ r)) : VRow w ao b off l := by
  have hl : ∀ j, j < l.length → j < (l ++ r).length := fun j hj => by simp; omega
  refine ⟨fun h0 => h.addr (by have := hl _ h0; omega), fun h0 => h.lt (by have := hl _ h0; omega), fun j hj => ?_, fun j hj => ?_, fun j hj => ?_⟩
  · have := h.c0 j (hl j hj); rwa [List.getElem_append_left hj] at this
  · have := h.c1 j (hl j hj); rwa [List.getElem_append_left hj] at this
  · have := h.c2 j (hl j hj); rwa [List.getElem_append_left hj] at this
theorem RRow.head {w : World} {ao : Option Addr} {b off : Nat} {l r : List (List Val)} (h : RRow w ao b off (l ++ r)) : RRow w ao b off l := by
  have hl : ∀ j, j < l.length → j < (l ++ r).length := fun j hj => by simp; omega
  refine ⟨fun h0 => h.addr (by have := hl _ h0; omega), fun h0 => h.lt (by have := hl _ h0; omega), fun j hj => ?_⟩
  have := h.c j (hl j hj); rwa [List.getElem_append_left hj] at this
theorem CRow.head {w : World} {ao : Option Addr} {b off : Nat} {l r : List Col} (h : CRow w ao b off (l ++ r)) : CRow w ao b off l := by
  have hl : ∀ j, j < l.length → j < (l ++ r).length := fun j hj => by simp; omega
  refine ⟨fun h0 => h.addr (by have := hl _ h0; omega), fun h0 => h.lt (by have := hl _ h0; omega), fun j hj => ?_, fun j hj => ?_⟩
  · have := h.c0 j (hl j hj); rwa [List.getElem_append_left hj] at this
  · have := h.c1 j (hl j hj); rwa [List.getElem_append_left hj] at this
theorem rrow_of_own {W : World} {base n : Nat} {v : Value} {cells : List Value} {L : List (List Val)} (h : W.ownsRow base 30 1 v n cells) (hn : n = L.length) (hl : cells.length = L.length) (hv : ∀ j (h1 : j < cells.length) (h2 : j < L.length), VSl W cells[j] L[j]) :
    ∃ ao b cap, v = .slice ao L.length cap ∧ L.length ≤ cap ∧ RRow W ao b 0 L := by
  subst hn
  rcases h.2 with ⟨rfl, h0⟩ | ⟨g, cap, cur, rfl, h1, h2, h3, h4⟩
  · have hL : L = [] := List.eq_nil_of_length_eq_zero h0
    subst hL
    exact ⟨none, 0, 0, rfl, Nat.le_refl _, ⟨fun h => by simp at h, fun h => by simp at h, fun j hj => by simp at hj⟩⟩
  · refine ⟨_, g, cap, rfl, h3, fun _ => rfl, fun _ => lt_of_block h2, fun j hj => ⟨cells[j]'(by omega), ?_, hv j (by omega) hj⟩⟩
    have := h.cells (g := g) rfl j _ (List.getElem?_eq_getElem (by omega))
    simpa [Addr.add_lit] using this
theorem Lg.lists {w W : World} {lv rv : Value} {PL : List (Nat × List Val)} {GL : List Nat} (h : Lg w W lv rv PL GL) : ∃ ao b cap, lv = .slice ao PL.length cap ∧ PL.length ≤ cap ∧ RRow W ao b 0 (PL.map fun p => lentV p.2 8) := by
  have := rrow_of_own (L := PL.map fun p => lentV p.2 8) h.ls.lown (by simp) (by simp) (fun j h1 h2 => by
    simp only [List.getElem_map]
    have hj : j < PL.length := by simpa using h1
    have hp := h.ls.each PL[j] (List.getElem_mem hj)
    refine VSl.of_owns (base := w.heap.size) ?_
    rw [lentV_length _ _ (Nat.le_refl _)]
    exact hp)
  rwa [List.length_map] at this
theorem Lg.rows {w W : World} {lv rv : Value} {PL : List (Nat × List Val)} {GL : List Nat} (h : Lg w W lv rv PL GL) (h8 : GL.length = 8) : ∃ ao b cap, rv = .slice ao (PL.length + 8) cap ∧ PL.length + 8 ≤ cap ∧ RRow W ao b 0 (PL.map Prod.snd ++ List.replicate 8 [beyS]) := by
  have := rrow_of_own (L := PL.map Prod.snd ++ List.replicate 8 [beyS]) h.ls.rown (by simp [h8]) (by simp [h8]) (fun j h1 h2 => by
    by_cases hj : j < PL.length
    · rw [List.getElem_append_left (by simpa using hj), List.getElem_append_left (by simpa using hj)]
      simp only [List.getElem_map]
      have hp := h.ls.each PL[j] (List.getElem_mem hj)
      obtain ⟨ao, b, off, cap, he, hr⟩ := VSl.of_owns (base := w.heap.size) (l := lentV PL[j].2 8) (by rw [lentV_length _ _ (Nat.le_refl _)]; exact hp)
      simp only [lcell, Value.slice.injEq] at he
      obtain ⟨rfl, -, -⟩ := he
      exact ⟨_, b, off, _, rfl, VRow.head hr⟩
    · rw [List.getElem_append_right (by simpa using hj), List.getElem_append_right (by simpa using hj)]
      simp only [List.getElem_map, List.getElem_replicate]
      exact VSl.of_owns (base := w.heap.size) (l := [beyS]) (h.bey _ (List.getElem_mem _)))
  simpa using this
theorem lent_of {w W : World} {cs : List Col} {rows : List (List Val)} {c0 c1 lv rv : Value} {PL : List (Nat × List Val)} {GL : List Nat} {gc : Nat} (h : Lg w W lv rv PL GL) (h8 : GL.length = 8) (hP : PL.map Prod.snd = rows) (hc0 : c0 = .slice (some ⟨gc, 0, none⟩) cs.length (cs.length + 8))
    (hc1 : (c1 = .slice none 0 0 ∧ rows = []) ∨ ∃ ao len cap, rv = .slice ao len cap ∧ c1 = .slice ao rows.length cap) (hgc : W.heap[gc]? = some (.cells (ccells (lentC cs 8)).toArray 104 (0, 0))) : Lent W cs rows (.agg #[c0, c1, .slice (some ⟨gc, 0, none⟩) (cs.length + 8) (cs.length + 8), rv, lv]) := by
  obtain ⟨lo, lb, lcap, rfl, hlc, hl⟩ := h.lists
  obtain ⟨ro, rb, rcap, rfl, hrc, hr⟩ := h.rows h8
  have hcr := CRow.of_block hgc
  have hn : PL.length = rows.length := by rw [← hP, List.length_map]
  subst hc0
  rw [hP] at hr
  have hl2 : RRow W lo lb 0 (rows.map fun r => lentV r 8) := by rw [← hP, List.map_map]; exact hl
  rw [hn] at hrc ⊢
  refine ⟨_, c1, gc, ro, rb, 0, rcap, lo, lb, 0, lcap, rfl, ⟨_, gc, 0, _, rfl, by omega, ?_⟩, ?_, hcr, hrc, hr, hl2⟩
  · unfold lentC at hcr; exact CRow.head hcr
  · rcases hc1 with ⟨rfl, rfl⟩ | ⟨ao, len, cap, he, rfl⟩
    · exact ⟨none, 0, 0, 0, rfl, Nat.le_refl _, ⟨fun h => by simp at h, fun h => by simp at h, fun j hj => by simp at hj⟩⟩
    · simp only [Value.slice.injEq] at he
      obtain ⟨rfl, -, rfl⟩ := he
      exact ⟨_, rb, 0, _, rfl, by omega, RRow.head hr⟩

set_option maxRecDepth 100000 in
set_option maxHeartbeats 8000000 in
theorem lend_any (cs : List Col) (rows : List (List Val)) (cv rv : Value) (w : World) (hz : cs.length * 24 ≤ 140737488351232) (hz2 : rows.length * 24 ≤ 140737488351232) (hz3 : ∀ r ∈ rows, r.length * 32 ≤ 140737488351232) (hcs : CSl w cv cs) (hrs : RSl w rv rows) :
    Calls Try.prog 26 #[.agg #[cv, rv]] w fun e w' => Below w.heap.size w w' ∧ ∃ v, e = .returned v ∧ Lent w' cs rows v := by
  obtain ⟨j0, hj, hy0, hy1, hy2⟩ := info_parts Try.info104
  obtain ⟨q0', hq, hx0, hx1, hx2⟩ := info_parts Try.info30
  obtain ⟨co, cb, coff, ccap, rfl, hccap, hcr⟩ := hcs
  obtain ⟨ro, rb, roff, rcap, rfl, hrcap, hrr⟩ := hrs
  have HCR : Hid (CRow w co cb coff cs) := hcr
  have HRR : Hid (RRow w ro rb roff rows) := hrr
  have HZ3 : Hid (∀ r ∈ rows, r.length * 32 ≤ 140737488351232) := hz3
  clear hcr hrr hz3
  go_enter Try.func26, Try.ntmps26
  go_upto_region 2 with fail
  have hS0 : LdSt w (((w.alloc (.cells #[.slice co cs.length ccap, .slice ro rows.length rcap] 52)).alloc (.cells #[.slice none 0 0, .slice none 0 0, .slice none 0 0, .slice none 0 0, .slice none 0 0] 57)).alloc (.cells #[.slice none 0 0, .slice none 0 0, .slice none 0 0, .slice none 0 0, .slice none 0 0] 57)) (.slice co cs.length ccap) (.slice ro rows.length rcap) (.slice none 0 0) (.slice none 0 0) (.slice none 0 0) (.slice none 0 0) (.slice none 0 0) :=
    ⟨alloc_old _ (by simp; omega) (alloc_old _ (by simp) (alloc_at w _)), alloc_old _ (by simp) (alloc_at2 w _ _), alloc_at3 w _ _ _, (below_box2 _ _).alloc (by simp; omega) _⟩
  generalize ((w.alloc (.cells #[.slice co cs.length ccap, .slice ro rows.length rcap] 52)).alloc (.cells #[.slice none 0 0, .slice none 0 0, .slice none 0 0, .slice none 0 0, .slice none 0 0] 57)).alloc (.cells #[.slice none 0 0, .slice none 0 0, .slice none 0 0, .slice none 0 0, .slice none 0 0] 57) = W0 at *
  have HS0 : Hid (LdSt w W0 (.slice co cs.length ccap) (.slice ro rows.length rcap) (.slice none 0 0) (.slice none 0 0) (.slice none 0 0) (.slice none 0 0) (.slice none 0 0)) := hS0
  obtain ⟨t0, t1⟩ := two_of hS0.tbl
  have hsz0 : w.heap.size + 2 < W0.heap.size := lt_of_block hS0.box
  clear hS0
  have hci : (cs.length : Int) ≤ 5864062014634 := by omega
  go_upto_region 4 with (at_make; refine wpList_make_full _ rfl _ _ 49 rfl w.heap.size 104 j0 _ 2 Try.underlying49 hj hy0 hy1 .i64 .i64 _ _ (cs.length + 8) rfl rfl (by first | omega | (push_cast; omega)) (by first | omega | (push_cast; omega)) (by rw [hy2]; omega) (by unfold maxLen; omega) (by omega) ?_; intro w0 hown0 hgrow0; have hbx0 := (hgrow0.block (w.heap.size + 2) hsz0 (by simp)).trans HS0.out.box; obtain ⟨⟨x0, x1, x2, x3, x4⟩, xf⟩ := five_of hbx0)
  rw [made_cols] at hown0
  have hbc := cblock_of_owns hown0
  have hbel0 : Below w.heap.size w w0 := HS0.out.bel.trans ((Below.refl W0.heap.size W0).grown hgrow0 (Nat.le_refl _) (by simp) |>.mono HS0.out.bel.size)
  have hS1 : LdSt w w0 (.slice co cs.length ccap) (.slice ro rows.length rcap) (.slice none 0 0) (.slice none 0 0) (.slice none 0 0) (.slice none 0 0) (.slice none 0 0) :=
    ⟨(hgrow0.block _ (lt_of_block HS0.out.tbl) (by simp)).trans HS0.out.tbl, (hgrow0.block _ (lt_of_block HS0.out.res) (by simp)).trans HS0.out.res, hbx0, hbel0⟩
  have hS2 := hS1.put 2 (.slice (some ⟨W0.heap.size, 0, none⟩) (cs.length + 8) (cs.length + 8)) rfl
  have hbc2 : (w0.setCell ⟨w.heap.size + 2, 2, none⟩ (.slice (some ⟨W0.heap.size, 0, none⟩) (cs.length + 8) (cs.length + 8))).heap[W0.heap.size]? = some (.cells (ccells (List.replicate (cs.length + 8) zeroC)).toArray 104 (0, 0)) := by
    rw [heap_setCell_other _ _ _ _ (by simp; omega)]; exact hbc
  clear t0 t1 hbx0 x0 x1 x2 x3 x4 xf hown0 hgrow0 hbc hbel0 hS1 HS0
  generalize w0.setCell ⟨w.heap.size + 2, 2, none⟩ (.slice (some ⟨W0.heap.size, 0, none⟩) (cs.length + 8) (cs.length + 8)) = W1 at *
  generalize W0.heap.size = gc at *
  obtain ⟨t0, t1⟩ := two_of hS2.tbl
  obtain ⟨⟨x0, x1, x2, x3, x4⟩, -⟩ := five_of hS2.box
  have HS2 : Hid (LdSt w W1 (.slice co cs.length ccap) (.slice ro rows.length rcap) (.slice none 0 0) (.slice none 0 0) (.slice (some ⟨gc, 0, none⟩) (cs.length + 8) (cs.length + 8)) (.slice none 0 0) (.slice none 0 0)) := hS2
  obtain ⟨w2, hrun, HB2, hoth, hbel2⟩ := clent_copy cs (cap := ccap) HCR.out hS2.bel (by omega) hbc2 j0 hj hy1
  clear hS2 hbc2
  go_upto_region 5 with fail
  have HS3 : Hid (LdSt w w2 (.slice co cs.length ccap) (.slice ro rows.length rcap) (.slice none 0 0) (.slice none 0 0) (.slice (some ⟨gc, 0, none⟩) (cs.length + 8) (cs.length + 8)) (.slice none 0 0) (.slice none 0 0)) := HS2.out.other hsz0 (fun k hk _ => hoth k hk) hbel2
  clear hrun hoth hbel2 t0 t1 x0 x1 x2 x3 x4 HS2
  go_wp2_with fail
  go_loopw [5] (fun i wr => ∃ (t p : Nat), t ≤ 8 ∧ p = cs.length + t ∧ i = .int .i64 (p : Int) ∧ wr.heap[gc]? = some (.cells (ccells (lentC cs t)).toArray 104 (0, 0)) ∧ LdSt w wr (.slice co cs.length ccap) (.slice ro rows.length rcap) (.slice none 0 0) (.slice none 0 0) (.slice (some ⟨gc, 0, none⟩) (cs.length + 8) (cs.length + 8)) (.slice none 0 0) (.slice none 0 0)) (fun i _ => cs.length + 8 - (intOf i).toNat)
  case atStart => exact ⟨0, _, by omega, rfl, rfl, HB2.out, HS3.out⟩
  case round =>
    clear HB2 HS3
    obtain ⟨t, p, ht, hp, rfl, hbc, hS⟩ := hrel
    have HP : Hid (p = cs.length + t) := hp
    have hp1 : p ≤ cs.length + 8 := by omega
    have HS : Hid (LdSt w wr (.slice co cs.length ccap) (.slice ro rows.length rcap) (.slice none 0 0) (.slice none 0 0) (.slice (some ⟨gc, 0, none⟩) (cs.length + 8) (cs.length + 8)) (.slice none 0 0) (.slice none 0 0)) := hS
    obtain ⟨⟨x0, x1, x2, x3, x4⟩, -⟩ := five_of hS.box
    obtain ⟨t0, t1⟩ := two_of hS.tbl
    by_cases h8 : t < 8
    · have hp2 : p < cs.length + 8 := by omega
      have hll := lentC_length cs t ht
      have hown := cowns_of_block (base := w.heap.size) (n := cs.length + 8) hbc (by rw [ccells_length, hll]) (by omega) (by unfold maxLen; omega)
      have hce : ∀ q, q < (cs.length + 8) * 2 → ∃ u, wr.cell? ⟨gc, q, none⟩ = some u := fun q hq => by
        have := row_there hbc q (by rw [List.size_toArray, ccells_length, hll]; exact hq)
        rw [Nat.zero_add] at this
        exact Option.isSome_iff_exists.1 this.1
      obtain ⟨u0, hc0⟩ := hce (p * 2) (by omega)
      obtain ⟨u1, hc1⟩ := hce (p * 2 + 1) (by omega)
      have hf0 : wr.frozen? ⟨gc, p * 2, none⟩ = false := by simp [World.frozen?, hbc]
      have hf1 : wr.frozen? ⟨gc, p * 2 + 1, none⟩ = false := by simp [World.frozen?, hbc]
      have hst := stored2 hown p beyC (by omega)
      rw [hp, lentC_set cs t h8, ← hp] at hst
      have HST : Hid (((wr.setCell ⟨gc, p * 2, none⟩ (.string ⟨#[98, 101, 121, 111, 110, 100]⟩)).setCell ⟨gc, p * 2 + 1, none⟩ (.int .i64 0)).heap[gc]? = some (.cells (ccells (lentC cs (t + 1))).toArray 104 (0, 0))) := cblock_of_owns hst
      have HSN : Hid (LdSt w ((wr.setCell ⟨gc, p * 2, none⟩ (.string ⟨#[98, 101, 121, 111, 110, 100]⟩)).setCell ⟨gc, p * 2 + 1, none⟩ (.int .i64 0)) (.slice co cs.length ccap) (.slice ro rows.length rcap) (.slice none 0 0) (.slice none 0 0) (.slice (some ⟨gc, 0, none⟩) (cs.length + 8) (cs.length + 8)) (.slice none 0 0) (.slice none 0 0)) := hS.other hsz0 (fun k hk _ => by
        rw [heap_setCell_other _ _ _ _ (by simpa using hk), heap_setCell_other _ _ _ _ (by simpa using hk)]) (below_put (below_put hS.bel (Nat.le_refl _) (by omega) _ _) (Nat.le_refl _) (by omega) _ _)
      clear hst hown hp hce hbc hS HS
      go_wp2
      go_roundw
      case rel => exact ⟨t + 1, p + 1, by omega, by have := HP.out; omega, by go_num, HST.out, HSN.out⟩
      case measure => simp [intOf]; omega
    · have ht8 : t = 8 := by omega
      subst ht8
      have hp3 : ¬ p < cs.length + 8 := by omega
      have HBC : Hid (wr.heap[gc]? = some (.cells (ccells (lentC cs 8)).toArray 104 (0, 0))) := hbc
      clear hp hbc hS
      clear t0 t1 x0 x1 x2 x3 x4
      go_wp2_with fail
      go_loopw [6] (fun i wx => ∃ (k : Nat) (lv rv' : Value) (PL : List (Nat × List Val)), k ≤ rows.length ∧ i = .int .i64 (k : Int) ∧ PL.map Prod.snd = rows.take k ∧ Ls w wx lv rv' PL (PL.map rcl) ∧ LdSt w wx (.slice co cs.length ccap) (.slice ro rows.length rcap) (.slice none 0 0) (.slice none 0 0) (.slice (some ⟨gc, 0, none⟩) (cs.length + 8) (cs.length + 8)) rv' lv ∧ wx.heap[gc]? = some (.cells (ccells (lentC cs 8)).toArray 104 (0, 0))) (fun i _ => rows.length - (intOf i).toNat)
      case atStart => exact ⟨0, _, _, [], Nat.zero_le _, rfl, rfl, ⟨World.ownsRow_nil _ _ _ _, World.ownsRow_nil _ _ _ _, fun p hp => by simp at hp, .inl rfl⟩, HS.out, HBC.out⟩
      case round =>
        rename World => wx
        clear HS HBC
        obtain ⟨k, lv, rv', PL, hk, rfl, hPL, hLs, hS, hbc⟩ := hrel
        have HS : Hid (LdSt w wx (.slice co cs.length ccap) (.slice ro rows.length rcap) (.slice none 0 0) (.slice none 0 0) (.slice (some ⟨gc, 0, none⟩) (cs.length + 8) (cs.length + 8)) rv' lv) := hS
        have HLS : Hid (Ls w wx lv rv' PL (PL.map rcl)) := hLs
        have HBC : Hid (wx.heap[gc]? = some (.cells (ccells (lentC cs 8)).toArray 104 (0, 0))) := hbc
        have HPL : Hid (PL.map Prod.snd = rows.take k) := hPL
        have HPN : Hid (PL.length = k) := by
          show _ = _
          rw [← List.length_map (f := Prod.snd), hPL, List.length_take]
          omega
        obtain ⟨t0, t1⟩ := two_of hS.tbl
        clear hPL hLs hbc
        by_cases hlt : k < rows.length
        · obtain rfl := HRR.out.addr (by omega)
          obtain ⟨v, hrc, hvs⟩ := HRR.out.c k hlt
          have HRB : Hid (rb < w.heap.size) := HRR.out.lt (by omega)
          have HRC : Hid (w.cell? ⟨rb, roff + k, none⟩ = some v) := hrc
          have HLV : Hid (∀ W, Below w.heap.size w W → Calls Try.prog 16 #[v] W fun e w' => ∃ g, e = .returned (.slice (some ⟨g, 0, none⟩) (rows[k].length + 8) (rows[k].length + 8)) ∧ w'.ownsRow W.heap.size 39 3 (.slice (some ⟨g, 0, none⟩) (rows[k].length + 8) (rows[k].length + 8)) (rows[k].length + 8) (vcells (lentV rows[k] 8)) ∧ Below W.heap.size W w') := fun W hW =>
            lentValues_any v rows[k] W (HZ3.out _ (List.getElem_mem hlt)) (hvs.below hW)
          have hr3 := HZ3.out _ (List.getElem_mem hlt)
          have HTK : Hid (rows.take (k + 1) = rows.take k ++ [rows[k]]) := List.take_succ_eq_append_getElem hlt
          obtain ⟨vo, vb, voff, vcap, rfl, -⟩ := hvs
          have hki : (k : Int) < (rows.length : Int) := by omega
          have y0 : wx.cell? ⟨rb, roff + k, none⟩ = some (.slice vo rows[k].length vcap) := (hS.bel.cell (p := ⟨rb, roff + k, none⟩) HRB.out).trans HRC.out
          generalize rows[k] = row at *
          have hszx : w.heap.size ≤ wx.heap.size := hS.bel.size
          clear hS hrc
          go_upto_region 13 with (go_at_call 16; refine (HLV.out _ HS.out.bel).mono ?_; rintro e w3 ⟨g, rfl, hown3, hb3⟩)
          have HS3 : Hid (LdSt w w3 (.slice co cs.length ccap) (.slice (some ⟨rb, roff, none⟩) rows.length rcap) (.slice none 0 0) (.slice none 0 0) (.slice (some ⟨gc, 0, none⟩) (cs.length + 8) (cs.length + 8)) rv' lv) := HS.out.below hb3
          have HLS3 : Hid (Ls w w3 lv rv' PL (PL.map rcl)) := HLS.out.below hb3
          have HBC3 : Hid (w3.heap[gc]? = some (.cells (ccells (lentC cs 8)).toArray 104 (0, 0))) := (hb3.block _ (lt_of_block HBC.out)).trans HBC.out
          have HO3 : Hid (w3.ownsRow w.heap.size 39 3 (lcell (g, row)) (row.length + 8) (vcells (lentV row 8))) := ownsRow_base hown3 hszx
          have hsz3 : w.heap.size ≤ w3.heap.size := HS3.out.bel.size
          clear t0 t1 y0 hown3 hb3 HS HLS HBC HLV
          obtain ⟨⟨-, -, -, x3, x4⟩, xf⟩ := five_of HS3.out.box
          have hlo := HLS3.out.lown
          rw [HPN.out] at hlo
          go_upto_region 14 with (at_builtin; refine wpList_append_lies _ rfl _ _ 50 rfl w.heap.size 30 q0' _ 1 24 Try.underlying50 hq hx0 hx1 hx2 rfl (by decide) _ k _ rfl (hlo.alloc _) ⟨w3.heap.size, 0, none⟩ 1 1 [lcell (g, row)] rfl rfl (one_at w3 _ _) (by intro u hu; simp at hu; subst hu; rfl) (by decide) (by unfold maxLen; omega) (by omega) (by simp; omega) _ rfl ?_; intro g4 cap4 w4 hown4 hgr4 hat4 hlt4; have hg4 := Grew.lies (n := k + 1) (cap := cap4) hgr4 hat4; have hS4 := HS3.out.grew hlo (by decide) (by decide) hg4 (base := 0); obtain ⟨⟨-, -, -, -, z4⟩, zf⟩ := five_of hS4.box)
          have ho5 : w4.ownsRow w.heap.size 30 1 (.slice (some ⟨g4, 0, none⟩) (k + 1) cap4) (PL ++ [(g, row)]).length ((PL ++ [(g, row)]).map lcell) := by
            rw [List.length_append, HPN.out, List.map_append]; exact hown4
          have HLS5 : Hid (Ls w (w4.setCell ⟨w.heap.size + 2, 4, none⟩ (.slice (some ⟨g4, 0, none⟩) (k + 1) cap4)) (.slice (some ⟨g4, 0, none⟩) (k + 1) cap4) rv' (PL ++ [(g, row)]) (PL.map rcl)) := (HLS3.out.addL hg4 ho5 HO3.out).put hS4.box (by decide) (by decide) 4 _
          have HS5 : Hid (LdSt w (w4.setCell ⟨w.heap.size + 2, 4, none⟩ (.slice (some ⟨g4, 0, none⟩) (k + 1) cap4)) (.slice co cs.length ccap) (.slice (some ⟨rb, roff, none⟩) rows.length rcap) (.slice none 0 0) (.slice none 0 0) (.slice (some ⟨gc, 0, none⟩) (cs.length + 8) (cs.length + 8)) rv' (.slice (some ⟨g4, 0, none⟩) (k + 1) cap4)) := hS4.put 4 _ rfl
          have HBC5 : Hid ((w4.setCell ⟨w.heap.size + 2, 4, none⟩ (.slice (some ⟨g4, 0, none⟩) (k + 1) cap4)).heap[gc]? = some (.cells (ccells (lentC cs 8)).toArray 104 (0, 0))) := by
            show _ = _
            rw [heap_setCell_other _ _ _ _ (by simp; omega)]
            exact (hg4.by_.block gc (lt_of_block HBC3.out) (own_far hlo HBC3.out (by decide))).trans HBC3.out
          clear hS4 hg4 hown4 hgr4 hat4 hlt4 hlo x3 x4 xf HS3 HLS3 HBC3 HO3 hsz3 ho5 z4 zf
          generalize w4.setCell ⟨w.heap.size + 2, 4, none⟩ (.slice (some ⟨g4, 0, none⟩) (k + 1) cap4) = w5 at *
          generalize Value.slice (some ⟨g4, 0, none⟩) (k + 1) cap4 = lv5 at *
          clear g4 cap4 w4
          obtain ⟨t0, t1⟩ := two_of HS5.out.tbl
          obtain ⟨⟨-, -, -, x3, x4⟩, xf⟩ := five_of HS5.out.box
          have y0 : w5.cell? ⟨rb, roff + k, none⟩ = some (.slice vo row.length vcap) := (HS5.out.bel.cell (p := ⟨rb, roff + k, none⟩) HRB.out).trans HRC.out
          have hszx5 : w.heap.size ≤ w5.heap.size := HS5.out.bel.size
          have hcut : (row.length : Int) ≤ (row.length : Int) + 8 := by omega
          refine Un.begin_ (fun W => W.cell? ⟨w.heap.size + 2, 3, none⟩ = some rv' ∧ W.cell? ⟨w.heap.size, 1, none⟩ = some (.slice (some ⟨rb, roff, none⟩) rows.length rcap) ∧ W.cell? ⟨rb, roff + k, none⟩ = some (.slice vo row.length vcap)) 13 (by kernel_rfl) ?_
          have hHeld : (fun W => W.cell? ⟨w.heap.size + 2, 3, none⟩ = some rv' ∧ W.cell? ⟨w.heap.size, 1, none⟩ = some (.slice (some ⟨rb, roff, none⟩) rows.length rcap) ∧ W.cell? ⟨rb, roff + k, none⟩ = some (.slice vo row.length vcap)) w5.drew := by go_keep
          refine Un.pick (i := 0) (v := ?_) rfl (by kernel_rfl) (by kernel_rfl) (by kernel_rfl) (by kernel_rfl) (fun _ _ _ h => h) (Or.inl ⟨by rfl, ?_⟩) (by assumption) ?_
          rotate_left
          · intro w _; go_simp
            try with_reducible rfl
          try simp only [Act.put, List.setIfInBounds_toArray, List.set_cons_zero, List.set_cons_succ]
          refine Un.take (i := 1) (v := ?_) rfl (by kernel_rfl) (by kernel_rfl) (by kernel_rfl) (by kernel_rfl) (by kernel_rfl) (by kernel_rfl) (fun _ _ _ h => h) (Or.inl ⟨by rfl, ?_⟩) (by assumption) ?_
          rotate_left
          · intro w hSw; (try dsimp only at hSw); go_simp
            try with_reducible rfl
          try simp only [Act.put, List.setIfInBounds_toArray, List.set_cons_zero, List.set_cons_succ]
          refine Un.pick (i := 2) (v := ?_) rfl (by kernel_rfl) (by kernel_rfl) (by kernel_rfl) (by kernel_rfl) (fun _ _ _ h => h) (Or.inl ⟨by rfl, ?_⟩) (by assumption) ?_
          rotate_left
          · intro w _; go_simp
            try with_reducible rfl
          try simp only [Act.put, List.setIfInBounds_toArray, List.set_cons_zero, List.set_cons_succ]
          refine Un.pick (i := 3) (v := ?_) rfl (by kernel_rfl) (by kernel_rfl) (by kernel_rfl) (by kernel_rfl) (fun _ _ _ h => h) (Or.inl ⟨by rfl, ?_⟩) (by assumption) ?_
          rotate_left
          · intro w _; go_simp
            try with_reducible rfl
          try simp only [Act.put, List.setIfInBounds_toArray, List.set_cons_zero, List.set_cons_succ]
          refine Un.take (i := 4) (v := ?_) rfl (by kernel_rfl) (by kernel_rfl) (by kernel_rfl) (by kernel_rfl) (by kernel_rfl) (by kernel_rfl) (fun _ _ _ h => h) (Or.inl ⟨by rfl, ?_⟩) (by assumption) ?_
          rotate_left
          · intro w hSw; (try dsimp only at hSw); go_simp
            try with_reducible rfl
          try simp only [Act.put, List.setIfInBounds_toArray, List.set_cons_zero, List.set_cons_succ]
          refine Un.pick (i := 5) (v := ?_) rfl (by kernel_rfl) (by kernel_rfl) (by kernel_rfl) (by kernel_rfl) (fun _ _ _ h => h) (Or.inl ⟨by rfl, ?_⟩) (by assumption) ?_
          rotate_left
          · intro w _; go_simp
            try with_reducible rfl
          try simp only [Act.put, List.setIfInBounds_toArray, List.set_cons_zero, List.set_cons_succ]
          refine Un.pick (i := 6) (v := ?_) rfl (by kernel_rfl) (by kernel_rfl) (by kernel_rfl) (by kernel_rfl) (fun _ _ _ h => h) (Or.inl ⟨by rfl, ?_⟩) (by assumption) ?_
          rotate_left
          · intro w _; go_simp
            try with_reducible rfl
          try simp only [Act.put, List.setIfInBounds_toArray, List.set_cons_zero, List.set_cons_succ]
          refine Un.take (i := 7) (v := ?_) rfl (by kernel_rfl) (by kernel_rfl) (by kernel_rfl) (by kernel_rfl) (by kernel_rfl) (by kernel_rfl) (fun _ _ _ h => h) (Or.inl ⟨by rfl, ?_⟩) (by assumption) ?_
          rotate_left
          · intro w hSw; (try dsimp only at hSw); go_simp
            try with_reducible rfl
          try simp only [Act.put, List.setIfInBounds_toArray, List.set_cons_zero, List.set_cons_succ]
          refine Un.pick (i := 8) (v := ?_) rfl (by kernel_rfl) (by kernel_rfl) (by kernel_rfl) (by kernel_rfl) (fun _ _ _ h => h) (Or.inl ⟨by rfl, ?_⟩) (by assumption) ?_
          rotate_left
          · intro w _; go_simp
            try with_reducible rfl
          try simp only [Act.put, List.setIfInBounds_toArray, List.set_cons_zero, List.set_cons_succ]
          refine Un.pick (i := 9) (v := ?_) rfl (by kernel_rfl) (by kernel_rfl) (by kernel_rfl) (by kernel_rfl) (fun _ _ _ h => h) (Or.inl ⟨by rfl, ?_⟩) (by assumption) ?_
          rotate_left
          · intro w _; go_simp
            try with_reducible rfl
          try simp only [Act.put, List.setIfInBounds_toArray, List.set_cons_zero, List.set_cons_succ]
          refine Un.one (i := 10) (by kernel_rfl) rfl (fun K hK => ?_)
          rw [if_pos (by rfl)]
          go_simp
          refine hK.out _ _ (fun _ => by go_keep) ?_
          clear hK K hHeld
          have hHeld : (fun W => W.cell? ⟨w.heap.size + 2, 3, none⟩ = some rv' ∧ W.cell? ⟨w.heap.size, 1, none⟩ = some (.slice (some ⟨rb, roff, none⟩) rows.length rcap) ∧ W.cell? ⟨rb, roff + k, none⟩ = some (.slice vo row.length vcap)) (w5.drew.alloc (.cells #[rcl (g, row)] 30)) := by go_keep
          refine Un.one (i := 11) (by kernel_rfl) rfl (fun K hK => ?_)
          have hro := (HLS5.out.below (Below.refl _ w5).drew).rown
          rw [List.length_map, HPN.out] at hro
          refine step_append_lies _ (by rfl) _ _ 50 (by rfl) w.heap.size 30 q0' _ 1 24 Try.underlying50 hq hx0 hx1 hx2 rfl (by decide) rv' k _ (by rfl) (hro.alloc _) ⟨w5.heap.size, 0, none⟩ 1 1 [rcl (g, row)] (by rfl) rfl (one_at w5.drew _ _) (by intro u hu; simp at hu; subst hu; rfl) (by decide) (by unfold maxLen; omega) (by omega) (by simp; omega) _ rfl ?_
          intro g6 cap6 w6 hown6 hgr6 hat6 hlt6
          have hg6 := Grew.lies (w := w5.drew) (o := .cells #[rcl (g, row)] 30) (v := rv') (n := k + 1) (cap := cap6) hgr6 hat6
          have hS6 := (HS5.out.below (Below.refl _ w5).drew).grew hro (by decide) (by decide) hg6 (base := 0)
          have ho7 : w6.ownsRow w.heap.size 30 1 (.slice (some ⟨g6, 0, none⟩) (k + 1) cap6) ((PL ++ [(g, row)]).map rcl).length ((PL ++ [(g, row)]).map rcl) := by
            rw [List.length_map, List.length_append, HPN.out, List.map_append]; exact hown6
          have HLS7 : Hid (Ls w (w6.setCell ⟨w.heap.size + 2, 3, none⟩ (.slice (some ⟨g6, 0, none⟩) (k + 1) cap6)) lv5 (.slice (some ⟨g6, 0, none⟩) (k + 1) cap6) (PL ++ [(g, row)]) ((PL ++ [(g, row)]).map rcl)) := ((HLS5.out.below (Below.refl _ w5).drew).addR hg6 ho7).put hS6.box (by decide) (by decide) 3 _
          have HS7 : Hid (LdSt w (w6.setCell ⟨w.heap.size + 2, 3, none⟩ (.slice (some ⟨g6, 0, none⟩) (k + 1) cap6)) (.slice co cs.length ccap) (.slice (some ⟨rb, roff, none⟩) rows.length rcap) (.slice none 0 0) (.slice none 0 0) (.slice (some ⟨gc, 0, none⟩) (cs.length + 8) (cs.length + 8)) (.slice (some ⟨g6, 0, none⟩) (k + 1) cap6) lv5) := hS6.put 3 _ rfl
          have HBC7 : Hid ((w6.setCell ⟨w.heap.size + 2, 3, none⟩ (.slice (some ⟨g6, 0, none⟩) (k + 1) cap6)).heap[gc]? = some (.cells (ccells (lentC cs 8)).toArray 104 (0, 0))) := by
            show _ = _
            rw [heap_setCell_other _ _ _ _ (by simp; omega)]
            exact (hg6.by_.block gc (lt_of_block HBC5.out) (own_far hro HBC5.out (by decide))).trans HBC5.out
          obtain ⟨u0, u1⟩ := two_of hS6.tbl
          obtain ⟨⟨-, -, -, u3, u4⟩, uf⟩ := five_of hS6.box
          have v0 : w6.cell? ⟨rb, roff + k, none⟩ = some (.slice vo row.length vcap) := (hS6.bel.cell (p := ⟨rb, roff + k, none⟩) HRB.out).trans HRC.out
          refine hK.out _ _ (fun _ => ⟨u3, u1, v0⟩) ?_
          clear hK K hHeld t0 t1 x3 x4 xf y0
          have hHeld : (fun W => W.cell? ⟨w.heap.size + 2, 3, none⟩ = some rv' ∧ W.cell? ⟨w.heap.size, 1, none⟩ = some (.slice (some ⟨rb, roff, none⟩) rows.length rcap) ∧ W.cell? ⟨rb, roff + k, none⟩ = some (.slice vo row.length vcap)) w6 := ⟨u3, u1, v0⟩
          refine Un.pick (i := 12) (v := ?_) rfl (by kernel_rfl) (by kernel_rfl) (by kernel_rfl) (by kernel_rfl) (fun _ _ _ h => h) (Or.inl ⟨by rfl, ?_⟩) (by assumption) ?_
          rotate_left
          · intro w _; go_simp
            try with_reducible rfl
          try simp only [Act.put, List.setIfInBounds_toArray, List.set_cons_zero, List.set_cons_succ]
          refine Un.one (i := 13) (by kernel_rfl) rfl (fun K hK => ?_)
          rw [if_pos (by rfl)]
          go_simp
          refine hK.out _ _ (fun h => absurd h (by decide)) ?_
          clear hK K hHeld u0 u1 u3 u4 uf v0 hS6 hg6 hown6 hgr6 hat6 hlt6 ho7 hro HLS5 HS5 HBC5
          refine Un.done (by kernel_rfl) ?_ _
          generalize w6.setCell ⟨w.heap.size + 2, 3, none⟩ (.slice (some ⟨g6, 0, none⟩) (k + 1) cap6) = w7 at *
          generalize Value.slice (some ⟨g6, 0, none⟩) (k + 1) cap6 = rv7 at *
          go_wp2_with fail
          go_roundw
          case rel => exact ⟨k + 1, _, _, _, by omega, by go_num, by rw [List.map_append, HPL.out, HTK.out]; rfl, HLS7.out, HS7.out, HBC7.out⟩
          case measure => simp [intOf]; omega
        · obtain rfl : k = rows.length := by omega
          have HPR : Hid (PL.map Prod.snd = rows) := by show _ = _; rw [HPL.out, List.take_length]
          clear hS HPL
          go_wp2_with fail
          go_loopw [8] (fun i wy => ∃ (t : Nat) (rv2 : Value) (GL : List Nat), t ≤ 8 ∧ i = .int .i64 (t : Int) ∧ GL.length = t ∧ Lg w wy lv rv2 PL GL ∧ LdSt w wy (.slice co cs.length ccap) (.slice ro rows.length rcap) (.slice none 0 0) (.slice none 0 0) (.slice (some ⟨gc, 0, none⟩) (cs.length + 8) (cs.length + 8)) rv2 lv ∧ wy.heap[gc]? = some (.cells (ccells (lentC cs 8)).toArray 104 (0, 0))) (fun i _ => 8 - (intOf i).toNat)
          case atStart => exact ⟨0, _, [], Nat.zero_le _, rfl, rfl, ⟨by simpa using HLS.out, fun g hg => by simp at hg⟩, HS.out, HBC.out⟩
          case round =>
            rename World => wy
            clear HS HBC HLS
            obtain ⟨t, rv2, GL, ht, rfl, hGL, hLg, hS, hbc⟩ := hrel
            have HS : Hid (LdSt w wy (.slice co cs.length ccap) (.slice ro rows.length rcap) (.slice none 0 0) (.slice none 0 0) (.slice (some ⟨gc, 0, none⟩) (cs.length + 8) (cs.length + 8)) rv2 lv) := hS
            have HLG : Hid (Lg w wy lv rv2 PL GL) := hLg
            have HBC : Hid (wy.heap[gc]? = some (.cells (ccells (lentC cs 8)).toArray 104 (0, 0))) := hbc
            have HGL : Hid (GL.length = t) := hGL
            obtain ⟨t0, t1⟩ := two_of hS.tbl
            obtain ⟨⟨x0, x1, x2, x3, x4⟩, xf⟩ := five_of hS.box
            have hszy : w.heap.size ≤ wy.heap.size := hS.bel.size
            clear hGL hLg hbc hS
            by_cases ht8 : t < 8
            · have hbA : Below wy.heap.size wy (wy.alloc (.cells #[.bool false, .int .i64 0, .string ⟨#[98, 101, 121, 111, 110, 100]⟩] 39)) := (Below.refl _ _).alloc (Nat.le_refl _) _
              have HS3 : Hid (LdSt w (wy.alloc (.cells #[.bool false, .int .i64 0, .string ⟨#[98, 101, 121, 111, 110, 100]⟩] 39)) (.slice co cs.length ccap) (.slice ro rows.length rcap) (.slice none 0 0) (.slice none 0 0) (.slice (some ⟨gc, 0, none⟩) (cs.length + 8) (cs.length + 8)) rv2 lv) := HS.out.below hbA
              have HLG3 : Hid (Lg w (wy.alloc (.cells #[.bool false, .int .i64 0, .string ⟨#[98, 101, 121, 111, 110, 100]⟩] 39)) lv rv2 PL GL) := HLG.out.below hbA
              have HBC3 : Hid ((wy.alloc (.cells #[.bool false, .int .i64 0, .string ⟨#[98, 101, 121, 111, 110, 100]⟩] 39)).heap[gc]? = some (.cells (ccells (lentC cs 8)).toArray 104 (0, 0))) := (hbA.block _ (lt_of_block HBC.out)).trans HBC.out
              have HO3 : Hid ((wy.alloc (.cells #[.bool false, .int .i64 0, .string ⟨#[98, 101, 121, 111, 110, 100]⟩] 39)).ownsRow w.heap.size 39 3 (bcl wy.heap.size) 1 (vcells [beyS])) := vowns_of_block (n := 1) (alloc_at wy _) rfl hszy (by decide)
              have hro := HLG3.out.ls.rown
              have HRN : Hid ((PL.map rcl ++ GL.map bcl).length = rows.length + t) := by show _ = _; rw [List.length_append, List.length_map, List.length_map, HPN.out, HGL.out]
              rw [HRN.out] at hro
              have hszA : (wy.alloc (.cells #[.bool false, .int .i64 0, .string ⟨#[98, 101, 121, 111, 110, 100]⟩] 39)).heap.size = wy.heap.size + 1 := by simp
              clear hbA
              go_upto_region 17 with (at_builtin; refine wpList_append_lies _ rfl _ _ 50 rfl w.heap.size 30 q0' _ 1 24 Try.underlying50 hq hx0 hx1 hx2 rfl (by decide) _ (rows.length + t) _ rfl (hro.alloc _) ⟨wy.heap.size + 1, 0, none⟩ 1 1 [bcl wy.heap.size] rfl rfl (by have := one_at (wy.alloc (.cells #[.bool false, .int .i64 0, .string ⟨#[98, 101, 121, 111, 110, 100]⟩] 39)) (bcl wy.heap.size) 30; rw [hszA] at this; exact this) (by intro u hu; simp at hu; subst hu; rfl) (by decide) (by unfold maxLen; omega) (by omega) (by simp; omega) _ rfl ?_; intro g4 cap4 w4 hown4 hgr4 hat4 hlt4; have hg4 := Grew.lies (n := rows.length + t + 1) (cap := cap4) hgr4 hat4; have hS4 := HS3.out.grew hro (by decide) (by decide) hg4 (base := 0); obtain ⟨⟨-, -, -, z3, z4⟩, zf⟩ := five_of hS4.box)
              have ho5 : w4.ownsRow w.heap.size 30 1 (.slice (some ⟨g4, 0, none⟩) (rows.length + t + 1) cap4) (PL.map rcl ++ (GL ++ [wy.heap.size]).map bcl).length (PL.map rcl ++ (GL ++ [wy.heap.size]).map bcl) := by
                rw [List.map_append, ← List.append_assoc, List.length_append, HRN.out]; exact hown4
              have HLG5 : Hid (Lg w (w4.setCell ⟨w.heap.size + 2, 3, none⟩ (.slice (some ⟨g4, 0, none⟩) (rows.length + t + 1) cap4)) lv (.slice (some ⟨g4, 0, none⟩) (rows.length + t + 1) cap4) PL (GL ++ [wy.heap.size])) := (HLG3.out.add hg4 ho5 HO3.out).same hS4.box (by decide) (by decide) (fun k hk => heap_setCell_other _ _ _ _ (by simpa using hk))
              have HS5 : Hid (LdSt w (w4.setCell ⟨w.heap.size + 2, 3, none⟩ (.slice (some ⟨g4, 0, none⟩) (rows.length + t + 1) cap4)) (.slice co cs.length ccap) (.slice ro rows.length rcap) (.slice none 0 0) (.slice none 0 0) (.slice (some ⟨gc, 0, none⟩) (cs.length + 8) (cs.length + 8)) (.slice (some ⟨g4, 0, none⟩) (rows.length + t + 1) cap4) lv) := hS4.put 3 _ rfl
              have HBC5 : Hid ((w4.setCell ⟨w.heap.size + 2, 3, none⟩ (.slice (some ⟨g4, 0, none⟩) (rows.length + t + 1) cap4)).heap[gc]? = some (.cells (ccells (lentC cs 8)).toArray 104 (0, 0))) := by
                show _ = _
                rw [heap_setCell_other _ _ _ _ (by simp; omega)]
                exact (hg4.by_.block gc (lt_of_block HBC3.out) (own_far hro HBC3.out (by decide))).trans HBC3.out
              clear hS4 hg4 hown4 hgr4 hat4 hlt4 hro x0 x1 x2 x3 x4 xf HS3 HLG3 HBC3 HO3 ho5 z3 z4 zf t0 t1 HS HLG HBC
              generalize w4.setCell ⟨w.heap.size + 2, 3, none⟩ (.slice (some ⟨g4, 0, none⟩) (rows.length + t + 1) cap4) = w5 at *
              generalize Value.slice (some ⟨g4, 0, none⟩) (rows.length + t + 1) cap4 = rv5 at *
              go_wp2_with fail
              go_roundw
              case rel => exact ⟨t + 1, _, _, by omega, by go_num, by rw [List.length_append, HGL.out]; rfl, HLG5.out, HS5.out, HBC5.out⟩
              case measure => simp [intOf]; omega
            · obtain rfl : t = 8 := by omega
              obtain ⟨lo, lb, lcap, rfl, hlc, -⟩ := HLG.out.lists
              obtain ⟨r2, rb2, rcap2, rfl, hrc2, -⟩ := HLG.out.rows HGL.out
              rw [HPN.out] at *
              have hci2 : (cs.length : Int) ≤ (cs.length : Int) + 8 := by omega
              have HE : Hid (∀ (W : World) (c1 : Value), Lg w W (.slice lo rows.length lcap) (.slice r2 (rows.length + 8) rcap2) PL GL → W.heap[gc]? = some (.cells (ccells (lentC cs 8)).toArray 104 (0, 0)) → ((c1 = .slice none 0 0 ∧ rows = []) ∨ c1 = .slice r2 rows.length rcap2) → Lent W cs rows (.agg #[.slice (some ⟨gc, 0, none⟩) cs.length (cs.length + 8), c1, .slice (some ⟨gc, 0, none⟩) (cs.length + 8) (cs.length + 8), .slice r2 (rows.length + 8) rcap2, .slice lo rows.length lcap])) := fun W c1 hL hB hc => lent_of hL HGL.out HPR.out rfl (hc.imp id fun h => ⟨_, _, _, rfl, h⟩) hB
              have xg0 := xf 0
              have xg1 := xf 1
              clear ht ht8
              go_upto_region 20 with fail
              have HS9 : Hid (LdSt w ((wy.setCell ⟨w.heap.size + 2, 0, none⟩ (.slice (some ⟨gc, 0, none⟩) cs.length (cs.length + 8))).setCell ⟨w.heap.size + 2, 1, none⟩ (.slice none 0 0)) (.slice co cs.length ccap) (.slice ro rows.length rcap) (.slice (some ⟨gc, 0, none⟩) cs.length (cs.length + 8)) (.slice none 0 0) (.slice (some ⟨gc, 0, none⟩) (cs.length + 8) (cs.length + 8)) (.slice r2 (rows.length + 8) rcap2) (.slice lo rows.length lcap)) := (HS.out.put 0 _ rfl).put 1 _ rfl
              have HLG9 : Hid (Lg w ((wy.setCell ⟨w.heap.size + 2, 0, none⟩ (.slice (some ⟨gc, 0, none⟩) cs.length (cs.length + 8))).setCell ⟨w.heap.size + 2, 1, none⟩ (.slice none 0 0)) (.slice lo rows.length lcap) (.slice r2 (rows.length + 8) rcap2) PL GL) := HLG.out.same HS.out.box (by decide) (by decide) (fun k hk => by rw [heap_setCell_other _ _ _ _ (by simpa using hk), heap_setCell_other _ _ _ _ (by simpa using hk)])
              have HBC9 : Hid (((wy.setCell ⟨w.heap.size + 2, 0, none⟩ (.slice (some ⟨gc, 0, none⟩) cs.length (cs.length + 8))).setCell ⟨w.heap.size + 2, 1, none⟩ (.slice none 0 0)).heap[gc]? = some (.cells (ccells (lentC cs 8)).toArray 104 (0, 0))) := by
                show _ = _
                rw [heap_setCell_other _ _ _ _ (by simp; omega), heap_setCell_other _ _ _ _ (by simp; omega)]
                exact HBC.out
              clear x0 x1 x2 x3 x4 xf xg0 xg1 t0 t1 HS HLG HBC
              generalize (wy.setCell ⟨w.heap.size + 2, 0, none⟩ (.slice (some ⟨gc, 0, none⟩) cs.length (cs.length + 8))).setCell ⟨w.heap.size + 2, 1, none⟩ (.slice none 0 0) = w9 at *
              obtain ⟨t0, t1⟩ := two_of HS9.out.tbl
              obtain ⟨⟨x0, x1, x2, x3, x4⟩, xf⟩ := five_of HS9.out.box
              cases ro with
              | none =>
                have hnil : rows = [] := by
                  cases hrw : rows with
                  | nil => rfl
                  | cons a r => have := HRR.out.addr (by rw [hrw]; simp); simp at this
                have HNIL : Hid (rows = []) := hnil
                clear hnil
                have hneq : ∀ W : World, (binOp .neq 50 (.slice none rows.length rcap) (.slice none 0 0)).run Try.prog W = .ok (.bool false) W := fun W => by
                  rw [run_neq_slice_nil (w := W) 50 30 _ _ _ Try.underlying50]; rfl
                go_upto_region 22 with fail
                have HX0 : Hid (w9.rangeAt (w.heap.size + 2) 0 (#[.slice (some ⟨gc, 0, none⟩) cs.length (cs.length + 8), .slice none 0 0, .slice (some ⟨gc, 0, none⟩) (cs.length + 8) (cs.length + 8), .slice r2 (rows.length + 8) rcap2, .slice lo rows.length lcap] : Array Value).toList) := row_range HS9.out.box
                have HX1 : Hid (w9.there (w.heap.size + 1) 0 (#[.slice (some ⟨gc, 0, none⟩) cs.length (cs.length + 8), .slice none 0 0, .slice (some ⟨gc, 0, none⟩) (cs.length + 8) (cs.length + 8), .slice r2 (rows.length + 8) rcap2, .slice lo rows.length lcap] : Array Value).size) := (show w9.there (w.heap.size + 1) 0 5 from row_there HS9.out.res)
                have HBF : Hid (Below w.heap.size w (w9.setCells (w.heap.size + 1) 0 (#[.slice (some ⟨gc, 0, none⟩) cs.length (cs.length + 8), .slice none 0 0, .slice (some ⟨gc, 0, none⟩) (cs.length + 8) (cs.length + 8), .slice r2 (rows.length + 8) rcap2, .slice lo rows.length lcap] : Array Value).toList)) := below_setCells (Nat.le_refl _) (by omega) _ _ _ HS9.out.bel
                have HX2 : Hid ((w9.setCells (w.heap.size + 1) 0 (#[.slice (some ⟨gc, 0, none⟩) cs.length (cs.length + 8), .slice none 0 0, .slice (some ⟨gc, 0, none⟩) (cs.length + 8) (cs.length + 8), .slice r2 (rows.length + 8) rcap2, .slice lo rows.length lcap] : Array Value).toList).rangeAt (w.heap.size + 1) 0 (#[.slice (some ⟨gc, 0, none⟩) cs.length (cs.length + 8), .slice none 0 0, .slice (some ⟨gc, 0, none⟩) (cs.length + 8) (cs.length + 8), .slice r2 (rows.length + 8) rcap2, .slice lo rows.length lcap] : Array Value).toList) := World.rangeAt_setCells_same _ _ _ _ HX1.out
                have HFI : Hid (Lent (w9.setCells (w.heap.size + 1) 0 (#[.slice (some ⟨gc, 0, none⟩) cs.length (cs.length + 8), .slice none 0 0, .slice (some ⟨gc, 0, none⟩) (cs.length + 8) (cs.length + 8), .slice r2 (rows.length + 8) rcap2, .slice lo rows.length lcap] : Array Value).toList) cs rows (.agg #[.slice (some ⟨gc, 0, none⟩) cs.length (cs.length + 8), .slice none 0 0, .slice (some ⟨gc, 0, none⟩) (cs.length + 8) (cs.length + 8), .slice r2 (rows.length + 8) rcap2, .slice lo rows.length lcap])) := HE.out _ _ (HLG9.out.same HS9.out.res (by decide) (by decide) (fun k hk => block_setCells hk _ _ _)) ((block_setCells (by omega) _ _ _).trans HBC9.out) (.inl ⟨rfl, HNIL.out⟩)
                refine wp_region_lit ?_
                refine wpList_load_mid rfl _ _ rfl (w.heap.size + 2) 0 rfl _ _ HX0.out Try.underlying57 rfl (by kernel_rfl) ?_
                refine wpList_store_mid rfl _ _ _ rfl (w.heap.size + 1) 0 (#[.slice (some ⟨gc, 0, none⟩) cs.length (cs.length + 8), .slice none 0 0, .slice (some ⟨gc, 0, none⟩) (cs.length + 8) (cs.length + 8), .slice r2 (rows.length + 8) rcap2, .slice lo rows.length lcap] : Array Value) rfl rfl HX1.out (by kernel_rfl) (by simp [Value.oneCell']) ?_
                go_wp2_with fail
                exact post_cell Try.results26 rfl rfl HX2.out Try.underlying57 rfl (by kernel_rfl) ⟨HBF.out, _, rfl, HFI.out⟩
              | some ra =>
                have hneq : ∀ W : World, (binOp .neq 50 (.slice (some ra) rows.length rcap) (.slice none 0 0)).run Try.prog W = .ok (.bool true) W := fun W => by
                  rw [run_neq_slice_nil (w := W) 50 30 _ _ _ Try.underlying50]; rfl
                have hci3 : (rows.length : Int) ≤ (rcap2 : Int) := by omega
                have xg1 := xf 1
                have hne2 : ¬ rcap2 = 0 := by omega
                go_upto_region 22 with fail
                have HS10 : Hid (LdSt w (w9.setCell ⟨w.heap.size + 2, 1, none⟩ (.slice r2 rows.length rcap2)) (.slice co cs.length ccap) (.slice (some ra) rows.length rcap) (.slice (some ⟨gc, 0, none⟩) cs.length (cs.length + 8)) (.slice r2 rows.length rcap2) (.slice (some ⟨gc, 0, none⟩) (cs.length + 8) (cs.length + 8)) (.slice r2 (rows.length + 8) rcap2) (.slice lo rows.length lcap)) := HS9.out.put 1 _ rfl
                have HLG10 : Hid (Lg w (w9.setCell ⟨w.heap.size + 2, 1, none⟩ (.slice r2 rows.length rcap2)) (.slice lo rows.length lcap) (.slice r2 (rows.length + 8) rcap2) PL GL) := HLG9.out.same HS9.out.box (by decide) (by decide) (fun k hk => by rw [heap_setCell_other _ _ _ _ (by simpa using hk)])
                have HBC10 : Hid ((w9.setCell ⟨w.heap.size + 2, 1, none⟩ (.slice r2 rows.length rcap2)).heap[gc]? = some (.cells (ccells (lentC cs 8)).toArray 104 (0, 0))) := by
                  show _ = _
                  rw [heap_setCell_other _ _ _ _ (by simp; omega)]
                  exact HBC9.out
                clear x0 x1 x2 x3 x4 xf xg1 t0 t1 HS9 HLG9 HBC9
                generalize w9.setCell ⟨w.heap.size + 2, 1, none⟩ (.slice r2 rows.length rcap2) = w10 at *
                have HX0 : Hid (w10.rangeAt (w.heap.size + 2) 0 (#[.slice (some ⟨gc, 0, none⟩) cs.length (cs.length + 8), .slice r2 rows.length rcap2, .slice (some ⟨gc, 0, none⟩) (cs.length + 8) (cs.length + 8), .slice r2 (rows.length + 8) rcap2, .slice lo rows.length lcap] : Array Value).toList) := row_range HS10.out.box
                have HX1 : Hid (w10.there (w.heap.size + 1) 0 (#[.slice (some ⟨gc, 0, none⟩) cs.length (cs.length + 8), .slice r2 rows.length rcap2, .slice (some ⟨gc, 0, none⟩) (cs.length + 8) (cs.length + 8), .slice r2 (rows.length + 8) rcap2, .slice lo rows.length lcap] : Array Value).size) := (show w10.there (w.heap.size + 1) 0 5 from row_there HS10.out.res)
                have HBF : Hid (Below w.heap.size w (w10.setCells (w.heap.size + 1) 0 (#[.slice (some ⟨gc, 0, none⟩) cs.length (cs.length + 8), .slice r2 rows.length rcap2, .slice (some ⟨gc, 0, none⟩) (cs.length + 8) (cs.length + 8), .slice r2 (rows.length + 8) rcap2, .slice lo rows.length lcap] : Array Value).toList)) := below_setCells (Nat.le_refl _) (by omega) _ _ _ HS10.out.bel
                have HX2 : Hid ((w10.setCells (w.heap.size + 1) 0 (#[.slice (some ⟨gc, 0, none⟩) cs.length (cs.length + 8), .slice r2 rows.length rcap2, .slice (some ⟨gc, 0, none⟩) (cs.length + 8) (cs.length + 8), .slice r2 (rows.length + 8) rcap2, .slice lo rows.length lcap] : Array Value).toList).rangeAt (w.heap.size + 1) 0 (#[.slice (some ⟨gc, 0, none⟩) cs.length (cs.length + 8), .slice r2 rows.length rcap2, .slice (some ⟨gc, 0, none⟩) (cs.length + 8) (cs.length + 8), .slice r2 (rows.length + 8) rcap2, .slice lo rows.length lcap] : Array Value).toList) := World.rangeAt_setCells_same _ _ _ _ HX1.out
                have HFI : Hid (Lent (w10.setCells (w.heap.size + 1) 0 (#[.slice (some ⟨gc, 0, none⟩) cs.length (cs.length + 8), .slice r2 rows.length rcap2, .slice (some ⟨gc, 0, none⟩) (cs.length + 8) (cs.length + 8), .slice r2 (rows.length + 8) rcap2, .slice lo rows.length lcap] : Array Value).toList) cs rows (.agg #[.slice (some ⟨gc, 0, none⟩) cs.length (cs.length + 8), .slice r2 rows.length rcap2, .slice (some ⟨gc, 0, none⟩) (cs.length + 8) (cs.length + 8), .slice r2 (rows.length + 8) rcap2, .slice lo rows.length lcap])) := HE.out _ _ (HLG10.out.same HS10.out.res (by decide) (by decide) (fun k hk => block_setCells hk _ _ _)) ((block_setCells (by omega) _ _ _).trans HBC10.out) (.inr rfl)
                refine wp_region_lit ?_
                refine wpList_load_mid rfl _ _ rfl (w.heap.size + 2) 0 rfl _ _ HX0.out Try.underlying57 rfl (by kernel_rfl) ?_
                refine wpList_store_mid rfl _ _ _ rfl (w.heap.size + 1) 0 (#[.slice (some ⟨gc, 0, none⟩) cs.length (cs.length + 8), .slice r2 rows.length rcap2, .slice (some ⟨gc, 0, none⟩) (cs.length + 8) (cs.length + 8), .slice r2 (rows.length + 8) rcap2, .slice lo rows.length lcap] : Array Value) rfl rfl HX1.out (by kernel_rfl) (by simp [Value.oneCell']) ?_
                go_wp2_with fail
                exact post_cell Try.results26 rfl rfl HX2.out Try.underlying57 rfl (by kernel_rfl) ⟨HBF.out, _, rfl, HFI.out⟩
end Go.Proofs.Ytjidbonhhpkljaa.Ec

/- Are columns, rows the same? -/
set_option linter.unusedVariables false
namespace Go.Proofs.Ytjidbonhhpkljaa.Ec
open Go.RowKit Go.Proofs.Ytjidbonhhpkljaa.Pk

def ceq (x y : Col) : Bool := (x.name.toList == y.name.toList) && (x.kind == y.kind)
theorem ceq_iff {x y : Col} : ceq x y = true ↔ x = y := by
  obtain ⟨a, b⟩ := x
  obtain ⟨c, d⟩ := y
  unfold ceq
  simp only [Bool.and_eq_true, beq_iff_eq, Col.mk.injEq]
  exact ⟨fun h => ⟨toList_inj h.1, h.2⟩, fun h => ⟨by rw [h.1], h.2⟩⟩
theorem run_neq_col (w : World) (x y : Col) : (binOp .neq 104 (.agg #[.string x.name, .int .i64 x.kind]) (.agg #[.string y.name, .int .i64 y.kind])).run Try.prog w = .ok (.bool (!ceq x y)) w := by
  go_simp
  unfold ceq
  by_cases h1 : x.name.toList = y.name.toList <;> by_cases h2 : x.kind = y.kind <;> simp [h1, h2]

set_option maxRecDepth 100000 in
set_option maxHeartbeats 2000000 in
theorem sameColumns_any (xs ys : List Col) (ao bo : Option Addr) (b off cap b2 off2 cap2 : Nat) (w : World) (hm : xs.length ≤ maxLen) (hm2 : ys.length ≤ maxLen)
    (h1 : CRow w ao b off xs) (h2 : CRow w bo b2 off2 ys) :
    Calls Try.prog 31 #[.slice ao xs.length cap, .slice bo ys.length cap2] w fun e w' => ∃ b, e = .returned (.bool b) ∧ (b = true ↔ xs = ys) ∧ ∃ n, w' = w.drewN n := by
  unfold maxLen at hm hm2
  by_cases hl : xs.length = ys.length
  · have hle : ((xs.length : Int) != (ys.length : Int)) = false := by simp [hl]
    have HL : Hid (xs.length = ys.length) := hl
    clear hl
    go_enter Try.func31, Try.ntmps31
    go_wp2_with fail
    clear hle
    go_loopw [5] (fun i wr => ∃ k : Nat, k ≤ xs.length ∧ i = .int .i64 k ∧ xs.take k = ys.take k ∧ ∃ n, wr = w.drewN n) (fun i _ => xs.length - (intOf i).toNat)
    case atStart => exact ⟨0, Nat.zero_le _, rfl, rfl, 0, rfl⟩
    case round =>
      obtain ⟨k, hk, rfl, htk, n, hwr⟩ := hrel
      have HT : Hid (xs.take k = ys.take k) := htk
      clear htk
      by_cases hlt : k < xs.length
      · have hlt2 : k < ys.length := by rw [← HL.out]; exact hlt
        obtain rfl := h1.addr (by omega)
        obtain rfl := h2.addr (by omega)
        have p0 : wr.cell? ⟨b, off + k * 2, none⟩ = some (.string xs[k].name) := by rw [hwr]; exact h1.c0 k hlt
        have p1 : wr.cell? ⟨b, off + k * 2 + 1, none⟩ = some (.int .i64 xs[k].kind) := by rw [hwr]; exact h1.c1 k hlt
        have q0 : wr.cell? ⟨b2, off2 + k * 2, none⟩ = some (.string ys[k].name) := by rw [hwr]; exact h2.c0 k hlt2
        have q1 : wr.cell? ⟨b2, off2 + k * 2 + 1, none⟩ = some (.int .i64 ys[k].kind) := by rw [hwr]; exact h2.c1 k hlt2
        have HW : Hid (wr = w.drewN n) := hwr
        have HN : Hid (xs[k] ≠ ys[k] → xs ≠ ys) := fun h e => h (by subst e; rfl)
        have HY : Hid (xs[k] = ys[k] → xs.take (k + 1) = ys.take (k + 1)) := fun h => by rw [List.take_succ_eq_append_getElem hlt, List.take_succ_eq_append_getElem hlt2, HT.out, h]
        have hq := fun w => run_neq_col w xs[k] ys[k]
        clear hwr h1 h2 HT
        generalize xs[k] = x at *
        generalize ys[k] = y at *
        by_cases hxy : x = y
        · have hb : ceq x y = true := ceq_iff.2 hxy
          have HY3 : Hid (xs.take (k + 1) = ys.take (k + 1)) := HY.out hxy
          rw [hb] at hq
          clear HY HN hxy hb
          go_wp2_with fail
          go_quiet (fail)
          go_wp2
          go_roundw
          case rel => exact ⟨k + 1, by omega, by go_num, HY3.out, n + nq, by rw [HW.out]; exact World.drewN_drewN _ _ _⟩
          case measure => simp [intOf]; omega
        · have hb : ceq x y = false := by rw [Bool.eq_false_iff]; intro h; exact hxy (ceq_iff.1 h)
          have HN2 : Hid (xs ≠ ys) := HN.out hxy
          rw [hb] at hq
          clear HY HN hxy hb
          go_wp2_with fail
          go_quiet (fail)
          go_wp2
          go_ret
          exact ⟨false, rfl, by simp only [Bool.false_eq_true, false_iff]; exact HN2.out, n + nq, by rw [HW.out]; exact World.drewN_drewN _ _ _⟩
      · have HE : Hid (xs = ys) := by
          have := HT.out
          rw [List.take_of_length_le (by omega), List.take_of_length_le (by have := HL.out; omega)] at this
          exact this
        have HW : Hid (wr = w.drewN n) := hwr
        clear hwr
        go_wp2
        go_ret
        exact ⟨true, rfl, by simp only [true_iff]; exact HE.out, n, HW.out⟩
  · have hle : ((xs.length : Int) != (ys.length : Int)) = true := by simp; omega
    have HN : Hid (xs ≠ ys) := fun e => hl (by rw [e])
    clear hl
    go_enter Try.func31, Try.ntmps31
    go_wp2
    go_ret
    exact ⟨false, rfl, by simp only [Bool.false_eq_true, false_iff]; exact HN.out, 0, rfl⟩
end Go.Proofs.Ytjidbonhhpkljaa.Ec

/- Are rows the same? -/
set_option linter.unusedVariables false
namespace Go.Proofs.Ytjidbonhhpkljaa.Ec
open Go.RowKit Go.Proofs.Ytjidbonhhpkljaa.Pk

theorem det_trueD {Q : Prop} {P : Program} {f : Nat} {args : Array Value} {w : World} (h : Calls P f args w fun e w' => ∃ b, e = .returned (.bool b) ∧ (b = true ↔ Q) ∧ ∃ n, w' = w.drewN n) (hq : Q) : Calls P f args w fun e w' => e = .returned (.bool true) ∧ ∃ n, w' = w.drewN n :=
  h.mono (by rintro e w' ⟨bb, rfl, hb, hR⟩; rw [hb.2 hq]; exact ⟨rfl, hR⟩)
theorem det_falseD {Q : Prop} {P : Program} {f : Nat} {args : Array Value} {w : World} (h : Calls P f args w fun e w' => ∃ b, e = .returned (.bool b) ∧ (b = true ↔ Q) ∧ ∃ n, w' = w.drewN n) (hq : ¬ Q) : Calls P f args w fun e w' => e = .returned (.bool false) ∧ ∃ n, w' = w.drewN n :=
  h.mono (by
    rintro e w' ⟨bb, rfl, hb, hR⟩
    cases bb
    · exact ⟨rfl, hR⟩
    · exact absurd (hb.1 rfl) hq)

set_option maxRecDepth 100000 in
set_option maxHeartbeats 2000000 in
theorem sameRows_any (xs ys : List (List Val)) (ao bo : Option Addr) (b off cap b2 off2 cap2 : Nat) (w : World) (hm : xs.length ≤ maxLen) (hm2 : ys.length ≤ maxLen) (hm3 : ∀ r ∈ xs, r.length ≤ maxLen) (hm4 : ∀ r ∈ ys, r.length ≤ maxLen)
    (h1 : RRow w ao b off xs) (h2 : RRow w bo b2 off2 ys) :
    Calls Try.prog 62 #[.slice ao xs.length cap, .slice bo ys.length cap2] w fun e w' => ∃ b, e = .returned (.bool b) ∧ (b = true ↔ xs = ys) ∧ ∃ n, w' = w.drewN n := by
  have HM3 : Hid (∀ r ∈ xs, r.length ≤ maxLen) := hm3
  have HM4 : Hid (∀ r ∈ ys, r.length ≤ maxLen) := hm4
  unfold maxLen at hm hm2
  clear hm3 hm4
  by_cases hl : xs.length = ys.length
  · have hle : ((xs.length : Int) != (ys.length : Int)) = false := by simp [hl]
    have HL : Hid (xs.length = ys.length) := hl
    clear hl
    go_enter Try.func62, Try.ntmps62
    go_wp2_with fail
    clear hle
    go_loopw [5] (fun i wr => ∃ k : Nat, k ≤ xs.length ∧ i = .int .i64 k ∧ xs.take k = ys.take k ∧ ∃ n, wr = w.drewN n) (fun i _ => xs.length - (intOf i).toNat)
    case atStart => exact ⟨0, Nat.zero_le _, rfl, rfl, 0, rfl⟩
    case round =>
      obtain ⟨k, hk, rfl, htk, n, hwr⟩ := hrel
      have HT : Hid (xs.take k = ys.take k) := htk
      clear htk
      by_cases hlt : k < xs.length
      · have hlt2 : k < ys.length := by rw [← HL.out]; exact hlt
        obtain rfl := h1.addr (by omega)
        obtain rfl := h2.addr (by omega)
        obtain ⟨v1, a1, c1⟩ := h1.c k hlt
        obtain ⟨v2, a2, c2⟩ := h2.c k hlt2
        have p0 : wr.cell? ⟨b, off + k, none⟩ = some v1 := by rw [hwr]; exact a1
        have q0 : wr.cell? ⟨b2, off2 + k, none⟩ = some v2 := by rw [hwr]; exact a2
        have HW : Hid (wr = w.drewN n) := hwr
        have HN : Hid (xs[k] ≠ ys[k] → xs ≠ ys) := fun h e => h (by subst e; rfl)
        have HY : Hid (xs[k] = ys[k] → xs.take (k + 1) = ys.take (k + 1)) := fun h => by rw [List.take_succ_eq_append_getElem hlt, List.take_succ_eq_append_getElem hlt2, HT.out, h]
        have hl1 := HM3.out xs[k] (List.getElem_mem hlt)
        have hl2 := HM4.out ys[k] (List.getElem_mem hlt2)
        have hkk : (k : Int) < (ys.length : Int) := by omega
        obtain ⟨vo, vb, voff, vcap, rfl, hv1⟩ := c1
        obtain ⟨uo, ub, uoff, ucap, rfl, hv2⟩ := c2
        have HSV : Hid (∀ m, Calls Try.prog 18 #[.slice vo xs[k].length vcap, .slice uo ys[k].length ucap] (wr.drewN m) fun e w' => ∃ b, e = .returned (.bool b) ∧ (b = true ↔ xs[k] = ys[k]) ∧ ∃ n, w' = (wr.drewN m).drewN n) := fun m => by
          have hb : Below w.heap.size w (wr.drewN m) := by rw [hwr]; exact below_drewN (below_drewN (Below.refl _ _) n) m
          exact sameValues_any xs[k] ys[k] vo uo vb voff vcap ub uoff ucap _ hl1 hl2 (hv1.below hb) (hv2.below hb)
        clear hwr h1 h2 HT a1 a2 hv1 hv2 hl1 hl2
        generalize xs[k] = x at *
        generalize ys[k] = y at *
        by_cases hxy : x = y
        · have HY3 : Hid (xs.take (k + 1) = ys.take (k + 1)) := HY.out hxy
          have HS2 : Hid (∀ m, Calls Try.prog 18 #[.slice vo x.length vcap, .slice uo y.length ucap] (wr.drewN m) fun e w' => e = .returned (.bool true) ∧ ∃ n, w' = (wr.drewN m).drewN n) := fun m => det_trueD (HSV.out m) hxy
          clear HY HN hxy HSV
          go_wp2_with fail
          go_quiet ((go_at_call 18; exact Calls.quiet_of (HS2.out _)))
          go_wp2
          go_roundw
          case rel => exact ⟨k + 1, by omega, by go_num, HY3.out, n + nq, by rw [HW.out]; exact World.drewN_drewN _ _ _⟩
          case measure => simp [intOf]; omega
        · have HN2 : Hid (xs ≠ ys) := HN.out hxy
          have HS2 : Hid (∀ m, Calls Try.prog 18 #[.slice vo x.length vcap, .slice uo y.length ucap] (wr.drewN m) fun e w' => e = .returned (.bool false) ∧ ∃ n, w' = (wr.drewN m).drewN n) := fun m => det_falseD (HSV.out m) hxy
          clear HY HN hxy HSV
          go_wp2_with fail
          go_quiet ((go_at_call 18; exact Calls.quiet_of (HS2.out _)))
          go_wp2
          go_ret
          exact ⟨false, rfl, by simp only [Bool.false_eq_true, false_iff]; exact HN2.out, n + nq, by rw [HW.out]; exact World.drewN_drewN _ _ _⟩
      · have HE : Hid (xs = ys) := by
          have := HT.out
          rw [List.take_of_length_le (by omega), List.take_of_length_le (by have := HL.out; omega)] at this
          exact this
        have HW : Hid (wr = w.drewN n) := hwr
        clear hwr
        go_wp2
        go_ret
        exact ⟨true, rfl, by simp only [true_iff]; exact HE.out, n, HW.out⟩
  · have hle : ((xs.length : Int) != (ys.length : Int)) = true := by simp; omega
    have HN : Hid (xs ≠ ys) := fun e => hl (by rw [e])
    clear hl
    go_enter Try.func62, Try.ntmps62
    go_wp2
    go_ret
    exact ⟨false, rfl, by simp only [Bool.false_eq_true, false_iff]; exact HN.out, 0, rfl⟩
end Go.Proofs.Ytjidbonhhpkljaa.Ec

/- Nothing that was lent is spoilt: the contract of unspoilt. -/
set_option linter.unusedVariables false
set_option linter.unusedSimpArgs false
namespace Go.Proofs.Ytjidbonhhpkljaa.Ec
open Go.RowKit Go.Proofs.Ytjidbonhhpkljaa.Pk Go.Proofs.Ytjidbonhhpkljaa.Pm

/-- Where unspoilt stands. -/
structure SpSt (w W : World) (C : Array Value) (cv rv : Value) : Prop where
  o : W.heap[w.heap.size]? = some (.cells C 57 (0, 0))
  t : W.heap[w.heap.size + 1]? = some (.cells #[cv, rv] 52 (0, 0))
  bel : Below w.heap.size w W
theorem SpSt.below {w W W1 : World} {C : Array Value} {cv rv : Value} (h : SpSt w W C cv rv) (hb : Below W.heap.size W W1) : SpSt w W1 C cv rv :=
  ⟨(hb.block _ (lt_of_block h.o)).trans h.o, (hb.block _ (lt_of_block h.t)).trans h.t, h.bel.trans (hb.mono h.bel.size)⟩

theorem lentC_bey (cs : List Col) (t : Nat) (ht : t < 8) (h : cs.length + t < (lentC cs 8).length) : (lentC cs 8)[cs.length + t] = beyC := by
  have h2 : (lentC cs 8)[cs.length + t]? = some beyC := by
    unfold lentC
    rw [List.getElem?_append_right (by omega), List.getElem?_append_left (by simp; omega), List.getElem?_replicate, if_pos (by omega)]
  exact (List.getElem?_eq_some_iff.1 h2).2
theorem rows_bey (rows : List (List Val)) (t : Nat) (ht : t < 8) (h : rows.length + t < (rows ++ List.replicate 8 [beyS]).length) : (rows ++ List.replicate 8 [beyS])[rows.length + t] = [beyS] := by
  rw [List.getElem_append_right (by omega), List.getElem_replicate]

set_option maxRecDepth 100000 in
set_option maxHeartbeats 8000000 in
theorem unspoilt_any (cs : List Col) (rows : List (List Val)) (o cv rv : Value) (w : World) (hz : cs.length * 24 ≤ 140737488351232) (hz2 : rows.length * 24 ≤ 140737488351232) (hz3 : ∀ r ∈ rows, r.length * 32 ≤ 140737488351232) (hl : Lent w cs rows o) (hcs : CSl w cv cs) (hrs : RSl w rv rows) :
    Calls Try.prog 28 #[o, .agg #[cv, rv]] w fun e w' => e = .returned (.bool true) ∧ Below w.heap.size w w' := by
  obtain ⟨co, cb, coff, ccap, rfl, hccap, hcr⟩ := hcs
  obtain ⟨ro, rb, roff, rcap, rfl, hrcap, hrr⟩ := hrs
  obtain ⟨c0, c1, gc, ro2, rb2, roff2, rcap2, lo, lb, loff, lcap, rfl, -, -, hC, hrc2, hR, hL⟩ := hl
  have HC : Hid (CRow w (some ⟨gc, 0, none⟩) gc 0 (lentC cs 8)) := hC
  have HR : Hid (RRow w ro2 rb2 roff2 (rows ++ List.replicate 8 [beyS])) := hR
  have HL : Hid (RRow w lo lb loff (rows.map fun r => lentV r 8)) := hL
  have HRR : Hid (RRow w ro rb roff rows) := hrr
  have HZ3 : Hid (∀ r ∈ rows, r.length * 32 ≤ 140737488351232) := hz3
  have HSC : Hid (∀ W, Below w.heap.size w W → Calls Try.prog 31 #[.slice (some ⟨gc, 0, none⟩) cs.length (cs.length + 8), .slice co cs.length ccap] W fun e w' => e = .returned (.bool true) ∧ Below W.heap.size W w') := fun W hW => by
    refine (sameColumns_any cs cs _ _ gc 0 _ cb coff _ W (by unfold maxLen; omega) (by unfold maxLen; omega) ((show CRow w _ gc 0 cs from by unfold lentC at hC; exact CRow.head hC).below hW) (hcr.below hW)).mono ?_
    rintro e w' ⟨b, rfl, hb, n, rfl⟩
    exact ⟨by rw [hb.2 rfl], below_drewN (Below.refl _ _) n⟩
  have HSR : Hid (∀ W, Below w.heap.size w W → Calls Try.prog 62 #[.slice ro2 rows.length rcap2, .slice ro rows.length rcap] W fun e w' => e = .returned (.bool true) ∧ Below W.heap.size W w') := fun W hW => by
    have hm : ∀ r ∈ rows, r.length ≤ maxLen := fun r hr => by have := hz3 r hr; unfold maxLen; omega
    refine (sameRows_any rows rows _ _ rb2 roff2 _ rb roff _ W (by unfold maxLen; omega) (by unfold maxLen; omega) hm hm ((RRow.head hR).below hW) (hrr.below hW)).mono ?_
    rintro e w' ⟨b, rfl, hb, n, rfl⟩
    exact ⟨by rw [hb.2 rfl], below_drewN (Below.refl _ _) n⟩
  clear hC hR hL hrr hz3 hcr
  go_enter Try.func28, Try.ntmps28
  go_upto_region 1 with fail
  have HS0 : Hid (SpSt w ((w.alloc (.cells #[c0, c1, .slice (some ⟨gc, 0, none⟩) (cs.length + 8) (cs.length + 8), .slice ro2 (rows.length + 8) rcap2, .slice lo rows.length lcap] 57)).alloc (.cells #[.slice co cs.length ccap, .slice ro rows.length rcap] 52)) #[c0, c1, .slice (some ⟨gc, 0, none⟩) (cs.length + 8) (cs.length + 8), .slice ro2 (rows.length + 8) rcap2, .slice lo rows.length lcap] (.slice co cs.length ccap) (.slice ro rows.length rcap)) :=
    ⟨alloc_old _ (by simp) (alloc_at w _), alloc_at2 w _ _, below_box2 _ _⟩
  generalize (w.alloc (.cells #[c0, c1, .slice (some ⟨gc, 0, none⟩) (cs.length + 8) (cs.length + 8), .slice ro2 (rows.length + 8) rcap2, .slice lo rows.length lcap] 57)).alloc (.cells #[.slice co cs.length ccap, .slice ro rows.length rcap] 52) = W0 at *
  obtain ⟨⟨x0, x1, x2, x3, x4⟩, -⟩ := five_of HS0.out.o
  obtain ⟨t0, t1⟩ := two_of HS0.out.t
  have hci : (cs.length : Int) ≤ 5864062014634 := by omega
  have hcc : (cs.length : Int) ≤ (cs.length : Int) + 8 := by omega
  have hrc : (rows.length : Int) ≤ (rcap2 : Int) := by omega
  have hcn : ¬ rcap2 = 0 := by omega
  go_upto_region 2 with fail
  refine Un.begin_ (fun W => W.cell? ⟨w.heap.size, 2, none⟩ = some (.slice (some ⟨gc, 0, none⟩) (cs.length + 8) (cs.length + 8)) ∧ W.cell? ⟨w.heap.size + 1, 0, none⟩ = some (.slice co cs.length ccap)) 7 (by kernel_rfl) ?_
  have hHeld : (fun W => W.cell? ⟨w.heap.size, 2, none⟩ = some (.slice (some ⟨gc, 0, none⟩) (cs.length + 8) (cs.length + 8)) ∧ W.cell? ⟨w.heap.size + 1, 0, none⟩ = some (.slice co cs.length ccap)) W0.drew := by go_keep
  refine Un.pick (i := 0) (v := ?_) rfl (by kernel_rfl) (by kernel_rfl) (by kernel_rfl) (by kernel_rfl) (fun _ _ _ h => h) (Or.inl ⟨by rfl, ?_⟩) (by assumption) ?_
  rotate_left
  · intro w _; go_simp
    try with_reducible rfl
  try simp only [Act.put, List.setIfInBounds_toArray, List.set_cons_zero, List.set_cons_succ]
  refine Un.take (i := 1) (v := ?_) rfl (by kernel_rfl) (by kernel_rfl) (by kernel_rfl) (by kernel_rfl) (by kernel_rfl) (by kernel_rfl) (fun _ _ _ h => h) (Or.inl ⟨by rfl, ?_⟩) (by assumption) ?_
  rotate_left
  · intro w hSw; (try dsimp only at hSw); go_simp
    try with_reducible rfl
  try simp only [Act.put, List.setIfInBounds_toArray, List.set_cons_zero, List.set_cons_succ]
  refine Un.pick (i := 2) (v := ?_) rfl (by kernel_rfl) (by kernel_rfl) (by kernel_rfl) (by kernel_rfl) (fun _ _ _ h => h) (Or.inl ⟨by rfl, ?_⟩) (by assumption) ?_
  rotate_left
  · intro w _; go_simp
    try with_reducible rfl
  try simp only [Act.put, List.setIfInBounds_toArray, List.set_cons_zero, List.set_cons_succ]
  refine Un.pick (i := 3) (v := ?_) rfl (by kernel_rfl) (by kernel_rfl) (by kernel_rfl) (by kernel_rfl) (fun _ _ _ h => h) (Or.inl ⟨by rfl, ?_⟩) (by assumption) ?_
  rotate_left
  · intro w _; go_simp
    try with_reducible rfl
  try simp only [Act.put, List.setIfInBounds_toArray, List.set_cons_zero, List.set_cons_succ]
  refine Un.pick (i := 4) (v := ?_) rfl (by kernel_rfl) (by kernel_rfl) (by kernel_rfl) (by kernel_rfl) (fun _ _ _ h => h) (Or.inl ⟨by rfl, ?_⟩) (by assumption) ?_
  rotate_left
  · intro w _; go_simp
    try with_reducible rfl
  try simp only [Act.put, List.setIfInBounds_toArray, List.set_cons_zero, List.set_cons_succ]
  refine Un.take (i := 5) (v := ?_) rfl (by kernel_rfl) (by kernel_rfl) (by kernel_rfl) (by kernel_rfl) (by kernel_rfl) (by kernel_rfl) (fun _ _ _ h => h) (Or.inl ⟨by rfl, ?_⟩) (by assumption) ?_
  rotate_left
  · intro w hSw; (try dsimp only at hSw); go_simp
    try with_reducible rfl
  try simp only [Act.put, List.setIfInBounds_toArray, List.set_cons_zero, List.set_cons_succ]
  refine Un.one (i := 6) (by kernel_rfl) rfl (fun K hK => ?_)
  rw [if_pos (by rfl)]
  go_simp
  go_at_call 31
  refine (HSC.out _ HS0.out.bel.drew).mono ?_
  rintro e w1 ⟨rfl, hb1⟩
  have HS1 : Hid (SpSt w w1 #[c0, c1, .slice (some ⟨gc, 0, none⟩) (cs.length + 8) (cs.length + 8), .slice ro2 (rows.length + 8) rcap2, .slice lo rows.length lcap] (.slice co cs.length ccap) (.slice ro rows.length rcap)) := (HS0.out.below (Below.refl _ W0).drew).below hb1
  clear x0 x1 x2 x3 x4 t0 t1
  obtain ⟨⟨x0, x1, x2, x3, x4⟩, -⟩ := five_of HS1.out.o
  obtain ⟨t0, t1⟩ := two_of HS1.out.t
  refine hK.out _ _ (fun _ => ⟨x2, t0⟩) ?_
  clear hK K hHeld hb1 HS0
  have hHeld : (fun W => W.cell? ⟨w.heap.size, 2, none⟩ = some (.slice (some ⟨gc, 0, none⟩) (cs.length + 8) (cs.length + 8)) ∧ W.cell? ⟨w.heap.size + 1, 0, none⟩ = some (.slice co cs.length ccap)) w1 := ⟨x2, t0⟩
  refine Un.one (i := 7) (by kernel_rfl) rfl (fun K hK => ?_)
  rw [if_pos (by rfl)]
  go_simp
  refine hK.out _ _ (fun h => absurd h (by decide)) ?_
  clear hK K
  try simp only [Act.put, List.setIfInBounds_toArray, List.set_cons_zero, List.set_cons_succ]
  refine Un.done (by kernel_rfl) ?_ _
  clear hHeld
  go_upto_region 3 with fail
  refine Un.begin_ (fun W => W.cell? ⟨w.heap.size, 3, none⟩ = some (.slice ro2 (rows.length + 8) rcap2) ∧ W.cell? ⟨w.heap.size + 1, 1, none⟩ = some (.slice ro rows.length rcap)) 9 (by kernel_rfl) ?_
  have hHeld : (fun W => W.cell? ⟨w.heap.size, 3, none⟩ = some (.slice ro2 (rows.length + 8) rcap2) ∧ W.cell? ⟨w.heap.size + 1, 1, none⟩ = some (.slice ro rows.length rcap)) w1.drew := by go_keep
  refine Un.pick (i := 0) (v := ?_) rfl (by kernel_rfl) (by kernel_rfl) (by kernel_rfl) (by kernel_rfl) (fun _ _ _ h => h) (Or.inl ⟨by rfl, ?_⟩) (by assumption) ?_
  rotate_left
  · intro w _; go_simp
    try with_reducible rfl
  try simp only [Act.put, List.setIfInBounds_toArray, List.set_cons_zero, List.set_cons_succ]
  refine Un.take (i := 1) (v := ?_) rfl (by kernel_rfl) (by kernel_rfl) (by kernel_rfl) (by kernel_rfl) (by kernel_rfl) (by kernel_rfl) (fun _ _ _ h => h) (Or.inl ⟨by rfl, ?_⟩) (by assumption) ?_
  rotate_left
  · intro w hSw; (try dsimp only at hSw); go_simp
    try with_reducible rfl
  try simp only [Act.put, List.setIfInBounds_toArray, List.set_cons_zero, List.set_cons_succ]
  refine Un.pick (i := 2) (v := ?_) rfl (by kernel_rfl) (by kernel_rfl) (by kernel_rfl) (by kernel_rfl) (fun _ _ _ h => h) (Or.inl ⟨by rfl, ?_⟩) (by assumption) ?_
  rotate_left
  · intro w _; go_simp
    try with_reducible rfl
  try simp only [Act.put, List.setIfInBounds_toArray, List.set_cons_zero, List.set_cons_succ]
  refine Un.take (i := 3) (v := ?_) rfl (by kernel_rfl) (by kernel_rfl) (by kernel_rfl) (by kernel_rfl) (by kernel_rfl) (by kernel_rfl) (fun _ _ _ h => h) (Or.inl ⟨by rfl, ?_⟩) (by assumption) ?_
  rotate_left
  · intro w hSw; (try dsimp only at hSw); go_simp
    try with_reducible rfl
  try simp only [Act.put, List.setIfInBounds_toArray, List.set_cons_zero, List.set_cons_succ]
  refine Un.pick (i := 4) (v := ?_) rfl (by kernel_rfl) (by kernel_rfl) (by kernel_rfl) (by kernel_rfl) (fun _ _ _ h => h) (Or.inl ⟨by rfl, ?_⟩) (by assumption) ?_
  rotate_left
  · intro w _; go_simp
    try with_reducible rfl
  try simp only [Act.put, List.setIfInBounds_toArray, List.set_cons_zero, List.set_cons_succ]
  refine Un.pick (i := 5) (v := ?_) rfl (by kernel_rfl) (by kernel_rfl) (by kernel_rfl) (by kernel_rfl) (fun _ _ _ h => h) (Or.inl ⟨by rfl, ?_⟩) (by assumption) ?_
  rotate_left
  · intro w _; go_simp
    try with_reducible rfl
  try simp only [Act.put, List.setIfInBounds_toArray, List.set_cons_zero, List.set_cons_succ]
  refine Un.pick (i := 6) (v := ?_) rfl (by kernel_rfl) (by kernel_rfl) (by kernel_rfl) (by kernel_rfl) (fun _ _ _ h => h) (Or.inl ⟨by rfl, ?_⟩) (by assumption) ?_
  rotate_left
  · intro w _; go_simp
    try with_reducible rfl
  try simp only [Act.put, List.setIfInBounds_toArray, List.set_cons_zero, List.set_cons_succ]
  refine Un.take (i := 7) (v := ?_) rfl (by kernel_rfl) (by kernel_rfl) (by kernel_rfl) (by kernel_rfl) (by kernel_rfl) (by kernel_rfl) (fun _ _ _ h => h) (Or.inl ⟨by rfl, ?_⟩) (by assumption) ?_
  rotate_left
  · intro w hSw; (try dsimp only at hSw); go_simp
    try with_reducible rfl
  try simp only [Act.put, List.setIfInBounds_toArray, List.set_cons_zero, List.set_cons_succ]
  refine Un.one (i := 8) (by kernel_rfl) rfl (fun K hK => ?_)
  rw [if_pos (by rfl)]
  go_simp
  go_at_call 62
  refine (HSR.out _ HS1.out.bel.drew).mono ?_
  rintro e w2 ⟨rfl, hb1⟩
  have HS2 : Hid (SpSt w w2 #[c0, c1, .slice (some ⟨gc, 0, none⟩) (cs.length + 8) (cs.length + 8), .slice ro2 (rows.length + 8) rcap2, .slice lo rows.length lcap] (.slice co cs.length ccap) (.slice ro rows.length rcap)) := (HS1.out.below (Below.refl _ w1).drew).below hb1
  clear x0 x1 x2 x3 x4 t0 t1
  obtain ⟨⟨x0, x1, x2, x3, x4⟩, -⟩ := five_of HS2.out.o
  obtain ⟨t0, t1⟩ := two_of HS2.out.t
  refine hK.out _ _ (fun _ => ⟨x3, t1⟩) ?_
  clear hK K hHeld hb1 HS1
  have hHeld : (fun W => W.cell? ⟨w.heap.size, 3, none⟩ = some (.slice ro2 (rows.length + 8) rcap2) ∧ W.cell? ⟨w.heap.size + 1, 1, none⟩ = some (.slice ro rows.length rcap)) w2 := ⟨x3, t1⟩
  refine Un.one (i := 9) (by kernel_rfl) rfl (fun K hK => ?_)
  rw [if_pos (by rfl)]
  go_simp
  refine hK.out _ _ (fun h => absurd h (by decide)) ?_
  clear hK K
  try simp only [Act.put, List.setIfInBounds_toArray, List.set_cons_zero, List.set_cons_succ]
  refine Un.done (by kernel_rfl) ?_ _
  clear hHeld HSC HSR x0 x1 x2 x3 x4 t0 t1
  go_wp2_with fail
  go_loopw [8] (fun i wr => ∃ t : Nat, t ≤ 8 ∧ i = .int .i64 (t : Int) ∧ SpSt w wr #[c0, c1, .slice (some ⟨gc, 0, none⟩) (cs.length + 8) (cs.length + 8), .slice ro2 (rows.length + 8) rcap2, .slice lo rows.length lcap] (.slice co cs.length ccap) (.slice ro rows.length rcap)) (fun i _ => 8 - (intOf i).toNat)
  case atStart => exact ⟨0, Nat.zero_le _, rfl, HS2.out⟩
  case round =>
    clear HS2
    obtain ⟨t, ht, rfl, hS⟩ := hrel
    have HS : Hid (SpSt w wr #[c0, c1, .slice (some ⟨gc, 0, none⟩) (cs.length + 8) (cs.length + 8), .slice ro2 (rows.length + 8) rcap2, .slice lo rows.length lcap] (.slice co cs.length ccap) (.slice ro rows.length rcap)) := hS
    obtain ⟨⟨x0, x1, x2, x3, x4⟩, -⟩ := five_of hS.o
    obtain ⟨t0, t1⟩ := two_of hS.t
    by_cases h8 : t < 8
    · have hlr : rows.length + t < (rows ++ List.replicate 8 [beyS]).length := by simp; omega
      have hlc : cs.length + t < (lentC cs 8).length := by rw [lentC_length _ _ (Nat.le_refl _)]; omega
      obtain rfl := HR.out.addr (by omega)
      obtain ⟨v, hv, hvs⟩ := HR.out.c (rows.length + t) hlr
      rw [rows_bey rows t h8 hlr] at hvs
      have hcn := HC.out.c0 (cs.length + t) hlc
      rw [lentC_bey cs t h8 hlc, Nat.zero_add] at hcn
      have hcn1 : wr.cell? ⟨gc, (cs.length + t) * 2, none⟩ = some (.string ⟨#[98, 101, 121, 111, 110, 100]⟩) := (hS.bel.cell (p := ⟨gc, (cs.length + t) * 2, none⟩) (HC.out.lt (by omega))).trans hcn
      have HG : Hid (gc < w.heap.size) := HC.out.lt (by omega)
      have hv1 : wr.cell? ⟨rb2, roff2 + (rows.length + t), none⟩ = some v := (hS.bel.cell (p := ⟨rb2, roff2 + (rows.length + t), none⟩) (HR.out.lt (by omega))).trans hv
      obtain ⟨vo, vb, voff, vcap, rfl, hvr⟩ := hvs.below hS.bel
      have hbA : Below wr.heap.size wr (wr.alloc (.cells #[.bool false, .int .i64 0, .string ⟨#[98, 101, 121, 111, 110, 100]⟩] 39)) := (Below.refl _ _).alloc (Nat.le_refl _) _
      have HSB : Hid (Calls Try.prog 18 #[.slice vo 1 vcap, .slice (some ⟨wr.heap.size, 0, none⟩) 1 1] (wr.alloc (.cells #[.bool false, .int .i64 0, .string ⟨#[98, 101, 121, 111, 110, 100]⟩] 39)) fun e w' => e = .returned (.bool true) ∧ Below wr.heap.size wr w') := by
        obtain ⟨ao, b, off, cap, he, hr⟩ := VSl.of_owns (l := [beyS]) (vowns_of_block (base := 0) (n := 1) (xs := vcells [beyS]) (alloc_at wr (.cells #[.bool false, .int .i64 0, .string ⟨#[98, 101, 121, 111, 110, 100]⟩] 39)) rfl (Nat.zero_le _) (by decide))
        simp only [Value.slice.injEq] at he
        obtain ⟨rfl, -, rfl⟩ := he
        refine (sameValues_any [beyS] [beyS] _ _ vb voff _ b off _ _ (by decide) (by decide) (hvr.below hbA) hr).mono ?_
        rintro e w' ⟨b, rfl, hb, n, rfl⟩
        exact ⟨by rw [hb.2 rfl], below_drewN hbA n⟩
      clear hbA hvr hv hcn hS
      go_upto_region 10 with (go_at_call 18; refine HSB.out.mono ?_; rintro e w3 ⟨rfl, hb3⟩)
      have HS3 : Hid (SpSt w w3 #[c0, c1, .slice (some ⟨gc, 0, none⟩) (cs.length + 8) (cs.length + 8), .slice (some ⟨rb2, roff2, none⟩) (rows.length + 8) rcap2, .slice lo rows.length lcap] (.slice co cs.length ccap) (.slice ro rows.length rcap)) := HS.out.below hb3
      have hcn2 : w3.cell? ⟨gc, (cs.length + t) * 2, none⟩ = some (.string ⟨#[98, 101, 121, 111, 110, 100]⟩) := (hb3.cell (p := ⟨gc, (cs.length + t) * 2, none⟩) (Nat.lt_of_lt_of_le HG.out HS.out.bel.size)).trans hcn1
      clear x0 x1 x2 x3 x4 t0 t1 hcn1 hv1 hb3
      obtain ⟨⟨x0, x1, x2, x3, x4⟩, -⟩ := five_of HS3.out.o
      go_wp2_with fail
      go_roundw
      case rel => exact ⟨t + 1, by omega, by go_num, HS3.out⟩
      case measure => simp [intOf]; omega
    · clear x0 x1 x2 x3 x4 t0 t1 hS
      go_wp2_with fail
      go_loopw [10] (fun i wx => ∃ k : Nat, k ≤ rows.length ∧ i = .int .i64 (k : Int) ∧ SpSt w wx #[c0, c1, .slice (some ⟨gc, 0, none⟩) (cs.length + 8) (cs.length + 8), .slice ro2 (rows.length + 8) rcap2, .slice lo rows.length lcap] (.slice co cs.length ccap) (.slice ro rows.length rcap)) (fun i _ => rows.length - (intOf i).toNat)
      case atStart => exact ⟨0, Nat.zero_le _, rfl, HS.out⟩
      case round =>
        rename World => wx
        clear HS
        obtain ⟨k, hk, rfl, hS⟩ := hrel
        have HS : Hid (SpSt w wx #[c0, c1, .slice (some ⟨gc, 0, none⟩) (cs.length + 8) (cs.length + 8), .slice ro2 (rows.length + 8) rcap2, .slice lo rows.length lcap] (.slice co cs.length ccap) (.slice ro rows.length rcap)) := hS
        obtain ⟨⟨-, -, -, -, x4⟩, -⟩ := five_of hS.o
        obtain ⟨t0, t1⟩ := two_of hS.t
        by_cases hlt : k < rows.length
        · have hki : (k : Int) < (rows.length : Int) := by omega
          have hlm : k < (rows.map fun r => lentV r 8).length := by simpa using hlt
          obtain rfl := HRR.out.addr (by omega)
          obtain rfl := HL.out.addr (by omega)
          obtain ⟨v, hv, hvs⟩ := HL.out.c k hlm
          obtain ⟨u, hu, hus⟩ := HRR.out.c k hlt
          rw [List.getElem_map] at hvs
          have HLB : Hid (lb < w.heap.size) := HL.out.lt (by omega)
          have HRB : Hid (rb < w.heap.size) := HRR.out.lt (by omega)
          have hr3 := HZ3.out _ (List.getElem_mem hlt)
          have HLV : Hid (∀ W, Below w.heap.size w W → Calls Try.prog 16 #[u] W fun e w' => ∃ g, e = .returned (.slice (some ⟨g, 0, none⟩) (rows[k].length + 8) (rows[k].length + 8)) ∧ Below W.heap.size W w' ∧ VSl w' (.slice (some ⟨g, 0, none⟩) (rows[k].length + 8) (rows[k].length + 8)) (lentV rows[k] 8)) := fun W hW =>
            (lentValues_any u rows[k] W (HZ3.out _ (List.getElem_mem hlt)) (hus.below hW)).mono (fun e w' ⟨g, h1, h2, h3⟩ => ⟨g, h1, h3, VSl.of_owns (base := W.heap.size) (by rw [lentV_length _ _ (Nat.le_refl _)]; exact h2)⟩)
          have HSV : Hid (∀ W g, Below w.heap.size w W → VSl W (.slice (some ⟨g, 0, none⟩) (rows[k].length + 8) (rows[k].length + 8)) (lentV rows[k] 8) → Calls Try.prog 18 #[v, .slice (some ⟨g, 0, none⟩) (rows[k].length + 8) (rows[k].length + 8)] W fun e w' => e = .returned (.bool true) ∧ Below W.heap.size W w') := fun W g hW h2 => by
            have hll := lentV_length rows[k] 8 (Nat.le_refl _)
            obtain ⟨ao, b, off, cap, rfl, hr⟩ := hvs.below hW
            obtain ⟨ao2, b2, off2, cap2, he, hr2⟩ := h2
            simp only [Value.slice.injEq] at he
            obtain ⟨rfl, he2, rfl⟩ := he
            have := sameValues_any (lentV rows[k] 8) (lentV rows[k] 8) ao _ b off cap b2 off2 (rows[k].length + 8) W (by unfold maxLen; omega) (by unfold maxLen; omega) hr hr2
            rw [hll] at this ⊢
            refine this.mono ?_
            rintro e w' ⟨b, rfl, hb, n, rfl⟩
            exact ⟨by rw [hb.2 rfl], below_drewN (Below.refl _ _) n⟩
          have HV : Hid (w.cell? ⟨lb, loff + k, none⟩ = some v) := hv
          have HU : Hid (w.cell? ⟨rb, roff + k, none⟩ = some u) := hu
          obtain ⟨vo, vb, voff, vcap, rfl, -⟩ := hvs
          obtain ⟨uo, ub, uoff, ucap, rfl, -⟩ := hus
          rw [lentV_length _ _ (Nat.le_refl _)] at *
          generalize rows[k] = row at *
          have HK : Hid (∀ W, SpSt w W #[c0, c1, .slice (some ⟨gc, 0, none⟩) (cs.length + 8) (cs.length + 8), .slice ro2 (rows.length + 8) rcap2, .slice (some ⟨lb, loff, none⟩) rows.length lcap] (.slice co cs.length ccap) (.slice (some ⟨rb, roff, none⟩) rows.length rcap) → (fun W => W.cell? ⟨w.heap.size, 4, none⟩ = some (.slice (some ⟨lb, loff, none⟩) rows.length lcap) ∧ W.cell? ⟨lb, loff + k, none⟩ = some (.slice vo (row.length + 8) vcap) ∧ W.cell? ⟨w.heap.size + 1, 1, none⟩ = some (.slice (some ⟨rb, roff, none⟩) rows.length rcap) ∧ W.cell? ⟨rb, roff + k, none⟩ = some (.slice uo row.length ucap)) W) := fun W h => by
            obtain ⟨⟨-, -, -, -, x4⟩, -⟩ := five_of h.o
            obtain ⟨t0, t1⟩ := two_of h.t
            exact ⟨x4, (h.bel.cell (p := ⟨lb, loff + k, none⟩) HLB.out).trans HV.out, t1, (h.bel.cell (p := ⟨rb, roff + k, none⟩) HRB.out).trans HU.out⟩
          clear hS hv hu hlm
          go_upto_region 15 with fail
          clear x4 t0 t1
          refine Un.begin_ (fun W => W.cell? ⟨w.heap.size, 4, none⟩ = some (.slice (some ⟨lb, loff, none⟩) rows.length lcap) ∧ W.cell? ⟨lb, loff + k, none⟩ = some (.slice vo (row.length + 8) vcap) ∧ W.cell? ⟨w.heap.size + 1, 1, none⟩ = some (.slice (some ⟨rb, roff, none⟩) rows.length rcap) ∧ W.cell? ⟨rb, roff + k, none⟩ = some (.slice uo row.length ucap)) 12 (by kernel_rfl) ?_
          have HS1 : Hid (SpSt w wx.drew #[c0, c1, .slice (some ⟨gc, 0, none⟩) (cs.length + 8) (cs.length + 8), .slice ro2 (rows.length + 8) rcap2, .slice (some ⟨lb, loff, none⟩) rows.length lcap] (.slice co cs.length ccap) (.slice (some ⟨rb, roff, none⟩) rows.length rcap)) := HS.out.below (Below.refl _ wx).drew
          have hHeld : (fun W => W.cell? ⟨w.heap.size, 4, none⟩ = some (.slice (some ⟨lb, loff, none⟩) rows.length lcap) ∧ W.cell? ⟨lb, loff + k, none⟩ = some (.slice vo (row.length + 8) vcap) ∧ W.cell? ⟨w.heap.size + 1, 1, none⟩ = some (.slice (some ⟨rb, roff, none⟩) rows.length rcap) ∧ W.cell? ⟨rb, roff + k, none⟩ = some (.slice uo row.length ucap)) wx.drew := HK.out _ HS1.out
          refine Un.pick (i := 0) (v := ?_) rfl (by kernel_rfl) (by kernel_rfl) (by kernel_rfl) (by kernel_rfl) (fun _ _ _ h => h) (Or.inl ⟨by rfl, ?_⟩) (by assumption) ?_
          rotate_left
          · intro w _; go_simp
            try with_reducible rfl
          try simp only [Act.put, List.setIfInBounds_toArray, List.set_cons_zero, List.set_cons_succ]
          refine Un.take (i := 1) (v := ?_) rfl (by kernel_rfl) (by kernel_rfl) (by kernel_rfl) (by kernel_rfl) (by kernel_rfl) (by kernel_rfl) (fun _ _ _ h => h) (Or.inl ⟨by rfl, ?_⟩) (by assumption) ?_
          rotate_left
          · intro w hSw; (try dsimp only at hSw); go_simp
            try with_reducible rfl
          try simp only [Act.put, List.setIfInBounds_toArray, List.set_cons_zero, List.set_cons_succ]
          refine Un.pick (i := 2) (v := ?_) rfl (by kernel_rfl) (by kernel_rfl) (by kernel_rfl) (by kernel_rfl) (fun _ _ _ h => h) (Or.inl ⟨by rfl, ?_⟩) (by assumption) ?_
          rotate_left
          · intro w _; go_simp
            try with_reducible rfl
          try simp only [Act.put, List.setIfInBounds_toArray, List.set_cons_zero, List.set_cons_succ]
          refine Un.pick (i := 3) (v := ?_) rfl (by kernel_rfl) (by kernel_rfl) (by kernel_rfl) (by kernel_rfl) (fun _ _ _ h => h) (Or.inl ⟨by rfl, ?_⟩) (by assumption) ?_
          rotate_left
          · intro w _; go_simp
            try with_reducible rfl
          try simp only [Act.put, List.setIfInBounds_toArray, List.set_cons_zero, List.set_cons_succ]
          refine Un.take (i := 4) (v := ?_) rfl (by kernel_rfl) (by kernel_rfl) (by kernel_rfl) (by kernel_rfl) (by kernel_rfl) (by kernel_rfl) (fun _ _ _ h => h) (Or.inl ⟨by rfl, ?_⟩) (by assumption) ?_
          rotate_left
          · intro w hSw; (try dsimp only at hSw); go_simp
            try with_reducible rfl
          try simp only [Act.put, List.setIfInBounds_toArray, List.set_cons_zero, List.set_cons_succ]
          refine Un.pick (i := 5) (v := ?_) rfl (by kernel_rfl) (by kernel_rfl) (by kernel_rfl) (by kernel_rfl) (fun _ _ _ h => h) (Or.inl ⟨by rfl, ?_⟩) (by assumption) ?_
          rotate_left
          · intro w _; go_simp
            try with_reducible rfl
          try simp only [Act.put, List.setIfInBounds_toArray, List.set_cons_zero, List.set_cons_succ]
          refine Un.take (i := 6) (v := ?_) rfl (by kernel_rfl) (by kernel_rfl) (by kernel_rfl) (by kernel_rfl) (by kernel_rfl) (by kernel_rfl) (fun _ _ _ h => h) (Or.inl ⟨by rfl, ?_⟩) (by assumption) ?_
          rotate_left
          · intro w hSw; (try dsimp only at hSw); go_simp
            try with_reducible rfl
          try simp only [Act.put, List.setIfInBounds_toArray, List.set_cons_zero, List.set_cons_succ]
          refine Un.pick (i := 7) (v := ?_) rfl (by kernel_rfl) (by kernel_rfl) (by kernel_rfl) (by kernel_rfl) (fun _ _ _ h => h) (Or.inl ⟨by rfl, ?_⟩) (by assumption) ?_
          rotate_left
          · intro w _; go_simp
            try with_reducible rfl
          try simp only [Act.put, List.setIfInBounds_toArray, List.set_cons_zero, List.set_cons_succ]
          refine Un.pick (i := 8) (v := ?_) rfl (by kernel_rfl) (by kernel_rfl) (by kernel_rfl) (by kernel_rfl) (fun _ _ _ h => h) (Or.inl ⟨by rfl, ?_⟩) (by assumption) ?_
          rotate_left
          · intro w _; go_simp
            try with_reducible rfl
          try simp only [Act.put, List.setIfInBounds_toArray, List.set_cons_zero, List.set_cons_succ]
          refine Un.take (i := 9) (v := ?_) rfl (by kernel_rfl) (by kernel_rfl) (by kernel_rfl) (by kernel_rfl) (by kernel_rfl) (by kernel_rfl) (fun _ _ _ h => h) (Or.inl ⟨by rfl, ?_⟩) (by assumption) ?_
          rotate_left
          · intro w hSw; (try dsimp only at hSw); go_simp
            try with_reducible rfl
          try simp only [Act.put, List.setIfInBounds_toArray, List.set_cons_zero, List.set_cons_succ]
          refine Un.one (i := 10) (by kernel_rfl) rfl (fun K hK => ?_)
          rw [if_pos (by rfl)]
          go_simp
          go_at_call 16
          refine (HLV.out _ HS1.out.bel).mono ?_
          rintro e w2 ⟨g, rfl, hb2, h2⟩
          have HS2 : Hid (SpSt w w2 #[c0, c1, .slice (some ⟨gc, 0, none⟩) (cs.length + 8) (cs.length + 8), .slice ro2 (rows.length + 8) rcap2, .slice (some ⟨lb, loff, none⟩) rows.length lcap] (.slice co cs.length ccap) (.slice (some ⟨rb, roff, none⟩) rows.length rcap)) := HS1.out.below hb2
          have HV2 : Hid (VSl w2 (.slice (some ⟨g, 0, none⟩) (row.length + 8) (row.length + 8)) (lentV row 8)) := h2
          refine hK.out _ _ (fun _ => HK.out _ HS2.out) ?_
          clear hK K hHeld hb2 h2
          have hHeld : (fun W => W.cell? ⟨w.heap.size, 4, none⟩ = some (.slice (some ⟨lb, loff, none⟩) rows.length lcap) ∧ W.cell? ⟨lb, loff + k, none⟩ = some (.slice vo (row.length + 8) vcap) ∧ W.cell? ⟨w.heap.size + 1, 1, none⟩ = some (.slice (some ⟨rb, roff, none⟩) rows.length rcap) ∧ W.cell? ⟨rb, roff + k, none⟩ = some (.slice uo row.length ucap)) w2 := HK.out _ HS2.out
          refine Un.one (i := 11) (by kernel_rfl) rfl (fun K hK => ?_)
          rw [if_pos (by rfl)]
          go_simp
          go_at_call 18
          refine (HSV.out _ g HS2.out.bel HV2.out).mono ?_
          rintro e w3 ⟨rfl, hb3⟩
          have HS3 : Hid (SpSt w w3 #[c0, c1, .slice (some ⟨gc, 0, none⟩) (cs.length + 8) (cs.length + 8), .slice ro2 (rows.length + 8) rcap2, .slice (some ⟨lb, loff, none⟩) rows.length lcap] (.slice co cs.length ccap) (.slice (some ⟨rb, roff, none⟩) rows.length rcap)) := HS2.out.below hb3
          refine hK.out _ _ (fun _ => HK.out _ HS3.out) ?_
          clear hK K hHeld hb3
          have hHeld : (fun W => W.cell? ⟨w.heap.size, 4, none⟩ = some (.slice (some ⟨lb, loff, none⟩) rows.length lcap) ∧ W.cell? ⟨lb, loff + k, none⟩ = some (.slice vo (row.length + 8) vcap) ∧ W.cell? ⟨w.heap.size + 1, 1, none⟩ = some (.slice (some ⟨rb, roff, none⟩) rows.length rcap) ∧ W.cell? ⟨rb, roff + k, none⟩ = some (.slice uo row.length ucap)) w3 := HK.out _ HS3.out
          refine Un.one (i := 12) (by kernel_rfl) rfl (fun K hK => ?_)
          rw [if_pos (by rfl)]
          go_simp
          refine hK.out _ _ (fun h => absurd h (by decide)) ?_
          clear hK K
          try simp only [Act.put, List.setIfInBounds_toArray, List.set_cons_zero, List.set_cons_succ]
          refine Un.done (by kernel_rfl) ?_ _
          clear hHeld
          go_wp2_with fail
          go_roundw
          case rel => exact ⟨k + 1, by omega, by go_num, HS3.out⟩
          case measure => simp [intOf]; omega
        · clear hS
          go_wp2_with fail
          go_ret
          exact ⟨rfl, HS.out.bel⟩
end Go.Proofs.Ytjidbonhhpkljaa.Ec
