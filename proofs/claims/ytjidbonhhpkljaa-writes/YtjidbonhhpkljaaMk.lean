/- What the proof stands on: WrWriteA, WrWriteR, WrWriteS, PkWhole, PkUnpackC, PkBook. -/
import Derived.Test.YtjidbonhhpkljaaMj
import Derived.ArgAppend

/- Write: the document's side. -/
set_option linter.unusedVariables false
namespace Go.Proofs.Ytjidbonhhpkljaa.Ec
open Go.RowKit Go.Proofs.Ytjidbonhhpkljaa.Pk Go.Proofs.Ytjidbonhhpkljaa.Pm

theorem setCells_shape {g : Nat} {t : TypeId} : ∀ (vs : List Value) (o : Nat) (w : World) (C : Array Value), w.heap[g]? = some (.cells C t (0, 0)) → ∃ C', (w.setCells g o vs).heap[g]? = some (.cells C' t (0, 0)) ∧ C'.size = C.size
  | [], _, _, C, h => ⟨C, h, rfl⟩
  | v :: r, o, w, C, h => by
    have h1 := heap_setCell_same w g o _ _ v h
    obtain ⟨C', h2, h3⟩ := setCells_shape r (o + 1) _ _ h1
    exact ⟨C', h2, by rw [h3]; simp⟩
/-- The whole of a box is written. -/
theorem setCells_all {g : Nat} {t : TypeId} {w : World} {C D : Array Value} (h : w.heap[g]? = some (.cells C t (0, 0))) (hs : D.size = C.size) : (w.setCells g 0 D.toList).heap[g]? = some (.cells D t (0, 0)) := by
  obtain ⟨C', h2, h3⟩ := setCells_shape D.toList 0 w C h
  have hr := World.rangeAt_setCells_same w g 0 D.toList (by rw [Array.length_toList, hs]; exact row_there h)
  have : C' = D := by
    apply Array.ext
    · omega
    · intro i hi1 hi2
      have := hr i D[i] (by simp [hi2])
      rw [Nat.zero_add] at this
      simp only [World.cell?, h2] at this
      simpa [hi1] using this
  rw [this] at h2
  exact h2

def toP (c : Chk) : Prt := ⟨c.text.size, c.bnd, c.text⟩
def toR (b : Bd) : RBd := ⟨b.rows, b.chunks.map toP⟩
theorem prtB_toP (cs : List Col) (l : List Chk) (i : Nat) (h : i < l.length) : prtB cs (l.map toP) i = partB cs l i := by
  unfold prtB partB
  rw [List.getD_eq_getElem?_getD (l := l.map toP), List.getD_eq_getElem?_getD (l := l), List.getElem?_map, List.getElem?_eq_getElem h]
  rfl
theorem flatMap_congr' {α β : Type} {f g : α → List β} {l : List α} (h : ∀ x ∈ l, f x = g x) : l.flatMap f = l.flatMap g := by
  induction l with
  | nil => rfl
  | cons x r ih => rw [List.flatMap_cons, List.flatMap_cons, h x (by simp), ih (fun y hy => h y (by simp [hy]))]
theorem rbandB_toR (cs : List Col) (b : Bd) : rbandB cs (toR b) = bandB cs b := by
  unfold rbandB bandB prtsB partsB toR
  dsimp only
  rw [List.length_map]
  congr 1
  exact flatMap_congr' (fun i hi => prtB_toP cs b.chunks i (List.mem_range.1 hi))
theorem footR_toR (cs : List Col) (es : List Int) (bs : List Bd) : footR cs es (bs.map toR) = footB cs es bs := by
  unfold footR footB rbandsB bandsB
  rw [List.length_map, List.flatMap_map]
  congr 3
  exact flatMap_congr' (fun b _ => rbandB_toR cs b)
theorem rbOk_toR {n : Nat} {b : Bd} (h : BdOk n b) : RbOk n (toR b) := by
  refine ⟨h.rows, by unfold toR; dsimp only; rw [List.length_map]; exact h.len, ?_, ?_, ?_⟩ <;>
  · intro c hc
    obtain ⟨x, hx, rfl⟩ := List.mem_map.1 hc
    first | exact h.size x hx | exact h.least x hx | exact h.most x hx

/-- Where the document's Write stands. -/
structure RFile (w W : World) (fb : Nat) (cv rv ev : Value) (bd : Int) (bo : Bool) (bv : Value) (L : List (RBd × Value)) : Prop where
  tbl : W.heap[w.heap.size]? = some (.cells #[cv, rv] 52 (0, 0))
  opt : W.heap[w.heap.size + 1]? = some (.cells #[.int .i64 bd, ev, .bool bo] 54 (0, 0))
  file : W.heap[fb]? = some (.cells #[cv, ev, bv, .int .i64 0] 96 (0, 0))
  own : W.ownsRow w.heap.size 99 2 bv L.length (L.flatMap ecell)
  each : ∀ p ∈ L, W.ownsRow w.heap.size 101 9 p.2 p.1.parts.length (p.1.parts.flatMap rcell)
  far : w.heap.size ≤ fb
  bel : Below w.heap.size w W
theorem RFile.below {w W W1 : World} {fb : Nat} {cv rv ev : Value} {bd : Int} {bo : Bool} {bv : Value} {L : List (RBd × Value)} (h : RFile w W fb cv rv ev bd bo bv L) (hb : Below W.heap.size W W1) : RFile w W1 fb cv rv ev bd bo bv L :=
  ⟨(hb.block _ (lt_of_block h.tbl)).trans h.tbl, (hb.block _ (lt_of_block h.opt)).trans h.opt, (hb.block _ (lt_of_block h.file)).trans h.file, ownsRow_below h.own hb, fun p hp => ownsRow_below (h.each p hp) hb, h.far, h.bel.trans (hb.mono h.bel.size)⟩
theorem RFile.cells {w W : World} {fb : Nat} {cv rv ev : Value} {bd : Int} {bo : Bool} {bv : Value} {L : List (RBd × Value)} (h : RFile w W fb cv rv ev bd bo bv L) :
    (W.cell? ⟨w.heap.size, 0, none⟩ = some cv ∧ W.cell? ⟨w.heap.size, 1, none⟩ = some rv) ∧ (W.cell? ⟨w.heap.size + 1, 0, none⟩ = some (.int .i64 bd) ∧ W.cell? ⟨w.heap.size + 1, 1, none⟩ = some ev ∧ W.cell? ⟨w.heap.size + 1, 2, none⟩ = some (.bool bo)) := ⟨two_of h.tbl, val_cells h.opt⟩
theorem RFile.kept {w W W1 : World} {fb : Nat} {cv rv ev : Value} {bd : Int} {bo : Bool} {bv bv' : Value} {L : List (RBd × Value)} (h : RFile w W fb cv rv ev bd bo bv L) (hg : Grew W W1 bv bv') : W1.heap[fb]? = some (.cells #[cv, ev, bv, .int .i64 0] 96 (0, 0)) :=
  (hg.by_.block _ (lt_of_block h.file) (own_far h.own h.file (by decide))).trans h.file
theorem RFile.grew {w W W1 : World} {fb : Nat} {cv rv ev : Value} {bd : Int} {bo : Bool} {bv bv' : Value} {L : List (RBd × Value)} (h : RFile w W fb cv rv ev bd bo bv L) (hg : Grew W W1 bv bv') {b : RBd} {kv : Value} (hk : W.ownsRow w.heap.size 101 9 kv b.parts.length (b.parts.flatMap rcell))
    (ho : W1.ownsRow w.heap.size 99 2 bv' (L ++ [(b, kv)]).length ((L ++ [(b, kv)]).flatMap ecell)) : RFile w (W1.setCell ⟨fb, 2, none⟩ bv') fb cv rv ev bd bo bv' (L ++ [(b, kv)]) := by
  have h1 := (hg.by_.block _ (lt_of_block h.tbl) (own_far h.own h.tbl (by decide))).trans h.tbl
  have h2 := (hg.by_.block _ (lt_of_block h.opt) (own_far h.own h.opt (by decide))).trans h.opt
  have h4 := h.kept hg
  have h5 := heap_setCell_same W1 fb 2 _ _ bv' h4
  have hbb := h.bel.trans (hg.below (fun g hg => (h.own.lt g hg).1) h.bel.size)
  have n1 : ¬ w.heap.size = fb := fun e => by rw [← e] at h4; rw [h1] at h4; simp at h4
  have n2 : ¬ w.heap.size + 1 = fb := fun e => by rw [← e] at h4; rw [h2] at h4; simp at h4
  have key : ∀ {q : Value} {n : Nat} {xs : List Value}, W.ownsRow w.heap.size 101 9 q n xs → (W1.setCell ⟨fb, 2, none⟩ bv').ownsRow w.heap.size 101 9 q n xs := fun hq => by
    have hq1 := kept_grew hq hg (apart_of hq h.own (by decide))
    exact hq1.kept (box_set_grown W1 fb 2 bv') (.inr (own_far hq1 h4 (by decide)).symm)
  refine ⟨?_, ?_, h5, ho.kept (box_set_grown W1 fb 2 bv') (.inr (own_far ho h4 (by decide)).symm), fun p hp => ?_, h.far, below_set hbb hbb.size h.far _ _⟩
  · rw [heap_setCell_other _ _ _ _ n1]; exact h1
  · rw [heap_setCell_other _ _ _ _ n2]; exact h2
  · rcases List.mem_append.1 hp with hp | hp
    · exact key (h.each p hp)
    · simp at hp
      subst hp
      exact key hk
theorem RFile.bands {w W : World} {fb : Nat} {cv rv ev : Value} {bd : Int} {bo : Bool} {bv : Value} {L : List (RBd × Value)} {bs : List RBd} (h : RFile w W fb cv rv ev bd bo bv L) (hL : L.map Prod.fst = bs) : RBands W bv bs :=
  ⟨L, hL, GSl.of_owns ecell_len h.own, fun p hp => GSl.of_owns rcell_len (h.each p hp)⟩

/-- Where a band stands that is being made. -/
structure BnSt (B W : World) (g n : Nat) (pv : Value) (parts : List Prt) : Prop where
  box : W.heap[g]? = some (.cells #[.int .i64 (n : Int), pv] 99 (0, 0))
  own : W.ownsRow B.heap.size 101 9 pv parts.length (parts.flatMap rcell)
  far : B.heap.size ≤ g
  bel : Below B.heap.size B W
theorem BnSt.below {B W W1 : World} {g n : Nat} {pv : Value} {parts : List Prt} (h : BnSt B W g n pv parts) (hb : Below W.heap.size W W1) : BnSt B W1 g n pv parts :=
  ⟨(hb.block _ (lt_of_block h.box)).trans h.box, ownsRow_below h.own hb, h.far, h.bel.trans (hb.mono h.bel.size)⟩
theorem BnSt.kept {B W W1 : World} {g n : Nat} {pv pv' : Value} {parts : List Prt} (h : BnSt B W g n pv parts) (hg : Grew W W1 pv pv') : W1.cell? ⟨g, 1, none⟩ = some pv ∧ W1.frozen? ⟨g, 1, none⟩ = false := by
  have h4 := (hg.by_.block _ (lt_of_block h.box) (own_far h.own h.box (by decide))).trans h.box
  exact ⟨by simp [World.cell?, h4], by simp [World.frozen?, h4]⟩
theorem BnSt.grew {B W W1 : World} {g n : Nat} {pv pv' : Value} {parts parts' : List Prt} (h : BnSt B W g n pv parts) (hg : Grew W W1 pv pv') (ho : W1.ownsRow B.heap.size 101 9 pv' parts'.length (parts'.flatMap rcell)) : BnSt B (W1.setCell ⟨g, 1, none⟩ pv') g n pv' parts' := by
  have h4 := (hg.by_.block _ (lt_of_block h.box) (own_far h.own h.box (by decide))).trans h.box
  have h5 := heap_setCell_same W1 g 1 _ _ pv' h4
  have hbb := h.bel.trans (hg.below (fun g hg => (h.own.lt g hg).1) h.bel.size)
  exact ⟨h5, ho.kept (box_set_grown W1 g 1 pv') (.inr (own_far ho h4 (by decide)).symm), h.far, below_set hbb hbb.size h.far _ _⟩
theorem Try.info101 : (Try.prog.info? 101).map (fun i => (i.zero, i.size, i.bytes)) = some (some (.agg noPart), 9, 96) := by kernel_rfl
theorem Try.info99 : (Try.prog.info? 99).map (fun i => (i.zero, i.size, i.bytes)) = some (some (.agg #[.int .i64 0, .slice none 0 0]), 2, 32) := by kernel_rfl
theorem nine_at (w : World) (p : Prt) (t : TypeId) : ∀ (j : Nat) (u : Value), (rcell p)[j]? = some u → (w.alloc (.cells (rcell p).toArray t)).cell? ((⟨w.heap.size, 0, none⟩ : Addr).add j) = some u :=
  World.news_of_block (alloc_at w _)
theorem nine_one (p : Prt) : ∀ u ∈ rcell p, u.oneCell' = true := by
  intro u hu
  simp [rcell] at hu
  rcases hu with rfl | rfl | rfl | rfl | rfl | rfl | rfl | rfl | rfl <;> rfl
theorem two_atE (w : World) (b : RBd) (kv : Value) (t : TypeId) : ∀ (j : Nat) (u : Value), (ecell (b, kv))[j]? = some u → (w.alloc (.cells (ecell (b, kv)).toArray t)).cell? ((⟨w.heap.size, 0, none⟩ : Addr).add j) = some u :=
  World.news_of_block (alloc_at w _)
theorem Tbl.textK {cs : List Col} {rows : List (List Val)} {es : List Int} {bd : Nat} (h : Tbl cs rows es bd) (bo : Bool) (j p : Nat) (hp : p ≤ cs.length) : (textB (chksP (cutR rows bd j) cs es bo p)).length ≤ p * 110000 := by
  have h2 := flat_le (fun c : Chk => bytesOf c.text) 110000 (chksP (cutR rows bd j) cs es bo p) (fun c hc => by
    rw [bytesOf_length]
    refine (h.chunks bo j c ?_).1
    unfold chksP at hc ⊢
    obtain ⟨q, hq, rfl⟩ := List.mem_map.1 hc
    exact List.mem_map.2 ⟨q, List.mem_range.2 (Nat.lt_of_lt_of_le (List.mem_range.1 hq) hp), rfl⟩)
  rw [chksP_length] at h2
  exact h2
theorem Tbl.bodyK {cs : List Col} {rows : List (List Val)} {es : List Int} {bd : Nat} (h : Tbl cs rows es bd) (bo : Bool) (k : Nat) : (bodyB (bandsP rows cs es bo bd k)).length ≤ k * 880000 := by
  have h1 := flat_le (fun b : Bd => textB b.chunks) 880000 (bandsP rows cs es bo bd k) (fun b hb => by
    unfold bandsP at hb
    obtain ⟨j, -, rfl⟩ := List.mem_map.1 hb
    have h2 := h.textK bo j cs.length (Nat.le_refl _)
    have h3 := h.table.1.2.1
    show (textB (chksP (cutR rows bd j) cs es bo cs.length)).length ≤ _
    omega)
  rw [bandsP_length] at h1
  exact h1
theorem chunkS (l : List Chk) (c : Chk) (pre : List Nat) : strOf (pre ++ textB l) ++ c.text = strOf (pre ++ textB (l ++ [c])) := by
  rw [textB_snoc, ← List.append_assoc, strOf_append (pre ++ textB l), strOf_bytesOf]
end Go.Proofs.Ytjidbonhhpkljaa.Ec

/- Write: the document's side. -/
set_option linter.unusedVariables false
set_option linter.unusedSimpArgs false
namespace Go.Proofs.Ytjidbonhhpkljaa.Ec
open Go.RowKit Go.Proofs.Ytjidbonhhpkljaa.Pk Go.Proofs.Ytjidbonhhpkljaa.Pm

/-- 'string([]byte{a, b, c, d})'. -/
theorem conv_four {w : World} {g : Nat} {a b c d : Nat} (h0 : w.cell? ⟨g, 0, none⟩ = some (.int .u8 (a : Int))) (h1 : w.cell? ⟨g, 1, none⟩ = some (.int .u8 (b : Int))) (h2 : w.cell? ⟨g, 2, none⟩ = some (.int .u8 (c : Int))) (h3 : w.cell? ⟨g, 3, none⟩ = some (.int .u8 (d : Int))) :
    (convert 44 9 (.slice (some ⟨g, 0, none⟩) 4 4)).run Try.prog w = .ok (.string (strOf [a, b, c, d])) w :=
  run_convert_bytes_arg w 44 5 Try.underlying44 Try.underlying5 g 0 4 4 [(a : Int), (b : Int), (c : Int), (d : Int)] rfl (fun i hi => by
    have : i = 0 ∨ i = 1 ∨ i = 2 ∨ i = 3 := by omega
    rcases this with rfl | rfl | rfl | rfl
    · simpa using h0
    · simpa using h1
    · simpa using h2
    · simpa using h3) 9 Try.underlying9

set_option maxRecDepth 100000 in
set_option maxHeartbeats 16000000 in
/-- The table and the options may be: the file. -/
theorem rWrite_file (cs : List Col) (rows : List (List Val)) (bd : Nat) (es : List Int) (bo : Bool) (cv rv ev : Value) (w : World) (htb : Tbl cs rows es bd)
    (hcs : CSl w cv cs) (hrs : RSl w rv rows) (hes : ISl w ev es) :
    Calls Try.prog 25 #[.agg #[cv, rv], .agg #[.int .i64 (bd : Int), ev, .bool bo]] w fun e w' => ((65536 < (wfile cs rows es bo bd).length ∧ e = .returned (.tuple #[.string ⟨#[]⟩, .int .i64 6])) ∨ (¬ 65536 < (wfile cs rows es bo bd).length ∧ e = .returned (.tuple #[.string (strOf (wfile cs rows es bo bd)), .int .i64 0]))) ∧ Below w.heap.size w w' := by
  obtain ⟨j0, hj, hy0, hy1, hy2⟩ := info_parts Try.info39
  obtain ⟨q0', hq, hx0, hx1, hx2⟩ := info_parts Try.info101
  obtain ⟨r0', hr', hr0, hr1, hr2⟩ := info_parts Try.info99
  have HTB : Hid (Tbl cs rows es bd) := htb
  have hm : cs.length ≤ maxLen := by have := htb.table.1.2.1; unfold maxLen; omega
  have hm2 : rows.length ≤ maxLen := by have := htb.table.2.1; unfold maxLen; omega
  have hm3 : ∀ r ∈ rows, r.length ≤ maxLen := fun r hr => by have := htb.len r hr; unfold maxLen at *; omega
  have hm4 : es.length ≤ maxLen := by have := htb.elen; unfold maxLen at *; omega
  have HCS : Hid (CSl w cv cs) := hcs
  have HRS : Hid (RSl w rv rows) := hrs
  have HES : Hid (ISl w ev es) := hes
  have HIT : Hid (∀ W, Below w.heap.size w W → Calls Try.prog 54 #[.agg #[cv, rv]] W fun e w' => e = .returned (.bool true) ∧ Below W.heap.size W w') := fun W h =>
    det_true (tableMay_any cs rows _ _ W hm hm2 hm3 (hcs.below h) (hrs.below h)) htb.table
  have HAO : Hid (∀ W, Below w.heap.size w W → Calls Try.prog 55 #[cv, ev] W fun e w' => e = .returned (.bool true) ∧ Below W.heap.size W w') := fun W h =>
    det_true (encodingsMay_any cs es _ _ W hm hm4 (hcs.below h) (hes.lower h)) htb.encs
  obtain ⟨co, cb, coff, ccap, rfl, hccap, hcr⟩ := hcs
  obtain ⟨ro, rb, roff, rcap, rfl, hrcap, hrr⟩ := hrs
  obtain ⟨eo, eb, eoff, ecap, rfl, he1, he2, he3⟩ := hes
  have HCR : Hid (CRow w co cb coff cs) := hcr
  have HRR : Hid (RRow w ro rb roff rows) := hrr
  have HE1 : Hid (0 < es.length → eo = some ⟨eb, eoff, none⟩) := he1
  have HE2 : Hid (0 < es.length → eb < w.heap.size) := he2
  have HE3 : Hid (∀ j, j < es.length → w.cell? ⟨eb, eoff + j, none⟩ = some (.int .i64 (es.getD j 0))) := he3
  have HEL : Hid (es.length = cs.length) := htb.elen
  have hrl : rows.length ≤ 2000 := htb.table.2.1
  have hcl : cs.length ≤ 8 := htb.table.1.2.1
  have hb1 : 1 ≤ bd := htb.lo
  have hb2 : bd ≤ 100 := htb.hi
  clear hm hm2 hm3 hm4 hcr hrr he1 he2 he3 htb
  go_enter Try.func25, Try.ntmps25
  go_upto_region 1 with fail
  have hb0 : Below w.heap.size w ((w.alloc (.cells #[.slice co cs.length ccap, .slice ro rows.length rcap] 52)).alloc (.cells #[.int .i64 (bd : Int), .slice eo es.length ecap, .bool bo] 54)) := below_box2 _ _
  have hx0 : ((w.alloc (.cells #[.slice co cs.length ccap, .slice ro rows.length rcap] 52)).alloc (.cells #[.int .i64 (bd : Int), .slice eo es.length ecap, .bool bo] 54)).heap[w.heap.size]? = some (.cells #[.slice co cs.length ccap, .slice ro rows.length rcap] 52 (0, 0)) := alloc_old _ (by simp) (alloc_at w _)
  have hx1 : ((w.alloc (.cells #[.slice co cs.length ccap, .slice ro rows.length rcap] 52)).alloc (.cells #[.int .i64 (bd : Int), .slice eo es.length ecap, .bool bo] 54)).heap[w.heap.size + 1]? = some (.cells #[.int .i64 (bd : Int), .slice eo es.length ecap, .bool bo] 54 (0, 0)) := alloc_at2 w _ _
  generalize (w.alloc (.cells #[.slice co cs.length ccap, .slice ro rows.length rcap] 52)).alloc (.cells #[.int .i64 (bd : Int), .slice eo es.length ecap, .bool bo] 54) = W0 at *
  have HB0 : Hid (Below w.heap.size w W0) := hb0
  have HX : Hid (∀ W, Below W0.heap.size W0 W → W.heap[w.heap.size]? = some (.cells #[.slice co cs.length ccap, .slice ro rows.length rcap] 52 (0, 0)) ∧ W.heap[w.heap.size + 1]? = some (.cells #[.int .i64 (bd : Int), .slice eo es.length ecap, .bool bo] 54 (0, 0))) := fun W h =>
    ⟨(h.block _ (lt_of_block hx0)).trans hx0, (h.block _ (lt_of_block hx1)).trans hx1⟩
  clear hb0 hx0 hx1
  obtain ⟨t0, t1⟩ := two_of (HX.out W0 (Below.refl _ _)).1
  go_upto_region 4 with (go_at_call 54; refine (HIT.out _ HB0.out).mono ?_; rintro e w1 ⟨rfl, hbq⟩)
  have HB1 : Hid (Below w.heap.size w w1) := HB0.out.trans (hbq.mono HB0.out.size)
  have HW1 : Hid (Below W0.heap.size W0 w1) := hbq
  clear t0 t1 hbq HIT
  obtain ⟨t0, t1⟩ := two_of (HX.out w1 HW1.out).1
  obtain ⟨o0, o1, o2⟩ := val_cells (HX.out w1 HW1.out).2
  go_upto_region 5 with (go_at_call 55; refine (HAO.out _ HB1.out).mono ?_; rintro e w2 ⟨rfl, hbq⟩)
  have HB2 : Hid (Below w.heap.size w w2) := HB1.out.trans (hbq.mono HB1.out.size)
  have HW2 : Hid (Below W0.heap.size W0 w2) := HW1.out.trans (hbq.mono HW1.out.size)
  clear t0 t1 o0 o1 o2 hbq HAO HW1 HB1
  obtain ⟨t0, t1⟩ := two_of (HX.out w2 HW2.out).1
  obtain ⟨o0, o1, o2⟩ := val_cells (HX.out w2 HW2.out).2
  have d1 : decide ((bd : Int) < 1) = false := by simp; omega
  have d2 : decide (100 < (bd : Int)) = false := by simp; omega
  go_upto_region 8 with fail
  clear d1 d2 t0 t1 o0 o1 o2
  have hS0 : RFile w (w2.alloc (.cells #[.slice co cs.length ccap, .slice eo es.length ecap, .slice none 0 0, .int .i64 0] 96)) w2.heap.size (.slice co cs.length ccap) (.slice ro rows.length rcap) (.slice eo es.length ecap) bd bo (.slice none 0 0) [] := by
    obtain ⟨h1, h2⟩ := HX.out w2 HW2.out
    exact ⟨alloc_old _ (lt_of_block h1) h1, alloc_old _ (lt_of_block h2) h2, alloc_at _ _, World.ownsRow_nil _ _ _ _, fun p hp => by simp at hp, HB2.out.size, HB2.out.alloc HB2.out.size _⟩
  generalize w2.alloc (.cells #[.slice co cs.length ccap, .slice eo es.length ecap, .slice none 0 0, .int .i64 0] 96) = W2 at *
  generalize w2.heap.size = fb at *
  have HS0 : Hid (RFile w W2 fb (.slice co cs.length ccap) (.slice ro rows.length rcap) (.slice eo es.length ecap) bd bo (.slice none 0 0) []) := hS0
  clear hS0 HX HW2 HB2 HB0
  have HM0 : Hid ((⟨#[83, 84, 82, 65]⟩ : ByteArray) = strOf (markB ++ bodyB (bandsP rows cs es bo bd 0))) := by
    show _ = _
    rw [show bandsP rows cs es bo bd 0 = [] from rfl, show bodyB [] = [] from rfl, List.append_nil]
    rfl
  go_wp2_with fail
  go_loopw [8, 9] (fun s i wr => ∃ (k : Nat) (bv : Value) (L : List (RBd × Value)), k ≤ bandN rows.length bd ∧ i = .int .i64 ((k * bd : Nat) : Int) ∧ s = .string (strOf (markB ++ bodyB (bandsP rows cs es bo bd k))) ∧ L.map Prod.fst = (bandsP rows cs es bo bd k).map toR ∧ RFile w wr fb (.slice co cs.length ccap) (.slice ro rows.length rcap) (.slice eo es.length ecap) bd bo bv L) (fun _ i _ => rows.length + 200 - (intOf i).toNat)
  case atStart => exact ⟨0, _, [], Nat.zero_le _, by simp, by rw [HM0.out], rfl, HS0.out⟩
  case round =>
    clear HS0 HM0
    obtain ⟨k, bv, L, hk, rfl, rfl, hL, hS⟩ := hrel
    have HS : Hid (RFile w wr fb (.slice co cs.length ccap) (.slice ro rows.length rcap) (.slice eo es.length ecap) bd bo bv L) := hS
    have HL : Hid (L.map Prod.fst = (bandsP rows cs es bo bd k).map toR) := hL
    have HK : Hid (k ≤ bandN rows.length bd) := hk
    obtain ⟨⟨t0, t1⟩, o0, o1, o2⟩ := hS.cells
    have hsz : w.heap.size ≤ wr.heap.size := hS.bel.size
    clear hL hk
    by_cases hlt : k * bd < rows.length
    · have HKL : Hid (k < bandN rows.length bd) := (bandN_lt (by omega) k).1 hlt
      have hk2000 : k ≤ 2000 := by have := HTB.out.nb; have := HKL.out; omega
      have HX : Hid ((k + 1) * bd = k * bd + bd) := Nat.succ_mul k bd
      have HCL : Hid ((cutR rows bd k).length = min bd (rows.length - k * bd)) := cutR_length
      have HCU : Hid (cutR rows bd k = (rows.drop (k * bd)).take bd) := rfl
      have hbk := HTB.out.bodyK bo k
      have HBT : Hid (∀ p, p ≤ cs.length → (markB ++ bodyB (bandsP rows cs es bo bd k) ++ textB (chksP (cutR rows bd k) cs es bo p)).length ≤ 2000000000) := fun p hp => by
        have h1 := HTB.out.textK bo k p hp
        have h2 : p * 110000 ≤ 8 * 110000 := Nat.mul_le_mul_right _ (by omega)
        have h3 : k * 880000 ≤ 2000 * 880000 := Nat.mul_le_mul_right _ hk2000
        rw [List.length_append, List.length_append]
        have : markB.length = 4 := rfl
        omega
      have HPN : Hid (markB ++ bodyB (bandsP rows cs es bo bd (k + 1)) = markB ++ bodyB (bandsP rows cs es bo bd k) ++ textB (chksP (cutR rows bd k) cs es bo cs.length)) := by
        show _ = _
        rw [bandsP_succ, bodyB_snoc, ← List.append_assoc]
        rfl
      clear hS hbk
      generalize hfr0 : k * bd = fr at *
      have HFR : Hid (k * bd = fr) := hfr0
      clear hfr0
      generalize hn : (cutR rows bd k).length = n at *
      have HN : Hid ((cutR rows bd k).length = n) := hn
      have HNV : Hid (n = min bd (rows.length - fr)) := HCL.out
      have hnle : n ≤ 100 := by have := HNV.out; omega
      have hfn : fr + n ≤ rows.length := by have := HNV.out; omega
      clear hn HCL
      generalize markB ++ bodyB (bandsP rows cs es bo bd k) = pre at *
      go_upto_if 62 with fail
      go_cut [10] from 45 to 130 (fun v wx => v = .int .i64 (n : Int) ∧ wx = wr)
      case first =>
        by_cases hfull : bd ≤ rows.length - fr
        · have d1 : decide ((rows.length : Int) - (fr : Int) < (bd : Int)) = false := by simp; omega
          have hnb : n = bd := by have := HNV.out; omega
          subst hnb
          go_wp2
          go_meet
          exact ⟨rfl, rfl⟩
        · have d1 : decide ((rows.length : Int) - (fr : Int) < (bd : Int)) = true := by simp; omega
          have hnb : (rows.length : Int) - (fr : Int) = (n : Int) := by have := HNV.out; omega
          go_wp2
          go_meet
          exact ⟨rfl, rfl⟩
      case rest =>
        obtain ⟨rfl, hwc⟩ := hcut
        rw [hwc]
        clear hwc
        clear t0 t1 o0 o1 o2
        go_upto_region 16 with fail
        have hS1 := HS.out.below ((Below.refl wr.heap.size wr).alloc (Nat.le_refl _) (.cells #[.int .i64 (n : Int), .slice none 0 0] 99))
        have hN1 : BnSt wr (wr.alloc (.cells #[.int .i64 (n : Int), .slice none 0 0] 99)) wr.heap.size n (.slice none 0 0) ((chksP (cutR rows bd k) cs es bo 0).map toP) :=
          ⟨alloc_at _ _, World.ownsRow_nil _ _ _ _, Nat.le_refl _, (Below.refl _ _).alloc (Nat.le_refl _) _⟩
        generalize wr.alloc (.cells #[.int .i64 (n : Int), .slice none 0 0] 99) = W1 at *
        have HN1 : Hid (BnSt wr W1 wr.heap.size n (.slice none 0 0) ((chksP (cutR rows bd k) cs es bo 0).map toP)) := hN1
        have HGB : Hid (wr.heap.size = wr.heap.size) := rfl
        clear hS1 hN1
        have HT0 : Hid (strOf pre = strOf (pre ++ textB (chksP (cutR rows bd k) cs es bo 0))) := by
          show _ = _
          rw [show chksP (cutR rows bd k) cs es bo 0 = [] from rfl, show textB [] = [] from rfl, List.append_nil]
        obtain ⟨gb, hgb⟩ : ∃ gb, gb = wr.heap.size := ⟨_, rfl⟩
        rw [← hgb] at HN1 ⊢
        clear hgb HGB
        go_wp2_with fail
        go_loopw [8, 12] (fun s i wx => ∃ (p : Nat) (pv : Value), p ≤ cs.length ∧ i = .int .i64 (p : Int) ∧ s = .string (strOf (pre ++ textB (chksP (cutR rows bd k) cs es bo p))) ∧ BnSt wr wx gb n pv ((chksP (cutR rows bd k) cs es bo p).map toP)) (fun _ i _ => cs.length - (intOf i).toNat)
        case atStart => exact ⟨0, _, Nat.zero_le _, rfl, by rw [HT0.out], HN1.out⟩
        case round =>
          rename World => wx
          clear HN1 HT0
          obtain ⟨p, pv, hp, rfl, rfl, hN⟩ := hrel
          have HN2 : Hid (BnSt wr wx gb n pv ((chksP (cutR rows bd k) cs es bo p).map toP)) := hN
          have HF : Hid (RFile w wx fb (.slice co cs.length ccap) (.slice ro rows.length rcap) (.slice eo es.length ecap) bd bo bv L) := HS.out.below hN.bel
          obtain ⟨⟨t0, t1⟩, o0, o1, o2⟩ := HF.out.cells
          have hszx : w.heap.size ≤ wx.heap.size := HF.out.bel.size
          clear hN
          by_cases hlc : p < cs.length
          · have hle : p < es.length := by rw [HEL.out]; exact hlc
            obtain rfl := HCR.out.addr (by omega)
            obtain rfl := HRR.out.addr (by omega)
            obtain rfl := HE1.out (by omega)
            have HCH : Hid (chksP (cutR rows bd k) cs es bo (p + 1) = chksP (cutR rows bd k) cs es bo p ++ [chkP (cutR rows bd k) cs es bo p]) := chksP_succ _ _ _ _ _
            have HCE : Hid (chkP (cutR rows bd k) cs es bo p = ⟨strOf (columnB cs[p].kind (es.getD p 0) (colVals (cutR rows bd k) p)), if bo then boundsP (colVals (cutR rows bd k) p) else noBnd⟩) := HTB.out.chk bo k p hlc
            have HVO : Hid (∀ x ∈ colVals (cutR rows bd k) p, VOk x) := fun x hx => (HTB.out.col k p hlc x hx).2
            have HKE : Hid ((cs[p].kind = 1 ∨ cs[p].kind = 2 ∨ cs[p].kind = 3) ∧ (es.getD p 0 = 0 ∨ es.getD p 0 = 1 ∨ es.getD p 0 = 2 ∨ es.getD p 0 = 3)) := enc_kinds (HTB.out.encs.2 p hlc)
            have HC5 : Hid (cb < w.heap.size) := HCR.out.lt (by omega)
            have HP5 : Hid (w.cell? ⟨cb, coff + p * 2 + 1, none⟩ = some (.int .i64 cs[p].kind)) := HCR.out.c1 p hlc
            have HE5 : Hid (eb < w.heap.size) := HE2.out (by omega)
            have HE6 : Hid (w.cell? ⟨eb, eoff + p, none⟩ = some (.int .i64 (es.getD p 0))) := HE3.out p hle
            have HBT1 := HBT.out p hp
            have HBT2 := HBT.out (p + 1) (by omega)
            have HCS2 : Hid (strOf (pre ++ textB (chksP (cutR rows bd k) cs es bo p)) ++ (chkP (cutR rows bd k) cs es bo p).text = strOf (pre ++ textB (chksP (cutR rows bd k) cs es bo (p + 1)))) := by
              show _ = _
              rw [HCH.out]
              exact chunkS _ _ _
            have hcat : ¬ 9223372036854775807 < (strOf (pre ++ textB (chksP (cutR rows bd k) cs es bo p))).size + (chkP (cutR rows bd k) cs es bo p).text.size := by
              rw [HCH.out, textB_snoc, ← List.append_assoc, List.length_append, bytesOf_length] at HBT2
              rw [strOf_size]
              omega
            have HCAT : Hid (¬ 9223372036854775807 < (strOf (pre ++ textB (chksP (cutR rows bd k) cs es bo p))).size + (chkP (cutR rows bd k) cs es bo p).text.size) := hcat
            clear HBT1 HBT2 hcat
            generalize strOf (pre ++ textB (chksP (cutR rows bd k) cs es bo p)) = S at *
            generalize hch : chkP (cutR rows bd k) cs es bo p = ch at *
            clear hch
            have hpi : (p : Int) < (cs.length : Int) := by omega
            have hpe : (p : Int) < (es.length : Int) := by omega
            have HROW : Hid (∀ t, t < n → ∃ vb voff vcap rl, (∀ W, Below w.heap.size w W → W.cell? ⟨rb, roff + (fr + t), none⟩ = some (.slice (some ⟨vb, voff, none⟩) rl vcap)) ∧ p < rl ∧ ∃ x : Val, (colVals ((rows.drop fr).take (t + 1)) p = colVals ((rows.drop fr).take t) p ++ [x]) ∧ ∀ W, Below w.heap.size w W → W.cell? ⟨vb, voff + p * 3, none⟩ = some (.bool x.null) ∧ W.cell? ⟨vb, voff + p * 3 + 1, none⟩ = some (.int .i64 x.n) ∧ W.cell? ⟨vb, voff + p * 3 + 2, none⟩ = some (.string x.s)) := fun t ht => by
              have hft : fr + t < rows.length := by omega
              obtain ⟨v, h1, h2⟩ := HRR.out.c (fr + t) hft
              have hrl2 : rows[fr + t].length = cs.length := HTB.out.len _ (List.getElem_mem hft)
              obtain ⟨vo, vb, voff, vcap, rfl, hvr⟩ := h2
              obtain rfl := hvr.addr (by omega)
              have hpl : p < rows[fr + t].length := by omega
              refine ⟨vb, voff, vcap, _, fun W hW => (hW.cell (p := ⟨rb, roff + (fr + t), none⟩) (HRR.out.lt (by omega))).trans h1, hpl, rows[fr + t][p], ?_, fun W hW => ⟨(hvr.below hW).c0 p hpl, (hvr.below hW).c1 p hpl, (hvr.below hW).c2 p hpl⟩⟩
              have hdl : t < (rows.drop fr).length := by rw [List.length_drop]; omega
              rw [List.take_succ_eq_append_getElem hdl]
              unfold colVals
              rw [List.map_append, List.map_singleton, List.getElem_drop, List.getD_eq_getElem?_getD, List.getElem?_eq_getElem hpl]
              rfl
            go_wp2_with fail
            go_loopw [13, 14] (fun lv j wy => ∃ t : Nat, t ≤ n ∧ j = .int .i64 ((fr + t : Nat) : Int) ∧ wy.ownsRow wx.heap.size 39 3 lv t (vcells (colVals ((rows.drop fr).take t) p)) ∧ Below wx.heap.size wx wy) (fun _ j _ => fr + n - (intOf j).toNat)
            case atStart => exact ⟨0, Nat.zero_le _, by simp, World.ownsRow_nil _ _ _ _, Below.refl _ _⟩
            case round =>
              rename World => wy
              obtain ⟨t, ht, rfl, hown, hby⟩ := hrel
              have HBY : Hid (Below wx.heap.size wx wy) := hby
              have HBW : Hid (Below w.heap.size w wy) := HF.out.bel.trans (hby.mono hszx)
              have HFY : Hid (RFile w wy fb (.slice (some ⟨cb, coff, none⟩) cs.length ccap) (.slice (some ⟨rb, roff, none⟩) rows.length rcap) (.slice (some ⟨eb, eoff, none⟩) es.length ecap) bd bo bv L) := HF.out.below hby
              have hszy : wx.heap.size ≤ wy.heap.size := hby.size
              clear t0 t1 o0 o1 o2 hby
              obtain ⟨⟨t0, t1⟩, o0, o1, o2⟩ := HFY.out.cells
              by_cases htn : t < n
              · obtain ⟨vb, voff, vcap, rl, hrow, hprl, x, hcv, hxx⟩ := HROW.out t htn
                have q0 := hrow wy HBW.out
                obtain ⟨v0, v1, v2⟩ := hxx wy HBW.out
                have HV : Hid (vcells (colVals ((rows.drop fr).take t) p) ++ [.bool x.null, .int .i64 x.n, .string x.s] = vcells (colVals ((rows.drop fr).take (t + 1)) p)) := by
                  show _ = _
                  rw [hcv, vcells_append, vcells_one]
                have hpri : (p : Int) < (rl : Int) := by omega
                have hfti : ((fr + t : Nat) : Int) < (rows.length : Int) := by omega
                have hlt2 : ((fr + t : Nat) : Int) < (fr : Int) + (n : Int) := by omega
                clear hrow hxx hcv
                obtain ⟨ft, hft⟩ : ∃ ft, ft = fr + t := ⟨_, rfl⟩
                rw [← hft] at q0 hfti hlt2 ⊢
                have HFT : Hid (ft = fr + t) := hft
                clear hft
                go_wp2_with (at_builtin; refine wpList_append_keep _ rfl _ _ 30 rfl wx.heap.size 39 j0 _ 3 32 Try.underlying30 hj hy0 hy1 hy2 rfl (by decide) _ t _ rfl (hown.alloc _) ⟨wy.heap.size, 0, none⟩ 1 1 [.bool x.null, .int .i64 x.n, .string x.s] rfl (by decide) rfl (by exact three_at _ _ _ _ _) (three_one x) (by unfold maxLen; omega) (by omega) (by simp; omega) ?_; intro v8 w8 hown8 hgr8)
                have hg8 := Grew.append hgr8
                rw [HV.out] at hown8
                have HB8 : Hid (Below wx.heap.size wx w8) := HBY.out.trans (hg8.below (fun g hg => (hown.lt g hg).1) hszy)
                clear hown hgr8 hg8
                go_roundw
                case rel => exact ⟨t + 1, by omega, by rw [HFT.out]; go_num, hown8, HB8.out⟩
                case measure => have := HFT.out; simp [intOf]; omega
              · obtain rfl : t = n := by omega
                have hcut : (rows.drop fr).take t = cutR rows bd k := by
                  rw [HCU.out, HNV.out]
                  rcases Nat.le_total bd (rows.length - fr) with h | h
                  · rw [Nat.min_eq_left h]
                  · rw [Nat.min_eq_right h, List.take_of_length_le (by rw [List.length_drop]; omega), List.take_of_length_le (by rw [List.length_drop]; omega)]
                rw [hcut] at hown
                have HVS : Hid (VSl wy u13 (colVals (cutR rows bd k) p)) := VSl.of_owns (by rw [colVals_length, HN.out]; exact hown)
                have HPT : Hid (∀ W, Below wy.heap.size wy W → Calls Try.prog 56 #[u13, .int .i64 cs[p].kind, .int .i64 (es.getD p 0), .bool bo] W fun r w' => r = .returned (.agg (pcell ch)) ∧ Below W.heap.size W w') := fun W hW => by
                  have h := part_any u13 (colVals (cutR rows bd k) p) cs[p].kind (es.getD p 0) bo W HKE.out.1 HKE.out.2 HVO.out (HTB.out.cut k p) (HVS.out.below hW)
                  rw [← HCE.out] at h
                  exact h
                clear hcut hown HROW HVS
                generalize cs[p].kind = kd at *
                generalize es.getD p 0 = en at *
                have HSS : Hid (∀ W, Below wy.heap.size wy W → (fun W => W.cell? ⟨w.heap.size, 0, none⟩ = some (.slice (some ⟨cb, coff, none⟩) cs.length ccap) ∧ W.cell? ⟨cb, coff + p * 2 + 1, none⟩ = some (.int .i64 kd) ∧ W.cell? ⟨w.heap.size + 1, 1, none⟩ = some (.slice (some ⟨eb, eoff, none⟩) es.length ecap) ∧ W.cell? ⟨eb, eoff + p, none⟩ = some (.int .i64 en) ∧ W.cell? ⟨w.heap.size + 1, 2, none⟩ = some (.bool bo)) W) := fun W h => by
                  obtain ⟨⟨a0, a1⟩, b0, b1, b2⟩ := (HFY.out.below h).cells
                  have hw := HBW.out.trans (h.mono HBW.out.size)
                  exact ⟨a0, (hw.cell (p := ⟨cb, coff + p * 2 + 1, none⟩) HC5.out).trans HP5.out, b1, (hw.cell (p := ⟨eb, eoff + p, none⟩) HE5.out).trans HE6.out, b2⟩
                go_upto_region 24 with fail
                go_cut [15] from 70 to 120 (fun v15 wz => ∃ g, v15 = .pointer (some ⟨g, 0, none⟩) ∧ wz.heap[g]? = some (.cells (pcell ch) 101 (0, 0)) ∧ wy.heap.size ≤ g ∧ Below wy.heap.size wy wz)
                case first =>
                  refine Un.begin_ (fun W => W.cell? ⟨w.heap.size, 0, none⟩ = some (.slice (some ⟨cb, coff, none⟩) cs.length ccap) ∧ W.cell? ⟨cb, coff + p * 2 + 1, none⟩ = some (.int .i64 kd) ∧ W.cell? ⟨w.heap.size + 1, 1, none⟩ = some (.slice (some ⟨eb, eoff, none⟩) es.length ecap) ∧ W.cell? ⟨eb, eoff + p, none⟩ = some (.int .i64 en) ∧ W.cell? ⟨w.heap.size + 1, 2, none⟩ = some (.bool bo)) 16 (by kernel_rfl) ?_
                  have hHeld : (fun W => W.cell? ⟨w.heap.size, 0, none⟩ = some (.slice (some ⟨cb, coff, none⟩) cs.length ccap) ∧ W.cell? ⟨cb, coff + p * 2 + 1, none⟩ = some (.int .i64 kd) ∧ W.cell? ⟨w.heap.size + 1, 1, none⟩ = some (.slice (some ⟨eb, eoff, none⟩) es.length ecap) ∧ W.cell? ⟨eb, eoff + p, none⟩ = some (.int .i64 en) ∧ W.cell? ⟨w.heap.size + 1, 2, none⟩ = some (.bool bo)) wy.drew := HSS.out _ (Below.refl _ _).drew
                  refine Un.pick (i := 0) (v := ?_) rfl (by kernel_rfl) (by kernel_rfl) (by kernel_rfl) (by kernel_rfl) (fun _ _ _ h => h) (Or.inl ⟨by rfl, ?_⟩) (by assumption) ?_
                  rotate_left
                  · intro w _; go_simp
                    try with_reducible rfl
                  try simp only [Act.put, List.setIfInBounds_toArray, List.set_cons_zero, List.set_cons_succ]
                  refine Un.pick (i := 1) (v := ?_) rfl (by kernel_rfl) (by kernel_rfl) (by kernel_rfl) (by kernel_rfl) (fun _ _ _ h => h) (Or.inl ⟨by rfl, ?_⟩) (by assumption) ?_
                  rotate_left
                  · intro w _; go_simp
                    try with_reducible rfl
                  try simp only [Act.put, List.setIfInBounds_toArray, List.set_cons_zero, List.set_cons_succ]
                  refine Un.take (i := 2) (v := ?_) rfl (by kernel_rfl) (by kernel_rfl) (by kernel_rfl) (by kernel_rfl) (by kernel_rfl) (by kernel_rfl) (fun _ _ _ h => h) (Or.inl ⟨by rfl, ?_⟩) (by assumption) ?_
                  rotate_left
                  · intro w hSw; (try dsimp only at hSw); go_simp
                    try with_reducible rfl
                  try simp only [Act.put, List.setIfInBounds_toArray, List.set_cons_zero, List.set_cons_succ]
                  refine Un.pick (i := 3) (v := ?_) rfl (by kernel_rfl) (by kernel_rfl) (by kernel_rfl) (by kernel_rfl) (fun _ _ _ h => h) (Or.inl ⟨by rfl, ?_⟩) (by assumption) ?_
                  rotate_left
                  · intro w _; go_simp
                    try with_reducible rfl
                  try simp only [Act.put, List.setIfInBounds_toArray, List.set_cons_zero, List.set_cons_succ]
                  refine Un.pick (i := 4) (v := ?_) rfl (by kernel_rfl) (by kernel_rfl) (by kernel_rfl) (by kernel_rfl) (fun _ _ _ h => h) (Or.inl ⟨by rfl, ?_⟩) (by assumption) ?_
                  rotate_left
                  · intro w _; go_simp
                    try with_reducible rfl
                  try simp only [Act.put, List.setIfInBounds_toArray, List.set_cons_zero, List.set_cons_succ]
                  refine Un.pick (i := 5) (v := ?_) rfl (by kernel_rfl) (by kernel_rfl) (by kernel_rfl) (by kernel_rfl) (fun _ _ _ h => h) (Or.inl ⟨by rfl, ?_⟩) (by assumption) ?_
                  rotate_left
                  · intro w _; go_simp
                    try with_reducible rfl
                  try simp only [Act.put, List.setIfInBounds_toArray, List.set_cons_zero, List.set_cons_succ]
                  refine Un.take (i := 6) (v := ?_) rfl (by kernel_rfl) (by kernel_rfl) (by kernel_rfl) (by kernel_rfl) (by kernel_rfl) (by kernel_rfl) (fun _ _ _ h => h) (Or.inl ⟨by rfl, ?_⟩) (by assumption) ?_
                  rotate_left
                  · intro w hSw; (try dsimp only at hSw); go_simp
                    try with_reducible rfl
                  try simp only [Act.put, List.setIfInBounds_toArray, List.set_cons_zero, List.set_cons_succ]
                  refine Un.pick (i := 7) (v := ?_) rfl (by kernel_rfl) (by kernel_rfl) (by kernel_rfl) (by kernel_rfl) (fun _ _ _ h => h) (Or.inl ⟨by rfl, ?_⟩) (by assumption) ?_
                  rotate_left
                  · intro w _; go_simp
                    try with_reducible rfl
                  try simp only [Act.put, List.setIfInBounds_toArray, List.set_cons_zero, List.set_cons_succ]
                  refine Un.take (i := 8) (v := ?_) rfl (by kernel_rfl) (by kernel_rfl) (by kernel_rfl) (by kernel_rfl) (by kernel_rfl) (by kernel_rfl) (fun _ _ _ h => h) (Or.inl ⟨by rfl, ?_⟩) (by assumption) ?_
                  rotate_left
                  · intro w hSw; (try dsimp only at hSw); go_simp
                    try with_reducible rfl
                  try simp only [Act.put, List.setIfInBounds_toArray, List.set_cons_zero, List.set_cons_succ]
                  refine Un.pick (i := 9) (v := ?_) rfl (by kernel_rfl) (by kernel_rfl) (by kernel_rfl) (by kernel_rfl) (fun _ _ _ h => h) (Or.inl ⟨by rfl, ?_⟩) (by assumption) ?_
                  rotate_left
                  · intro w _; go_simp
                    try with_reducible rfl
                  try simp only [Act.put, List.setIfInBounds_toArray, List.set_cons_zero, List.set_cons_succ]
                  refine Un.pick (i := 10) (v := ?_) rfl (by kernel_rfl) (by kernel_rfl) (by kernel_rfl) (by kernel_rfl) (fun _ _ _ h => h) (Or.inl ⟨by rfl, ?_⟩) (by assumption) ?_
                  rotate_left
                  · intro w _; go_simp
                    try with_reducible rfl
                  try simp only [Act.put, List.setIfInBounds_toArray, List.set_cons_zero, List.set_cons_succ]
                  refine Un.take (i := 11) (v := ?_) rfl (by kernel_rfl) (by kernel_rfl) (by kernel_rfl) (by kernel_rfl) (by kernel_rfl) (by kernel_rfl) (fun _ _ _ h => h) (Or.inl ⟨by rfl, ?_⟩) (by assumption) ?_
                  rotate_left
                  · intro w hSw; (try dsimp only at hSw); go_simp
                    try with_reducible rfl
                  try simp only [Act.put, List.setIfInBounds_toArray, List.set_cons_zero, List.set_cons_succ]
                  refine Un.pick (i := 12) (v := ?_) rfl (by kernel_rfl) (by kernel_rfl) (by kernel_rfl) (by kernel_rfl) (fun _ _ _ h => h) (Or.inl ⟨by rfl, ?_⟩) (by assumption) ?_
                  rotate_left
                  · intro w _; go_simp
                    try with_reducible rfl
                  try simp only [Act.put, List.setIfInBounds_toArray, List.set_cons_zero, List.set_cons_succ]
                  refine Un.take (i := 13) (v := ?_) rfl (by kernel_rfl) (by kernel_rfl) (by kernel_rfl) (by kernel_rfl) (by kernel_rfl) (by kernel_rfl) (fun _ _ _ h => h) (Or.inl ⟨by rfl, ?_⟩) (by assumption) ?_
                  rotate_left
                  · intro w hSw; (try dsimp only at hSw); go_simp
                    try with_reducible rfl
                  try simp only [Act.put, List.setIfInBounds_toArray, List.set_cons_zero, List.set_cons_succ]
                  refine Un.pair (i := 14) (j := 15) (by kernel_rfl) rfl rfl (fun K hK => ?_) (fun K hK => ?_)
                  · rw [if_pos (by rfl)]
                    go_simp
                    go_at_call 56
                    refine (HPT.out _ (Below.refl _ _).drew).mono ?_
                    rintro e w5 ⟨rfl, hb5⟩
                    have HB5 : Hid (Below wy.heap.size wy w5) := below_a hb5
                    have hH5 : (fun W => W.cell? ⟨w.heap.size, 0, none⟩ = some (.slice (some ⟨cb, coff, none⟩) cs.length ccap) ∧ W.cell? ⟨cb, coff + p * 2 + 1, none⟩ = some (.int .i64 kd) ∧ W.cell? ⟨w.heap.size + 1, 1, none⟩ = some (.slice (some ⟨eb, eoff, none⟩) es.length ecap) ∧ W.cell? ⟨eb, eoff + p, none⟩ = some (.int .i64 en) ∧ W.cell? ⟨w.heap.size + 1, 2, none⟩ = some (.bool bo)) w5 := HSS.out _ HB5.out
                    refine hK.out _ _ (fun _ => hH5) ?_
                    clear hK K hHeld hb5
                    try simp only [Act.put, List.setIfInBounds_toArray, List.set_cons_zero, List.set_cons_succ]
                    refine Un.one (i := 15) (by kernel_rfl) rfl (fun K hK => ?_)
                    rw [if_pos (by rfl)]
                    go_simp
                    have HB6 : Hid (Below wy.heap.size wy (w5.alloc (.cells noPart 101))) := HB5.out.alloc HB5.out.size _
                    refine hK.out _ _ (fun _ => HSS.out _ HB6.out) ?_
                    clear hK K
                    try simp only [Act.put, List.setIfInBounds_toArray, List.set_cons_zero, List.set_cons_succ]
                    refine Un.one (i := 16) (by kernel_rfl) rfl (fun K hK => ?_)
                    rw [if_pos (by rfl)]
                    have hbx : (w5.alloc (.cells noPart 101)).heap[w5.heap.size]? = some (.cells noPart 101 (0, 0)) := alloc_at _ _
                    refine wp_store_mid _ _ _ rfl w5.heap.size 0 (pcell ch) rfl rfl (show (w5.alloc (.cells noPart 101)).there _ 0 9 from row_there hbx) (by kernel_rfl) (pcell_one _) ?_
                    refine hK.out _ _ (fun h => absurd h (by decide)) ?_
                    have HBX : Hid (((w5.alloc (.cells noPart 101)).setCells w5.heap.size 0 (pcell ch).toList).heap[w5.heap.size]? = some (.cells (pcell ch) 101 (0, 0))) := setCells_all hbx rfl
                    have HBB : Hid (Below wy.heap.size wy ((w5.alloc (.cells noPart 101)).setCells w5.heap.size 0 (pcell ch).toList)) := below_setCells (Nat.le_refl _) HB5.out.size _ _ _ HB6.out
                    clear hK K hbx
                    try simp only [Act.put, List.setIfInBounds_toArray, List.set_cons_zero, List.set_cons_succ]
                    refine Un.done (by kernel_rfl) ?_ _
                    try simp only [Act.put, List.setIfInBounds_toArray, List.set_cons_zero, List.set_cons_succ]
                    go_wp2_with fail
                    go_meet
                    exact ⟨_, rfl, HBX.out, HB5.out.size, HBB.out⟩
                  · rw [if_pos (by rfl)]
                    go_simp
                    have HB6 : Hid (Below wy.heap.size wy ((wy.alloc (.cells noPart 101)).drew)) := ((Below.refl _ _).alloc (Nat.le_refl _) _).drew
                    have hH6 : (fun W => W.cell? ⟨w.heap.size, 0, none⟩ = some (.slice (some ⟨cb, coff, none⟩) cs.length ccap) ∧ W.cell? ⟨cb, coff + p * 2 + 1, none⟩ = some (.int .i64 kd) ∧ W.cell? ⟨w.heap.size + 1, 1, none⟩ = some (.slice (some ⟨eb, eoff, none⟩) es.length ecap) ∧ W.cell? ⟨eb, eoff + p, none⟩ = some (.int .i64 en) ∧ W.cell? ⟨w.heap.size + 1, 2, none⟩ = some (.bool bo)) ((wy.alloc (.cells noPart 101)).drew) := HSS.out _ HB6.out
                    refine hK.out _ _ (fun _ => hH6) ?_
                    clear hK K hHeld
                    try simp only [Act.put, List.setIfInBounds_toArray, List.set_cons_zero, List.set_cons_succ]
                    refine Un.one (i := 14) (by kernel_rfl) rfl (fun K hK => ?_)
                    rw [if_pos (by rfl)]
                    go_simp
                    go_at_call 56
                    refine (HPT.out _ HB6.out).mono ?_
                    rintro e w5 ⟨rfl, hb5⟩
                    have HB5 : Hid (Below wy.heap.size wy w5) := below_one hb5
                    have hbx : w5.heap[wy.heap.size]? = some (.cells noPart 101 (0, 0)) := (hb5.block _ (by simp)).trans (alloc_at wy _)
                    refine hK.out _ _ (fun _ => HSS.out _ HB5.out) ?_
                    clear hK K hH6 hb5
                    try simp only [Act.put, List.setIfInBounds_toArray, List.set_cons_zero, List.set_cons_succ]
                    refine Un.one (i := 16) (by kernel_rfl) rfl (fun K hK => ?_)
                    rw [if_pos (by rfl)]
                    refine wp_store_mid _ _ _ rfl wy.heap.size 0 (pcell ch) rfl rfl (show w5.there _ 0 9 from row_there hbx) (by kernel_rfl) (pcell_one _) ?_
                    refine hK.out _ _ (fun h => absurd h (by decide)) ?_
                    have HBX : Hid ((w5.setCells wy.heap.size 0 (pcell ch).toList).heap[wy.heap.size]? = some (.cells (pcell ch) 101 (0, 0))) := setCells_all hbx rfl
                    have HBB : Hid (Below wy.heap.size wy (w5.setCells wy.heap.size 0 (pcell ch).toList)) := below_setCells (Nat.le_refl _) (Nat.le_refl _) _ _ _ HB5.out
                    clear hK K hbx
                    try simp only [Act.put, List.setIfInBounds_toArray, List.set_cons_zero, List.set_cons_succ]
                    refine Un.done (by kernel_rfl) ?_ _
                    try simp only [Act.put, List.setIfInBounds_toArray, List.set_cons_zero, List.set_cons_succ]
                    go_wp2_with fail
                    go_meet
                    exact ⟨_, rfl, HBX.out, Nat.le_refl _, HBB.out⟩
                case rest =>
                  rename World => wz
                  obtain ⟨g, rfl, hbx, hgz, hbz⟩ := hcut
                  have hbzx : Below wx.heap.size wx wz := HBY.out.trans (hbz.mono hszy)
                  have HNZ : Hid (BnSt wr wz gb t pv ((chksP (cutR rows bd k) cs es bo p).map toP)) := HN2.out.below hbzx
                  have HPG : Hid (pv.ownBlock ≠ some g) := fun h => by have := (HN2.out.own.lt g h).2; omega
                  have HGG : Hid (¬ g = gb) := fun h => by have := lt_of_block HN2.out.box; omega
                  have HBX : Hid (wz.heap[g]? = some (.cells (pcell ⟨ch.text, ch.bnd⟩) 101 (0, 0))) := hbx
                  have hszz : wr.heap.size ≤ wz.heap.size := HNZ.out.bel.size
                  clear t0 t1 o0 o1 o2 hbx hgz hbz hbzx HSS HPT
                  obtain ⟨⟨c0, c1, c2, c3, c4, c5, c6, c7, c8⟩, -⟩ := part_cells HBX.out
                  obtain ⟨b0, b1⟩ := two_of HNZ.out.box
                  have hown := HNZ.out.own
                  rw [List.length_map, chksP_length] at hown
                  go_upto_region 26 with (at_builtin; refine wpList_append_lies _ rfl _ _ 97 rfl wr.heap.size 101 q0' _ 9 96 Try.underlying97 hq hx0 hx1 hx2 rfl (by decide) _ p _ rfl (hown.alloc _) ⟨wz.heap.size, 0, none⟩ 1 1 (rcell (toP ch)) rfl rfl (nine_at wz (toP ch) _) (nine_one _) (by decide) (by unfold maxLen; omega) (by omega) (by simp; omega) _ rfl ?_; intro g9 cap9 w9 hown9 hgr9 hat9 hlt9; have hg9 := Grew.lies (n := p + 1) (cap := cap9) hgr9 hat9; obtain ⟨z0, z1⟩ := HNZ.out.kept hg9)
                  have hN9 : BnSt wr (w9.setCell ⟨gb, 1, none⟩ (.slice (some ⟨g9, 0, none⟩) (p + 1) cap9)) gb t (.slice (some ⟨g9, 0, none⟩) (p + 1) cap9) ((chksP (cutR rows bd k) cs es bo (p + 1)).map toP) := HNZ.out.grew hg9 (by
                    rw [List.length_map, chksP_length, HCH.out, List.map_append, List.map_singleton, List.flatMap_append, List.flatMap_singleton]
                    exact hown9)
                  have hbx9 : (w9.setCell ⟨gb, 1, none⟩ (.slice (some ⟨g9, 0, none⟩) (p + 1) cap9)).heap[g]? = some (.cells (pcell ⟨ch.text, ch.bnd⟩) 101 (0, 0)) := by
                    rw [heap_setCell_other _ _ _ _ HGG.out, hg9.by_.block g (lt_of_block HBX.out) (fun e => HPG.out e.symm)]
                    exact HBX.out
                  clear c0 c1 c2 c3 c4 c5 c6 c7 c8 b0 b1 hown hown9 hgr9 hat9 hlt9 hg9 z0 z1
                  generalize w9.setCell ⟨gb, 1, none⟩ (.slice (some ⟨g9, 0, none⟩) (p + 1) cap9) = W9 at *
                  have HN9 : Hid (BnSt wr W9 gb t (.slice (some ⟨g9, 0, none⟩) (p + 1) cap9) ((chksP (cutR rows bd k) cs es bo (p + 1)).map toP)) := hN9
                  have c8 := (part_cells hbx9).1.2.2.2.2.2.2.2.2
                  have hcat := HCAT.out
                  clear hN9 hbx9
                  go_wp2_with fail
                  go_roundw
                  case rel => exact ⟨p + 1, _, by omega, by go_num, by rw [HCS2.out], HN9.out⟩
                  case measure => simp [intOf]; omega
          · obtain rfl : p = cs.length := by omega
            have HPS : Hid (strOf (pre ++ textB (chksP (cutR rows bd k) cs es bo cs.length)) = strOf (markB ++ bodyB (bandsP rows cs es bo bd (k + 1)))) := by show _ = _; rw [HPN.out]
            have HLL : Hid ((L ++ [((⟨n, (chksP (cutR rows bd k) cs es bo cs.length).map toP⟩ : RBd), pv)]).map Prod.fst = (bandsP rows cs es bo bd (k + 1)).map toR) := by
              show _ = _
              rw [List.map_append, HL.out, bandsP_succ, List.map_append, List.map_singleton, List.map_singleton, ← HN.out]
              rfl
            have hLk : L.length = k := by rw [← List.length_map (f := Prod.fst), HL.out, List.length_map, bandsP_length]
            have HLk : Hid (L.length = k) := hLk
            clear hLk
            generalize hcc : chksP (cutR rows bd k) cs es bo cs.length = cc at *
            have HCCL : Hid (cc.length = cs.length) := by show _ = _; rw [← hcc, chksP_length]
            clear hcc
            have hf := own_form HN2.out.own
            rw [List.length_map, HCCL.out] at hf
            obtain ⟨po, pcap, hpv⟩ := hf
            subst hpv
            have HGF : Hid (bv.ownBlock ≠ some gb) := fun h => by have h1 := (HS.out.own.lt gb h).2; have h2 := HN2.out.far; omega
            generalize strOf (pre ++ textB cc) = S at *
            have HSS : Hid (∀ W bv', Grew wx W bv bv' → (fun W => W.cell? ⟨fb, 2, none⟩ = some bv ∧ W.cell? ⟨gb, 0, none⟩ = some (.int .i64 (n : Int)) ∧ W.cell? ⟨gb, 1, none⟩ = some (.slice po cs.length pcap)) W) := fun W bv' h => by
              have h1 := four_of (HF.out.kept h)
              have h2 := two_of ((h.by_.block gb (lt_of_block HN2.out.box) (fun e => HGF.out e.symm)).trans HN2.out.box)
              exact ⟨h1.2.2.1, h2.1, h2.2⟩
            clear t0 t1 o0 o1 o2
            obtain ⟨⟨t0, t1⟩, o0, o1, o2⟩ := HF.out.cells
            go_upto_region 27 with fail
            refine Un.begin_ (fun W => W.cell? ⟨fb, 2, none⟩ = some bv ∧ W.cell? ⟨gb, 0, none⟩ = some (.int .i64 (n : Int)) ∧ W.cell? ⟨gb, 1, none⟩ = some (.slice po cs.length pcap)) 10 (by kernel_rfl) ?_
            have hHeld : (fun W => W.cell? ⟨fb, 2, none⟩ = some bv ∧ W.cell? ⟨gb, 0, none⟩ = some (.int .i64 (n : Int)) ∧ W.cell? ⟨gb, 1, none⟩ = some (.slice po cs.length pcap)) wx.drew := HSS.out _ bv ((Grew.refl wx bv).drewN 1)
            refine Un.pick (i := 0) (v := ?_) rfl (by kernel_rfl) (by kernel_rfl) (by kernel_rfl) (by kernel_rfl) (fun _ _ _ h => h) (Or.inl ⟨by rfl, ?_⟩) (by assumption) ?_
            rotate_left
            · intro w _; go_simp
              try with_reducible rfl
            try simp only [Act.put, List.setIfInBounds_toArray, List.set_cons_zero, List.set_cons_succ]
            refine Un.pick (i := 1) (v := ?_) rfl (by kernel_rfl) (by kernel_rfl) (by kernel_rfl) (by kernel_rfl) (fun _ _ _ h => h) (Or.inl ⟨by rfl, ?_⟩) (by assumption) ?_
            rotate_left
            · intro w _; go_simp
              try with_reducible rfl
            try simp only [Act.put, List.setIfInBounds_toArray, List.set_cons_zero, List.set_cons_succ]
            refine Un.pick (i := 2) (v := ?_) rfl (by kernel_rfl) (by kernel_rfl) (by kernel_rfl) (by kernel_rfl) (fun _ _ _ h => h) (Or.inl ⟨by rfl, ?_⟩) (by assumption) ?_
            rotate_left
            · intro w _; go_simp
              try with_reducible rfl
            try simp only [Act.put, List.setIfInBounds_toArray, List.set_cons_zero, List.set_cons_succ]
            refine Un.pick (i := 3) (v := ?_) rfl (by kernel_rfl) (by kernel_rfl) (by kernel_rfl) (by kernel_rfl) (fun _ _ _ h => h) (Or.inl ⟨by rfl, ?_⟩) (by assumption) ?_
            rotate_left
            · intro w _; go_simp
              try with_reducible rfl
            try simp only [Act.put, List.setIfInBounds_toArray, List.set_cons_zero, List.set_cons_succ]
            refine Un.take (i := 4) (v := ?_) rfl (by kernel_rfl) (by kernel_rfl) (by kernel_rfl) (by kernel_rfl) (by kernel_rfl) (by kernel_rfl) (fun _ _ _ h => h) (Or.inl ⟨by rfl, ?_⟩) (by assumption) ?_
            rotate_left
            · intro w hSw; (try dsimp only at hSw); go_simp
              try with_reducible rfl
            try simp only [Act.put, List.setIfInBounds_toArray, List.set_cons_zero, List.set_cons_succ]
            refine Un.take (i := 5) (v := ?_) rfl (by kernel_rfl) (by kernel_rfl) (by kernel_rfl) (by kernel_rfl) (by kernel_rfl) (by kernel_rfl) (fun _ _ _ h => h) (Or.inl ⟨by rfl, ?_⟩) (by assumption) ?_
            rotate_left
            · intro w hSw; (try dsimp only at hSw); go_simp
              try with_reducible rfl
            try simp only [Act.put, List.setIfInBounds_toArray, List.set_cons_zero, List.set_cons_succ]
            refine Un.one (i := 6) (by kernel_rfl) rfl (fun K hK => ?_)
            rw [if_pos (by rfl)]
            go_simp
            have hH6 : (fun W => W.cell? ⟨fb, 2, none⟩ = some bv ∧ W.cell? ⟨gb, 0, none⟩ = some (.int .i64 (n : Int)) ∧ W.cell? ⟨gb, 1, none⟩ = some (.slice po cs.length pcap)) ((wx.alloc (.cells #[.int .i64 (n : Int), .slice po cs.length pcap] 99)).drew) := HSS.out _ bv (((Grew.refl wx bv).alloc _).drewN 1)
            refine hK.out _ _ (fun _ => hH6) ?_
            clear hK K hHeld
            try simp only [Act.put, List.setIfInBounds_toArray, List.set_cons_zero, List.set_cons_succ]
            refine Un.one (i := 7) (by kernel_rfl) rfl (fun K hK => ?_)
            have hown := HF.out.own
            rw [HLk.out] at hown
            refine step_append_lies _ (by rfl) _ _ 94 (by rfl) w.heap.size 99 r0' _ 2 32 Try.underlying94 hr' hr0 hr1 hr2 rfl (by decide) bv k _ (by rfl) ((ownsRow_below hown (Below.refl _ _).drew).alloc _) ⟨wx.heap.size, 0, none⟩ 1 1 (ecell (⟨n, cc.map toP⟩, .slice po cs.length pcap)) (by rfl) rfl (two_atE wx.drew _ _ _) (by intro u hu; simp [ecell] at hu; rcases hu with rfl | rfl <;> rfl) (by decide) (by unfold maxLen; omega) (by omega) (by simp; omega) _ rfl ?_
            intro g9 cap9 w9 hown9 hgr9 hat9 hlt9
            have hg9 : Grew wx w9 bv (.slice (some ⟨g9, 0, none⟩) (k + 1) cap9) := ((Grew.refl wx bv).drewN 1).trans (Grew.lies hgr9 hat9)
            have ho9 : w9.ownsRow w.heap.size 99 2 (.slice (some ⟨g9, 0, none⟩) (k + 1) cap9) (L ++ [((⟨n, cc.map toP⟩ : RBd), Value.slice po cs.length pcap)]).length ((L ++ [((⟨n, cc.map toP⟩ : RBd), Value.slice po cs.length pcap)]).flatMap ecell) := by
              rw [List.flatMap_append, List.flatMap_singleton, List.length_append, HLk.out]
              exact hown9
            have HK9 : Hid (RFile w (w9.setCell ⟨fb, 2, none⟩ (.slice (some ⟨g9, 0, none⟩) (k + 1) cap9)) fb (.slice co cs.length ccap) (.slice ro rows.length rcap) (.slice eo es.length ecap) bd bo (.slice (some ⟨g9, 0, none⟩) (k + 1) cap9) (L ++ [((⟨n, cc.map toP⟩ : RBd), Value.slice po cs.length pcap)])) := HF.out.grew hg9 (ownsRow_base (by have := HN2.out.own; rw [List.length_map, HCCL.out] at this; simpa [HCCL.out] using this) hsz) ho9
            have hfile := HF.out.kept hg9
            have z0 := (four_of hfile).2.2.1
            have z1 : w9.frozen? ⟨fb, 2, none⟩ = false := by simp [World.frozen?, hfile]
            have hH9 : (fun W => W.cell? ⟨fb, 2, none⟩ = some bv ∧ W.cell? ⟨gb, 0, none⟩ = some (.int .i64 (n : Int)) ∧ W.cell? ⟨gb, 1, none⟩ = some (.slice po cs.length pcap)) w9 := HSS.out _ _ hg9
            refine hK.out _ _ (fun _ => hH9) ?_
            clear hK K hown hown9 hgr9 hat9 hlt9 ho9 hg9 hfile hH6
            try simp only [Act.put, List.setIfInBounds_toArray, List.set_cons_zero, List.set_cons_succ]
            refine Un.pick (i := 8) (v := ?_) rfl (by kernel_rfl) (by kernel_rfl) (by kernel_rfl) (by kernel_rfl) (fun _ _ _ h => h) (Or.inl ⟨by rfl, ?_⟩) (by assumption) ?_
            rotate_left
            · intro w _; go_simp
              try with_reducible rfl
            try simp only [Act.put, List.setIfInBounds_toArray, List.set_cons_zero, List.set_cons_succ]
            refine Un.pick (i := 9) (v := ?_) rfl (by kernel_rfl) (by kernel_rfl) (by kernel_rfl) (by kernel_rfl) (fun _ _ _ h => h) (Or.inl ⟨by rfl, ?_⟩) (by assumption) ?_
            rotate_left
            · intro w _; go_simp
              try with_reducible rfl
            try simp only [Act.put, List.setIfInBounds_toArray, List.set_cons_zero, List.set_cons_succ]
            refine Un.one (i := 10) (by kernel_rfl) rfl (fun K hK => ?_)
            rw [if_pos (by rfl)]
            go_simp
            refine hK.out _ _ (fun h => absurd h (by decide)) ?_
            clear hK K hH9 z0 z1
            try simp only [Act.put, List.setIfInBounds_toArray, List.set_cons_zero, List.set_cons_succ]
            refine Un.done (by kernel_rfl) ?_ _
            try simp only [Act.put, List.setIfInBounds_toArray, List.set_cons_zero, List.set_cons_succ]
            clear HS HN2 HF HSS t0 t1 o0 o1 o2
            generalize w9.setCell ⟨fb, 2, none⟩ (.slice (some ⟨g9, 0, none⟩) (k + 1) cap9) = W9 at *
            obtain ⟨⟨t0, t1⟩, o0, o1, o2⟩ := HK9.out.cells
            go_wp2_with fail
            go_roundw
            case rel => exact ⟨k + 1, _, _, HKL.out, by rw [HX.out]; go_num, by rw [HPS.out], HLL.out, HK9.out⟩
            case measure => simp [intOf]; omega
    · have hkn : k = bandN rows.length bd := by
        have h1 := fun h => hlt ((bandN_lt (show 0 < bd by omega) k (len := rows.length)).2 h)
        exact Nat.le_antisymm HK.out (Nat.le_of_not_lt h1)
      subst hkn
      have HBS : Hid (∀ b ∈ (bandsP rows cs es bo bd (bandN rows.length bd)).map toR, RbOk cs.length b) := fun b hb => by
        obtain ⟨x, hx, rfl⟩ := List.mem_map.1 hb
        exact rbOk_toR (HTB.out.bands bo _ x hx)
      have HFT : Hid (∀ W, Below wr.heap.size wr W → Calls Try.prog 57 #[.pointer (some ⟨fb, 0, none⟩)] W fun e w' => e = .returned (.string (strOf (footB cs es (bandsP rows cs es bo bd (bandN rows.length bd))))) ∧ Below W.heap.size W w') := fun W hW => by
        have hW2 := HS.out.below hW
        have h := foot_any cs es ((bandsP rows cs es bo bd (bandN rows.length bd)).map toR) _ _ _ _ fb W HTB.out.table.1.2.1 HTB.out.elen (names_of_ok HTB.out.table.1) (kinds_of_ok HTB.out.table.1) (by rw [List.length_map, bandsP_length]; exact HTB.out.nb) HBS.out hW2.file (HCS.out.below hW2.bel) (HES.out.lower hW2.bel) (hW2.bands HL.out)
        rw [footR_toR] at h
        exact h
      have HFL : Hid ((footB cs es (bandsP rows cs es bo bd (bandN rows.length bd))).length ≤ 2000000) := by
        have h1 := vint_len cs.length
        have h2 := colsB_len (es := es) (names_of_ok HTB.out.table.1) cs.length (Nat.le_refl _)
        have h3 := vint_len (bandsP rows cs es bo bd (bandN rows.length bd)).length
        have h4 := bandsB_len (HTB.out.bands bo (bandN rows.length bd)) hcl cs
        have h5 := HTB.out.nb
        show _ ≤ _
        unfold footB
        rw [bandsP_length] at h4
        simp only [List.length_append]
        omega
      have HBL : Hid ((markB ++ bodyB (bandsP rows cs es bo bd (bandN rows.length bd))).length ≤ 10000000004) := by
        have := HTB.out.body bo
        show _ ≤ _
        rw [List.length_append]
        have : markB.length = 4 := rfl
        omega
      have HWF : Hid (wfile cs rows es bo bd = markB ++ bodyB (bandsP rows cs es bo bd (bandN rows.length bd)) ++ footB cs es (bandsP rows cs es bo bd (bandN rows.length bd)) ++ lenB (footB cs es (bandsP rows cs es bo bd (bandN rows.length bd))).length ++ markB) := by
        show _ = _
        unfold wfile fileB
        simp only [List.append_assoc]
      generalize footB cs es (bandsP rows cs es bo bd (bandN rows.length bd)) = ft at *
      generalize markB ++ bodyB (bandsP rows cs es bo bd (bandN rows.length bd)) = pre at *
      have HBE : Hid (Below w.heap.size w wr) := HS.out.bel
      clear hS HL HK HCS HRS HES HCR HRR HE1 HE2 HE3 HTB HBS HS
      have hfl := HFL.out
      have hpl := HBL.out
      obtain ⟨n, hn⟩ : ∃ n, n = ft.length := ⟨_, rfl⟩
      have HLB : Hid (lenB ft.length = [n % 256, n / 256 % 256, n / 65536, 0]) := by
        show _ = _
        rw [← hn]
        have h1 : n / 65536 % 256 = n / 65536 := by omega
        have h2 : n / 16777216 % 256 = 0 := by omega
        unfold lenB
        rw [h1, h2]
      have HST : Hid (strOf pre ++ strOf ft ++ strOf [n % 256, n / 256 % 256, n / 65536, 0] ++ ⟨#[83, 84, 82, 65]⟩ = strOf (wfile cs rows es bo bd)) := by
        show _ = _
        rw [HWF.out, HLB.out, strOf_append, strOf_append, strOf_append]
        rfl
      have HSZ : Hid ((strOf (wfile cs rows es bo bd)).size = (wfile cs rows es bo bd).length) := strOf_size _
      have HFZ : Hid ((strOf ft).size = n) := by show _ = _; rw [strOf_size, hn]
      have hf1 : (strOf pre).size ≤ 10000000004 := by rw [strOf_size]; exact hpl
      have hf2 : (strOf [n % 256, n / 256 % 256, n / 65536, 0]).size = 4 := by rw [strOf_size]; rfl
      have hnn : n ≤ 2000000 := by omega
      have hcv : ∀ (W : World) (g : Nat), W.cell? ⟨g, 0, none⟩ = some (.int .u8 ((n % 256 : Nat) : Int)) → W.cell? ⟨g, 1, none⟩ = some (.int .u8 ((n / 256 % 256 : Nat) : Int)) → W.cell? ⟨g, 2, none⟩ = some (.int .u8 ((n / 65536 : Nat) : Int)) → W.cell? ⟨g, 3, none⟩ = some (.int .u8 ((0 : Nat) : Int)) → (convert 44 9 (.slice (some ⟨g, 0, none⟩) 4 4)).run Try.prog W = .ok (.string (strOf [n % 256, n / 256 % 256, n / 65536, 0])) W := fun W g h0 h1 h2 h3 => conv_four h0 h1 h2 h3
      clear hn hfl hpl HWF HLB HFL HBL
      generalize strOf [n % 256, n / 256 % 256, n / 65536, 0] = Z at *
      generalize strOf ft = F at *
      generalize strOf pre = S at *
      have hs1 : ¬ 9223372036854775807 < S.size + F.size := by have := HFZ.out; omega
      have hs2 : ¬ 9223372036854775807 < S.size + F.size + Z.size := by have := HFZ.out; omega
      have hs3 : ¬ 9223372036854775807 < S.size + F.size + Z.size + 4 := by have := HFZ.out; omega
      have hFz : (F.size : Int) = (n : Int) := by have := HFZ.out; omega
      clear hf1 hf2
      go_upto_region 30 with (go_at_call 57; refine (HFT.out _ (Below.refl _ _)).mono ?_; rintro e w3 ⟨rfl, hb3⟩)
      have HB3 : Hid (Below w.heap.size w w3) := HBE.out.trans (hb3.mono HBE.out.size)
      clear hb3 HFT t0 t1 o0 o1 o2
      go_upto_region 31 with fail
      have hsz3 : w.heap.size ≤ w3.heap.size := HB3.out.size
      have hst := HST.out
      rw [hst]
      clear hst HST hcv hs1 hs2 hs3 hFz HFZ
      by_cases hlong : 65536 < (wfile cs rows es bo bd).length
      · have HR : Hid (65536 < (wfile cs rows es bo bd).length) := hlong
        have d1 : decide (65536 < ((strOf (wfile cs rows es bo bd)).size : Int)) = true := by rw [HSZ.out]; simp; omega
        clear hlong HSZ
        generalize strOf (wfile cs rows es bo bd) = fs at *
        go_wp2
        go_ret2
        exact ⟨.inl ⟨HR.out, rfl⟩, HB3.out.alloc hsz3 _⟩
      · have HR : Hid (¬ 65536 < (wfile cs rows es bo bd).length) := hlong
        have d1 : decide (65536 < ((strOf (wfile cs rows es bo bd)).size : Int)) = false := by rw [HSZ.out]; simp; omega
        clear hlong HSZ
        obtain ⟨fs, hfs⟩ : ∃ fs, fs = strOf (wfile cs rows es bo bd) := ⟨_, rfl⟩
        have HFS : Hid (fs = strOf (wfile cs rows es bo bd)) := hfs
        rw [← hfs] at d1 ⊢
        clear hfs
        go_wp2
        go_ret2
        rw [← HFS.out]
        exact ⟨.inr ⟨by have := HR.out; omega, rfl⟩, HB3.out.alloc hsz3 _⟩
end Go.Proofs.Ytjidbonhhpkljaa.Ec

/- Write: the document's side, whatever the table and the options are. -/
set_option linter.unusedVariables false
namespace Go.Proofs.Ytjidbonhhpkljaa.Ec
open Go.RowKit Go.Proofs.Ytjidbonhhpkljaa.Pk Go.Proofs.Ytjidbonhhpkljaa.Pm

set_option maxRecDepth 100000 in
set_option maxHeartbeats 4000000 in
theorem rWrite_any (cs : List Col) (rows : List (List Val)) (bd : Int) (es : List Int) (bo : Bool) (cv rv ev : Value) (w : World) (hm : cs.length ≤ maxLen) (hm2 : rows.length ≤ maxLen) (hm3 : ∀ r ∈ rows, r.length ≤ maxLen) (hm4 : es.length ≤ maxLen) (hv : ∀ r ∈ rows, ∀ x ∈ r, VIn x)
    (hcs : CSl w cv cs) (hrs : RSl w rv rows) (hes : ISl w ev es) :
    Calls Try.prog 25 #[.agg #[cv, rv], .agg #[.int .i64 bd, ev, .bool bo]] w fun e w' => ∃ s n, e = .returned (.tuple #[.string s, .int .i64 n]) ∧ WRes cs rows bd es bo s n ∧ Below w.heap.size w w' := by
  by_cases hT : TableOk cs rows
  · by_cases hO : OptsOk bd es cs
    · obtain ⟨htb, hbd⟩ := opts_tbl hT hO hv
      have h := rWrite_file cs rows bd.toNat es bo cv rv ev w htb hcs hrs hes
      rw [← hbd] at h
      refine h.mono ?_
      rintro e w' ⟨⟨h1, rfl⟩ | ⟨h1, rfl⟩, hb⟩
      · exact ⟨_, _, rfl, .inr (.inr (.inl ⟨hT, hO, h1, rfl, rfl⟩)), hb⟩
      · exact ⟨_, _, rfl, .inr (.inr (.inr ⟨hT, hO, h1, rfl, rfl⟩)), hb⟩
    · have HR : Hid (WRes cs rows bd es bo ⟨#[]⟩ 2) := .inr (.inl ⟨hT, hO, rfl, rfl⟩)
      have HIT : Hid (∀ W, Below w.heap.size w W → Calls Try.prog 54 #[.agg #[cv, rv]] W fun e w' => e = .returned (.bool true) ∧ Below W.heap.size W w') := fun W h =>
        det_true (tableMay_any cs rows _ _ W hm hm2 hm3 (hcs.below h) (hrs.below h)) hT
      have HAO : Hid (∀ W, Below w.heap.size w W → Calls Try.prog 55 #[cv, ev] W fun e w' => ∃ bb, e = .returned (.bool bb) ∧ (bb = true ↔ EncsOk cs es) ∧ Below W.heap.size W w') := fun W h =>
        encodingsMay_any cs es _ _ W hm hm4 (hcs.below h) (hes.lower h)
      obtain ⟨co, cb, coff, ccap, rfl, hccap, -⟩ := hcs
      obtain ⟨ro, rb, roff, rcap, rfl, hrcap, -⟩ := hrs
      obtain ⟨eo, eb, eoff, ecap, rfl, -, -, -⟩ := hes
      have HO : Hid (¬ OptsOk bd es cs) := hO
      clear hm hm2 hm3 hm4 hv hT hO
      go_enter Try.func25, Try.ntmps25
      go_upto_region 1 with fail
      have hb0 : Below w.heap.size w ((w.alloc (.cells #[.slice co cs.length ccap, .slice ro rows.length rcap] 52)).alloc (.cells #[.int .i64 bd, .slice eo es.length ecap, .bool bo] 54)) := below_box2 _ _
      have hx0 : ((w.alloc (.cells #[.slice co cs.length ccap, .slice ro rows.length rcap] 52)).alloc (.cells #[.int .i64 bd, .slice eo es.length ecap, .bool bo] 54)).heap[w.heap.size]? = some (.cells #[.slice co cs.length ccap, .slice ro rows.length rcap] 52 (0, 0)) := alloc_old _ (by simp) (alloc_at w _)
      have hx1 : ((w.alloc (.cells #[.slice co cs.length ccap, .slice ro rows.length rcap] 52)).alloc (.cells #[.int .i64 bd, .slice eo es.length ecap, .bool bo] 54)).heap[w.heap.size + 1]? = some (.cells #[.int .i64 bd, .slice eo es.length ecap, .bool bo] 54 (0, 0)) := alloc_at2 w _ _
      generalize (w.alloc (.cells #[.slice co cs.length ccap, .slice ro rows.length rcap] 52)).alloc (.cells #[.int .i64 bd, .slice eo es.length ecap, .bool bo] 54) = W0 at *
      have HB0 : Hid (Below w.heap.size w W0) := hb0
      have HX : Hid (∀ W, Below W0.heap.size W0 W → W.heap[w.heap.size]? = some (.cells #[.slice co cs.length ccap, .slice ro rows.length rcap] 52 (0, 0)) ∧ W.heap[w.heap.size + 1]? = some (.cells #[.int .i64 bd, .slice eo es.length ecap, .bool bo] 54 (0, 0))) := fun W h =>
        ⟨(h.block _ (lt_of_block hx0)).trans hx0, (h.block _ (lt_of_block hx1)).trans hx1⟩
      clear hb0 hx0 hx1
      obtain ⟨t0, t1⟩ := two_of (HX.out W0 (Below.refl _ _)).1
      go_upto_region 4 with (go_at_call 54; refine (HIT.out _ HB0.out).mono ?_; rintro e w1 ⟨rfl, hbq⟩)
      have HB1 : Hid (Below w.heap.size w w1) := HB0.out.trans (hbq.mono HB0.out.size)
      have HW1 : Hid (Below W0.heap.size W0 w1) := hbq
      clear t0 t1 hbq HIT
      obtain ⟨t0, t1⟩ := two_of (HX.out w1 HW1.out).1
      obtain ⟨o0, o1, o2⟩ := val_cells (HX.out w1 HW1.out).2
      by_cases hE : EncsOk cs es
      · have HA : Hid (Calls Try.prog 55 #[.slice co cs.length ccap, .slice eo es.length ecap] w1 fun e w' => e = .returned (.bool true) ∧ Below w1.heap.size w1 w') := det_true (HAO.out _ HB1.out) hE
        have hbd : bd < 1 ∨ 100 < bd := by
          rcases Int.lt_or_le bd 1 with h | h
          · exact .inl h
          · rcases Int.lt_or_le 100 bd with h2 | h2
            · exact .inr h2
            · exact absurd ⟨h, h2, hE⟩ HO.out
        have HBD : Hid (bd < 1 ∨ 100 < bd) := hbd
        clear HAO hE hbd
        go_upto_region 5 with (go_at_call 55; refine HA.out.mono ?_; rintro e w2 ⟨rfl, hbq⟩)
        have HB2 : Hid (Below w.heap.size w w2) := HB1.out.trans (hbq.mono HB1.out.size)
        have HW2 : Hid (Below W0.heap.size W0 w2) := HW1.out.trans (hbq.mono HW1.out.size)
        clear t0 t1 o0 o1 o2 hbq HA HW1 HB1
        obtain ⟨o0, o1, o2⟩ := val_cells (HX.out w2 HW2.out).2
        by_cases h1 : bd < 1
        · have d1 : decide (bd < 1) = true := by simpa using h1
          clear h1 HBD
          go_wp2
          go_ret2
          exact ⟨_, _, rfl, HR.out, HB2.out⟩
        · have d1 : decide (bd < 1) = false := by simpa using h1
          have d2 : decide (100 < bd) = true := by have := HBD.out; simp; omega
          clear h1 HBD
          go_wp2
          go_ret2
          exact ⟨_, _, rfl, HR.out, HB2.out⟩
      · have HA : Hid (Calls Try.prog 55 #[.slice co cs.length ccap, .slice eo es.length ecap] w1 fun e w' => e = .returned (.bool false) ∧ Below w1.heap.size w1 w') := det_false (HAO.out _ HB1.out) hE
        clear HAO hE
        go_wp2_with (go_at_call 55; refine HA.out.mono ?_; rintro e w2 ⟨rfl, hbq⟩)
        go_ret2
        exact ⟨_, _, rfl, HR.out, HB1.out.trans (hbq.mono HB1.out.size)⟩
  · have HR : Hid (WRes cs rows bd es bo ⟨#[]⟩ 1) := .inl ⟨hT, rfl, rfl⟩
    have HIT : Hid (∀ W, Below w.heap.size w W → Calls Try.prog 54 #[.agg #[cv, rv]] W fun e w' => e = .returned (.bool false) ∧ Below W.heap.size W w') := fun W h =>
      det_false (tableMay_any cs rows _ _ W hm hm2 hm3 (hcs.below h) (hrs.below h)) hT
    obtain ⟨co, cb, coff, ccap, rfl, hccap, -⟩ := hcs
    obtain ⟨ro, rb, roff, rcap, rfl, hrcap, -⟩ := hrs
    obtain ⟨eo, eb, eoff, ecap, rfl, -, -, -⟩ := hes
    have HB0 : Hid (∀ o p, Below w.heap.size w ((w.alloc o).alloc p)) := fun o p => below_box2 _ _
    clear hm hm2 hm3 hm4 hv hT
    go_enter Try.func25, Try.ntmps25
    go_wp2_with (go_at_call 54; refine (HIT.out _ (HB0.out _ _)).mono ?_; rintro e w1 ⟨rfl, hb1⟩)
    go_ret2
    exact ⟨_, _, rfl, HR.out, (HB0.out _ _).trans (hb1.mono (HB0.out _ _).size)⟩
end Go.Proofs.Ytjidbonhhpkljaa.Ec

/- The contract of ReadWhole at numbers: what is read of all bytes, or nothing, by the recover at the call. -/
set_option linter.unusedVariables false
namespace Go.Proofs.Ytjidbonhhpkljaa.Pk
open Go.RowKit Go.Proofs.Ytjidbonhhpkljaa.Pm

theorem pk_shape {w : World} {base e size n : Nat} {v : Value} {xs : List Value} (h : w.ownsRow base e size v n xs) : ∃ ao cap, v = .slice ao n cap := by
  rcases h.2 with ⟨rfl, rfl⟩ | ⟨g, cap, cur, rfl, _⟩
  · exact ⟨none, 0, rfl⟩
  · exact ⟨_, _, rfl⟩
theorem one_frozenI {w : World} {g : Nat} {v : Value} {t : TypeId} (h : w.heap[g]? = some (.cells #[v] t (0, 0))) : w.cell? ⟨g, 0, none⟩ = some v ∧ w.frozen? ⟨g, 0, none⟩ = false := by
  constructor
  · simp [World.cell?, h]
  · simp [World.frozen?, h]
theorem one_setI {w : World} {g : Nat} {v : Value} (u : Value) {t : TypeId} (h : w.heap[g]? = some (.cells #[v] t (0, 0))) : (w.setCell ⟨g, 0, none⟩ u).heap[g]? = some (.cells #[u] t (0, 0)) := by
  rw [heap_setCell_same w g 0 _ _ _ h]; rfl

/-- The deferred function, where the frame panics. -/
theorem catchI_panicking (pl pe : Addr) (vl ve : Value) (u : TypeId) (pv : Value) (older : List PanicEntry) (w : World) (hl : w.cell? pl = some vl) (hlf : w.frozen? pl = false)
    (he : (w.setCell pl (.slice none 0 0)).cell? pe = some ve) (hef : (w.setCell pl (.slice none 0 0)).frozen? pe = false) :
    CallsD Try.prog 118 #[.pointer (some pl), .pointer (some pe)] (.panicking ({ v := .iface u pv, recovered := false } :: older)) w fun e u' w' =>
      e = .returned (.tuple #[]) ∧ u' = .panicking ({ v := .iface u pv, recovered := true } :: older) ∧ w' = (w.setCell pl (.slice none 0 0)).setCell pe (.bool false) := by
  refine callsD_of_wpS Try.func118 rfl fun c₀ cs hu => ?_
  apply wpS_seq
  apply wpS_region
  simp [wpOpsS, go_sem, recoverD, hu, Try.ntmps118, Exit.thenS]
  refine wpS_cond (t := true) (by simp [Act.eval, Array.replicate]) ?_
  simp only [if_true]
  apply wpS_seq
  apply wpS_region
  simp [wpOpsS, go_sem, Exit.thenS]
  apply wpS_region
  simp [wpOpsS, go_sem, hl, hlf, he, hef, bodyPostS, results, Try.results118]

theorem catchI_idle (pl pe : Addr) (w : World) :
    CallsD Try.prog 118 #[.pointer (some pl), .pointer (some pe)] .returning w fun e u' w' => e = .returned (.tuple #[]) ∧ u' = .returning ∧ w' = w := by
  refine callsD_of_wpS Try.func118 rfl fun c₀ cs hu => ?_
  apply wpS_seq
  apply wpS_region
  simp [wpOpsS, go_sem, recoverD, hu, Try.ntmps118, Exit.thenS]
  refine wpS_cond (t := false) (by simp [Act.eval, Array.replicate]) ?_
  simp only [Bool.false_eq_true, if_false]
  refine wpS_of_wp (wp_skip ?_)
  cases c₀
  simp_all [bodyPostS, results, Try.results118]

theorem catchI_at {w w4 : World} {v : Value} {t1 t2 : TypeId} {v2 : Value} (q : Nat) (hL : w4.heap[w.heap.size]? = some (.cells #[v] t1 (0, 0))) (hE : w4.heap[w.heap.size + 1]? = some (.cells #[v2] t2 (0, 0))) :
    CallsD Try.prog 118 #[.pointer (some ⟨w.heap.size, 0, none⟩), .pointer (some ⟨w.heap.size + 1, 0, none⟩)] (.panicking (badAt q)) w4 fun e u' w' =>
      e = .returned (.tuple #[]) ∧ u' = .panicking [{ v := .iface 183 (.agg #[.int .i64 (q : Int)]), recovered := true }] ∧ w' = (w4.setCell ⟨w.heap.size, 0, none⟩ (.slice none 0 0)).setCell ⟨w.heap.size + 1, 0, none⟩ (.bool false) := by
  have a3 : (w4.setCell ⟨w.heap.size, 0, none⟩ (.slice none 0 0)).heap[w.heap.size + 1]? = some (.cells #[v2] t2 (0, 0)) := by
    rw [heap_setCell_other _ _ _ _ (by simp)]; exact hE
  exact catchI_panicking _ _ _ _ _ _ [] w4 (one_frozenI hL).1 (one_frozenI hL).2 (one_frozenI a3).1 (one_frozenI a3).2

theorem wholeI_bad {w w4 : World} {v v2 : Value} {t1 t2 : TypeId} (u1 u2 : Value) (hL : w4.heap[w.heap.size]? = some (.cells #[v] t1 (0, 0))) (hE : w4.heap[w.heap.size + 1]? = some (.cells #[v2] t2 (0, 0))) (hB : Below w.heap.size w w4) :
    let W := (w4.setCell ⟨w.heap.size, 0, none⟩ u1).setCell ⟨w.heap.size + 1, 0, none⟩ u2
    W.cell? ⟨w.heap.size, 0, none⟩ = some u1 ∧ W.cell? ⟨w.heap.size + 1, 0, none⟩ = some u2 ∧ Below w.heap.size w W := by
  have a1 := one_setI u1 hL
  have a3 : (w4.setCell ⟨w.heap.size, 0, none⟩ u1).heap[w.heap.size + 1]? = some (.cells #[v2] t2 (0, 0)) := by
    rw [heap_setCell_other _ _ _ _ (by simp)]; exact hE
  refine ⟨?_, (one_frozenI (one_setI u2 a3)).1, ?_⟩
  · refine (one_frozenI (t := t1) ?_).1
    rw [heap_setCell_other _ _ _ _ (by simp)]
    exact a1
  · exact (hB.setCell (Nat.le_refl _) _).setCell (Nat.le_succ _) _

set_option maxRecDepth 100000 in
set_option maxHeartbeats 2000000 in
theorem wholeI_any (c1 c2 : Value) (s : ByteArray) (w : World) (hm : s.size ≤ maxLen) (el size : Nat) (Q : Nat → List Value → Nat → Prop) (N : Prop)
    (hcl : ∀ (W : World) (r : Nat), Below w.heap.size w W → r = w.heap.size + 1 + 1 → W.heap[r]? = some (rdr s 0) → Calls Try.prog 52 #[.pointer (some ⟨r, 0, none⟩), c1, c2] W fun e w' => Kp r W w' ∧
      ((∃ v n xs q, e = .returned v ∧ w'.heap[r]? = some (rdr s q) ∧ q ≤ s.size ∧ w'.ownsRow W.heap.size el size v n xs ∧ Q n xs q) ∨ (∃ q, e = .panicked (badAt q) ∧ N))) :
    Calls Try.prog 82 #[.string s, .func (.func 52) #[] #[c1, c2]] w fun e w' => Below w.heap.size w w' ∧
      ((∃ v n xs, e = .returned (.tuple #[v, .bool true]) ∧ w'.ownsRow w.heap.size el size v n xs ∧ Q n xs s.size) ∨ (e = .returned (.tuple #[.slice none 0 0, .bool false]) ∧ (N ∨ ∃ n xs q, Q n xs q ∧ q < s.size))) := by
  have HCL : Hid _ := hcl
  clear hcl
  have hmf : ∀ (fn : Fn) (first cap : Array Value) (w : World), (Instr.makeFunc fn first cap).run Try.prog w = .ok (.func fn first cap) w := fun _ _ _ _ => rfl
  go_enter_defers Try.func82, Try.ntmps82
  go_wp2_with (go_at_call 100; refine (newReader_any s _).mono ?_; rintro e w' ⟨rfl, rfl⟩)
  have hL : (((w.alloc (.cells #[.slice none 0 0] 22)).alloc (.cells #[.bool false] 4)).alloc (rdr s 0)).heap[w.heap.size]? = some (.cells #[.slice none 0 0] 22 (0, 0)) := three_0 _ _ _ _
  have hE : (((w.alloc (.cells #[.slice none 0 0] 22)).alloc (.cells #[.bool false] 4)).alloc (rdr s 0)).heap[w.heap.size + 1]? = some (.cells #[.bool false] 4 (0, 0)) := three_1 _ _ _ _
  have hR : (((w.alloc (.cells #[.slice none 0 0] 22)).alloc (.cells #[.bool false] 4)).alloc (rdr s 0)).heap[w.heap.size + 1 + 1]? = some (rdr s 0) := three_2 _ _ _ _
  have hS : (((w.alloc (.cells #[.slice none 0 0] 22)).alloc (.cells #[.bool false] 4)).alloc (rdr s 0)).heap.size = w.heap.size + 3 := by simp
  have hB : Below w.heap.size w (((w.alloc (.cells #[.slice none 0 0] 22)).alloc (.cells #[.bool false] 4)).alloc (rdr s 0)) := (((Below.refl _ _).alloc (Nat.le_refl _) _).alloc (by simp) _).alloc (by simp; omega) _
  generalize (((w.alloc (.cells #[.slice none 0 0] 22)).alloc (.cells #[.bool false] 4)).alloc (rdr s 0)) = W3 at *
  refine (HCL.out W3 (w.heap.size + 1 + 1) hB rfl hR).mono ?_
  rintro e w4 ⟨hK4, ⟨v, n, xs, q, rfl, hR4, hq, hown, hQ⟩ | ⟨q, rfl, hN⟩⟩
  · have hL4 : w4.heap[w.heap.size]? = some (.cells #[.slice none 0 0] 22 (0, 0)) := Kp.block hK4 hL (by omega)
    have hE4 : w4.heap[w.heap.size + 1]? = some (.cells #[.bool false] 4 (0, 0)) := Kp.block hK4 hE (by omega)
    have hB4 : Below w.heap.size w w4 := hB.trans ((hK4.below (by omega)).mono (by omega))
    have hne : v.ownBlock ≠ some w.heap.size ∧ v.ownBlock ≠ some (w.heap.size + 1) := ⟨fun e => by have := (hown.lt _ e).1; omega, fun e => by have := (hown.lt _ e).1; omega⟩
    obtain ⟨ao, cap, hv⟩ := pk_shape hown
    subst hv
    have HO4 : Hid (w4.ownsRow w.heap.size el size (.slice ao n cap) n xs) := ownsRow_base hown (by omega)
    have HNE : Hid _ := hne
    have HQ : Hid (Q n xs q) := hQ
    obtain ⟨cl, fl⟩ := one_frozenI hL4
    obtain ⟨ce, fe⟩ := one_frozenI hE4
    have HL4 : Hid _ := hL4
    have HE4 : Hid _ := hE4
    have HB4 : Hid _ := hB4
    have HR4 : Hid (w4.heap[w.heap.size + 1 + 1]? = some (rdr s q)) := hR4
    clear hL hE hR hS hB hL4 hE4 hK4 hR4 hown hQ hB4 hne
    clear W3
    by_cases hend : q < s.size
    · go_wp2_with (go_at_call 111; refine (end_bad (w.heap.size + 1 + 1) q s _ hm hend (by rw [heap_setCell_other _ _ _ _ (by simp; omega)]; exact HR4.out)).mono ?_; rintro e w' ⟨rfl, m, rfl⟩)
      have hL5 : ((w4.setCell ⟨w.heap.size, 0, none⟩ (.slice ao n cap)).drewN m).heap[w.heap.size]? = some (.cells #[.slice ao n cap] 22 (0, 0)) := one_setI _ HL4.out
      have hE5 : ((w4.setCell ⟨w.heap.size, 0, none⟩ (.slice ao n cap)).drewN m).heap[w.heap.size + 1]? = some (.cells #[.bool false] 4 (0, 0)) := by
        show (w4.setCell ⟨w.heap.size, 0, none⟩ (.slice ao n cap)).heap[w.heap.size + 1]? = _
        rw [heap_setCell_other _ _ _ _ (by simp)]; exact HE4.out
      have hB5 := below_drewN (HB4.out.setCell (p := ⟨w.heap.size, 0, none⟩) (Nat.le_refl _) (.slice ao n cap)) m
      generalize (w4.setCell ⟨w.heap.size, 0, none⟩ (.slice ao n cap)).drewN m = w5 at *
      obtain ⟨f1, f2, f3⟩ := wholeI_bad (.slice none 0 0) (.bool false) hL5 hE5 hB5
      refine leaves_cons (f := 118) (args := #[.pointer (some ⟨w.heap.size, 0, none⟩), .pointer (some ⟨w.heap.size + 1, 0, none⟩)]) (by simp) (by simp [go_sem]) ?_
      refine (catchI_at _ hL5 hE5).mono ?_
      rintro e u' w'' ⟨rfl, rfl, rfl⟩
      simp [Leaves, settle, results, Try.results82, go_sem, f1, f2]
      exact ⟨f3, .inr ⟨n, xs, q, HQ.out, hend⟩⟩
    · obtain rfl : q = s.size := by omega
      go_wp2_with (go_at_call 111; refine (end_ok (w.heap.size + 1 + 1) s.size s _ hm (by omega) (by rw [heap_setCell_other _ _ _ _ (by simp; omega)]; exact HR4.out)).mono ?_; rintro e w' ⟨rfl, m, rfl⟩)
      have hL5 : ((w4.setCell ⟨w.heap.size, 0, none⟩ (.slice ao n cap)).drewN m).heap[w.heap.size]? = some (.cells #[.slice ao n cap] 22 (0, 0)) := one_setI _ HL4.out
      have hE5 : ((w4.setCell ⟨w.heap.size, 0, none⟩ (.slice ao n cap)).drewN m).heap[w.heap.size + 1]? = some (.cells #[.bool false] 4 (0, 0)) := by
        show (w4.setCell ⟨w.heap.size, 0, none⟩ (.slice ao n cap)).heap[w.heap.size + 1]? = _
        rw [heap_setCell_other _ _ _ _ (by simp)]; exact HE4.out
      have hB5 := below_drewN (HB4.out.setCell (p := ⟨w.heap.size, 0, none⟩) (Nat.le_refl _) (.slice ao n cap)) m
      have hO5 : ((w4.setCell ⟨w.heap.size, 0, none⟩ (.slice ao n cap)).drewN m).ownsRow w.heap.size el size (.slice ao n cap) n xs := ownsRow_drewN (ownsRow_setCell_other HO4.out HNE.out.1 _) m
      have hO6 : (((w4.setCell ⟨w.heap.size, 0, none⟩ (.slice ao n cap)).drewN m).setCell ⟨w.heap.size, 0, none⟩ (.slice ao n cap)).ownsRow w.heap.size el size (.slice ao n cap) n xs := ownsRow_setCell_other hO5 HNE.out.1 _
      have hO7 : ((((w4.setCell ⟨w.heap.size, 0, none⟩ (.slice ao n cap)).drewN m).setCell ⟨w.heap.size, 0, none⟩ (.slice ao n cap)).setCell ⟨w.heap.size + 1, 0, none⟩ (.bool true)).ownsRow w.heap.size el size (.slice ao n cap) n xs := ownsRow_setCell_other hO6 HNE.out.2 _
      obtain ⟨f1, f2, f3⟩ := wholeI_bad (.slice ao n cap) (.bool true) hL5 hE5 hB5
      generalize (((w4.setCell ⟨w.heap.size, 0, none⟩ (.slice ao n cap)).drewN m).setCell ⟨w.heap.size, 0, none⟩ (.slice ao n cap)).setCell ⟨w.heap.size + 1, 0, none⟩ (.bool true) = Wf at *
      refine leaves_cons (f := 118) (args := #[.pointer (some ⟨w.heap.size, 0, none⟩), .pointer (some ⟨w.heap.size + 1, 0, none⟩)]) (by simp) (by simp [go_sem]) ?_
      refine (catchI_idle ⟨w.heap.size, 0, none⟩ ⟨w.heap.size + 1, 0, none⟩ _).mono ?_
      rintro e u' w'' ⟨rfl, rfl, rfl⟩
      simp [Leaves, settle, results, Try.results82, go_sem, f1, f2]
      exact ⟨f3, n, xs, hO7, HQ.out⟩
  · have hL4 : w4.heap[w.heap.size]? = some (.cells #[.slice none 0 0] 22 (0, 0)) := Kp.block hK4 hL (by omega)
    have hE4 : w4.heap[w.heap.size + 1]? = some (.cells #[.bool false] 4 (0, 0)) := Kp.block hK4 hE (by omega)
    have hB4 : Below w.heap.size w w4 := hB.trans ((hK4.below (by omega)).mono (by omega))
    clear hL hE hR hS hB hK4
    clear W3
    obtain ⟨f1, f2, f3⟩ := wholeI_bad (.slice none 0 0) (.bool false) hL4 hE4 hB4
    refine leaves_cons (f := 118) (args := #[.pointer (some ⟨w.heap.size, 0, none⟩), .pointer (some ⟨w.heap.size + 1, 0, none⟩)]) (by simp) (by simp [go_sem]) ?_
    refine (catchI_at _ hL4 hE4).mono ?_
    rintro e u' w'' ⟨rfl, rfl, rfl⟩
    simp [Leaves, settle, results, Try.results82, go_sem, f1, f2]
    exact ⟨f3, .inl hN⟩
end Go.Proofs.Ytjidbonhhpkljaa.Pk

/- The contract of the code's Unpack: the document's answer, in new memory. -/
set_option linter.unusedVariables false
namespace Go.Proofs.Ytjidbonhhpkljaa.Pk
open Go.RowKit Go.Proofs.Ytjidbonhhpkljaa.Pm

theorem heldOf_ok (s : ByteArray) (wd cn : Nat) : (readOk s 0 wd cn ∧ 0 + (cn * wd + 7) / 8 = s.size) ↔ unpackOk s wd cn = true := by
  have hv : restV s 0 = V (bytesOf s) := by simp [restV]
  rw [unpackOk_iff, readOk, hv]
  have hl := V_lt (bytesOf s) (bytesOf_lt s)
  rw [bytesOf_length, pow256] at hl
  constructor
  · rintro ⟨⟨h1, h2⟩, h3⟩
    rw [Nat.zero_add] at h3
    refine ⟨h3.symm, ?_⟩
    unfold heldOf at h2
    rw [h3, Nat.mod_eq_of_lt hl] at h2
    rcases Nat.div_eq_zero_iff.1 h2 with h4 | h4
    · have := Nat.pow_pos (n := wd * cn) (show 0 < 2 by omega); omega
    · exact h4
  · rintro ⟨h1, h2⟩
    refine ⟨⟨by omega, ?_⟩, by omega⟩
    unfold heldOf
    rw [← h1, Nat.mod_eq_of_lt hl]
    exact Nat.div_eq_of_lt h2


set_option maxRecDepth 100000 in
set_option maxHeartbeats 1000000 in
theorem unpackC_any (s : ByteArray) (r wd cn x y : Nat) (w : World) (hm : s.size ≤ maxLen) (hw : wd ≤ 16) (hcn : cn ≤ 100) (h : w.heap[r]? = some (rdr s 0))
    (hx : w.cell? ⟨x, 0, none⟩ = some (.int .i64 wd)) (hy : w.cell? ⟨y, 0, none⟩ = some (.int .i64 cn)) :
    Calls Try.prog 52 #[.pointer (some ⟨r, 0, none⟩), .pointer (some ⟨x, 0, none⟩), .pointer (some ⟨y, 0, none⟩)] w fun e w' => Kp r w w' ∧
      ((∃ v n xs q, e = .returned v ∧ w'.heap[r]? = some (rdr s q) ∧ q ≤ s.size ∧ w'.ownsRow w.heap.size 3 1 v n xs ∧ (n = cn ∧ xs = icells (intsOf (D wd (V (bytesOf s)) cn)) ∧ q = (cn * wd + 7) / 8 ∧ readOk s 0 wd cn)) ∨
       (∃ q, e = .panicked (badAt q) ∧ ¬ readOk s 0 wd cn)) := by
  have HR : Hid (w.heap[r]? = some (rdr s 0)) := h
  clear h
  go_enter Try.func52, Try.ntmps52
  go_wp2_with fail
  refine (readPacked_any s r 0 wd cn _ hm hw hcn (Nat.zero_le _) HR.out).mono ?_
  rintro e w' ⟨hK, ⟨rfl, h1, h2, h3⟩ | ⟨q, rfl, h1⟩⟩
  · have H2 : Hid (w'.heap[r]? = some (rdr s (0 + (cn * wd + 7) / 8))) := h2
    have HK : Hid (Kp r w w') := hK
    have HO : Hid (readOk s 0 wd cn) := h1
    have H3 : Hid _ := h3
    clear h2 hx hy hK h1 h3
    go_wp2
    go_ret
    exact ⟨HK.out, .inl ⟨_, cn, _, (cn * wd + 7) / 8, rfl, by simpa using H2.out, by have := HO.out.1; omega, H3.out, rfl, by simp [restV], rfl, HO.out⟩⟩
  · have HK : Hid (Kp r w w') := hK
    have HO : Hid (¬ readOk s 0 wd cn) := h1
    clear hx hy hK h1
    go_wp2
    exact ⟨rfl, HK.out, .inr ⟨q, rfl, HO.out⟩⟩

set_option maxRecDepth 100000 in
set_option maxHeartbeats 1000000 in
theorem readWholeI_any (s : ByteArray) (wd cn x y : Nat) (w : World) (hm : s.size ≤ maxLen) (hw : wd ≤ 16) (hcn : cn ≤ 100)
    (hx : w.cell? ⟨x, 0, none⟩ = some (.int .i64 wd)) (hy : w.cell? ⟨y, 0, none⟩ = some (.int .i64 cn)) (hxl : x < w.heap.size) (hyl : y < w.heap.size) :
    Calls Try.prog 51 #[.string s, .func (.func 52) #[] #[.pointer (some ⟨x, 0, none⟩), .pointer (some ⟨y, 0, none⟩)]] w fun e w' => Below w.heap.size w w' ∧
      ((∃ v, e = .returned (.tuple #[v, .int .i64 0]) ∧ w'.ownsRow w.heap.size 3 1 v cn (icells (intsOf (D wd (V (bytesOf s)) cn))) ∧ unpackOk s wd cn = true) ∨ (e = .returned (.tuple #[.slice none 0 0, .int .i64 3]) ∧ unpackOk s wd cn = false)) := by
  have HX : Hid _ := hx
  have HY : Hid _ := hy
  clear hx hy
  go_enter Try.func51, Try.ntmps51
  go_wp2_with fail
  refine (wholeI_any (.pointer (some ⟨x, 0, none⟩)) (.pointer (some ⟨y, 0, none⟩)) s w hm 3 1 (fun n xs q => n = cn ∧ xs = icells (intsOf (D wd (V (bytesOf s)) cn)) ∧ q = (cn * wd + 7) / 8 ∧ readOk s 0 wd cn) (¬ readOk s 0 wd cn)
    (fun W r hb hr hR => unpackC_any s r wd cn x y W hm hw hcn hR ((hb.cell (p := ⟨x, 0, none⟩) hxl).trans HX.out) ((hb.cell (p := ⟨y, 0, none⟩) hyl).trans HY.out))).mono ?_
  rintro e w1 ⟨hB, ⟨v, n, xs, rfl, hown, rfl, rfl, hq, hro⟩ | ⟨rfl, hN⟩⟩
  · have HB : Hid _ := hB
    have HO : Hid (w1.ownsRow w.heap.size 3 1 v n (icells (intsOf (D wd (V (bytesOf s)) n)))) := hown
    have HU : Hid (unpackOk s wd n = true) := (heldOf_ok s wd n).1 ⟨hro, by omega⟩
    clear hB hown hq hro
    go_wp2
    go_ret2
    exact ⟨HB.out, .inl ⟨v, rfl, HO.out, HU.out⟩⟩
  · have HB : Hid _ := hB
    have HU : Hid (unpackOk s wd cn = false) := by
      show _ = _
      rw [Bool.eq_false_iff]
      intro hu
      obtain ⟨h1, h2⟩ := (heldOf_ok s wd cn).2 hu
      rcases hN with hN | ⟨n, xs, q, ⟨_, _, hq, _⟩, hlt⟩
      · exact hN h1
      · omega
    clear hB hN
    go_wp2
    go_ret2
    exact ⟨HB.out, .inr ⟨rfl, HU.out⟩⟩

theorem two_0 (w : World) (a b : Obj) : ((w.alloc a).alloc b).heap[w.heap.size]? = some a := by
  rw [Below.heap_alloc _ _ _ (by simp)]; exact heap_alloc_new w a
theorem two_1 (w : World) (a b : Obj) : ((w.alloc a).alloc b).heap[w.heap.size + 1]? = some b := by
  have := heap_alloc_new (w.alloc a) b
  rwa [show (w.alloc a).heap.size = w.heap.size + 1 from by simp] at this

set_option maxRecDepth 100000 in
set_option maxHeartbeats 1000000 in
theorem cUnpack_any (s : ByteArray) (wd cn : Int) (w : World) (hm : s.size ≤ maxLen) :
    Calls Try.prog 24 #[.string s, .int .i64 wd, .int .i64 cn] w fun e w' => ∃ v, e = .returned (.tuple #[v, .int .i64 (unpackOf s wd cn).2]) ∧
      w'.ownsRow w.heap.size 3 1 v (unpackOf s wd cn).1.length (icells (unpackOf s wd cn).1) ∧ ((unpackOf s wd cn).2 ≠ 0 → v = .slice none 0 0) ∧ Below w.heap.size w w' := by
  have hB : Below w.heap.size w ((w.alloc (.cells #[.int .i64 wd] 3)).alloc (.cells #[.int .i64 cn] 3)) := ((Below.refl _ _).alloc (Nat.le_refl _) _).alloc (by simp) _
  have H := checkPacking_any cn wd
  by_cases h1 : cn < 0 ∨ 100 < cn
  · rw [unpackOf_long h1]
    rw [show packE cn wd = 6 from by simp [packE, h1]] at H
    clear h1
    go_enter Try.func24, Try.ntmps24
    go_wp2_with (go_at_call 36; refine (H _).mono ?_; rintro e w' ⟨rfl, rfl⟩)
    go_ret2
    exact ⟨_, rfl, World.ownsRow_nil _ _ _ _, fun _ => rfl, hB⟩
  by_cases h2 : wd < 0 ∨ 16 < wd
  · rw [unpackOf_wide h1 h2]
    rw [show packE cn wd = 2 from by simp [packE, h1, h2]] at H
    clear h1 h2
    go_enter Try.func24, Try.ntmps24
    go_wp2_with (go_at_call 36; refine (H _).mono ?_; rintro e w' ⟨rfl, rfl⟩)
    go_ret2
    exact ⟨_, rfl, World.ownsRow_nil _ _ _ _, fun _ => rfl, hB⟩
  rw [show packE cn wd = 0 from by simp [packE, h1, h2]] at H
  obtain ⟨cm, rfl⟩ := Int.eq_ofNat_of_zero_le (show 0 ≤ cn by omega)
  obtain ⟨wm, rfl⟩ := Int.eq_ofNat_of_zero_le (show 0 ≤ wd by omega)
  have h3 : cm ≤ 100 := by omega
  have h4 : wm ≤ 16 := by omega
  clear h1 h2
  have c0 := cell_of_one (two_0 w (.cells #[.int .i64 (wm : Int)] 3 (0, 0)) (.cells #[.int .i64 (cm : Int)] 3 (0, 0)))
  have c1 := cell_of_one (two_1 w (.cells #[.int .i64 (wm : Int)] 3 (0, 0)) (.cells #[.int .i64 (cm : Int)] 3 (0, 0)))
  have hmf : ∀ (fn : Fn) (first cap : Array Value) (w : World), (Instr.makeFunc fn first cap).run Try.prog w = .ok (.func fn first cap) w := fun _ _ _ _ => rfl
  have hsz : ((w.alloc (.cells #[.int .i64 (wm : Int)] 3)).alloc (.cells #[.int .i64 (cm : Int)] 3)).heap.size = w.heap.size + 2 := by simp
  have C0 : Hid _ := c0
  have C1 : Hid _ := c1
  have HSZ : Hid _ := hsz
  clear c0 c1 hsz
  by_cases hok : unpackOk s wm cm = true
  · rw [unpackOf_ok h3 h4 hok]
    have HOK : Hid (unpackOk s wm cm = true) := hok
    clear hok
    go_enter Try.func24, Try.ntmps24
    go_wp2_with (go_at_call 36; refine (H _).mono ?_; rintro e w' ⟨rfl, rfl⟩)
    generalize ((w.alloc (.cells #[.int .i64 (wm : Int)] 3)).alloc (.cells #[.int .i64 (cm : Int)] 3)) = W2 at *
    refine (readWholeI_any s wm cm w.heap.size (w.heap.size + 1) W2 hm h4 h3 C0.out C1.out (by have := HSZ.out; omega) (by have := HSZ.out; omega)).mono ?_
    rintro e w' ⟨hbel, ⟨v, rfl, hown, _⟩ | ⟨_, hno⟩⟩
    rotate_left
    · rw [HOK.out] at hno; cases hno
    go_wp2
    go_ret2
    have hsz := HSZ.out
    refine ⟨_, rfl, ?_, fun h => absurd rfl h, hB.trans (hbel.mono (by omega))⟩
    have hl : (intsOf (D wm (V (bytesOf s)) cm)).length = cm := by simp [intsOf, D_length]
    show w'.ownsRow w.heap.size 3 1 _ (intsOf (D wm (V (bytesOf s)) cm)).length _
    rw [hl]
    exact ownsRow_base hown (by omega)
  · have hok2 : unpackOk s wm cm = false := by simpa using hok
    rw [unpackOf_bad h3 h4 hok2]
    have HOK : Hid (unpackOk s wm cm = false) := hok2
    clear hok hok2
    go_enter Try.func24, Try.ntmps24
    go_wp2_with (go_at_call 36; refine (H _).mono ?_; rintro e w' ⟨rfl, rfl⟩)
    generalize ((w.alloc (.cells #[.int .i64 (wm : Int)] 3)).alloc (.cells #[.int .i64 (cm : Int)] 3)) = W2 at *
    refine (readWholeI_any s wm cm w.heap.size (w.heap.size + 1) W2 hm h4 h3 C0.out C1.out (by have := HSZ.out; omega) (by have := HSZ.out; omega)).mono ?_
    rintro e w' ⟨hbel, ⟨v, rfl, hown, hno⟩ | ⟨rfl, _⟩⟩
    · rw [HOK.out] at hno; cases hno
    go_wp2
    go_ret2
    have hsz := HSZ.out
    exact ⟨_, rfl, World.ownsRow_nil _ _ _ _, fun _ => rfl, hB.trans (hbel.mono (by omega))⟩
end Go.Proofs.Ytjidbonhhpkljaa.Pk

/- The statement's book of lists of numbers that came out: what stays true of it while lists are written over and grow. -/
set_option linter.unusedVariables false
namespace Go.Proofs.Ytjidbonhhpkljaa.Pk
open Go.RowKit Go.Proofs.Ytjidbonhhpkljaa.Pm

theorem Try.infoOut : (Try.prog.info? 121).map (fun i => (i.zero, i.size, i.bytes)) = some (some (.agg #[.slice none 0 0, .int .i64 0]), 2, 32) := by kernel_rfl

/-- A list of numbers that reads as its mark says. -/
def Filled (w : World) (v : Value) (m : Int) : Prop :=
  ∃ ao n cap, v = .slice ao n cap ∧ n ≤ 1000 ∧ (0 < n → ∃ g cur, ao = some ⟨g, 0, none⟩ ∧ w.heap[g]? = some (.cells cur 3 (0, 0)) ∧ ∀ j, j < n → cur[j]? = some (.int .i64 (-1 - m)))

/-- The cells of the book's entries. -/
def ecells (es : List (Value × Int)) : List Value := es.flatMap fun e => [e.1, .int .i64 e.2]

theorem ecells_snoc (es : List (Value × Int)) (e : Value × Int) : ecells es ++ [e.1, .int .i64 e.2] = ecells (es ++ [e]) := by simp [ecells]
theorem ecells_length (es : List (Value × Int)) : (ecells es).length = es.length * 2 := by
  induction es with
  | nil => rfl
  | cons e r ih => simp only [ecells, List.flatMap_cons, List.length_append, List.length_cons, List.length_nil] at *; omega
theorem ecells_get (es : List (Value × Int)) (i : Nat) (h : i < es.length) : (ecells es)[2 * i]? = some es[i].1 ∧ (ecells es)[2 * i + 1]? = some (.int .i64 es[i].2) := by
  induction es generalizing i with
  | nil => simp at h
  | cons e r ih =>
    cases i with
    | zero => simp [ecells]
    | succ k =>
      have := ih k (by simpa using h)
      simp only [ecells, List.flatMap_cons, List.getElem_cons_succ] at *
      rw [List.getElem?_append_right (by simp; omega), List.getElem?_append_right (by simp; omega)]
      simp only [List.length_cons, List.length_nil]
      rw [show 2 * (k + 1) - (0 + 1 + 1) = 2 * k by omega, show 2 * (k + 1) + 1 - (0 + 1 + 1) = 2 * k + 1 by omega]
      exact this

/-- The book, with its entries. -/
structure BkInv (w : World) (base B : Nat) (iv : Value) (es : List (Value × Int)) : Prop where
  blk : w.heap[B]? = some (.cells #[iv, .slice none 0 0, .slice none 0 0, .slice none 0 0] 70 (0, 0))
  own : w.ownsRow base 121 2 iv es.length (ecells es)
  full : ∀ e ∈ es, Filled w e.1 e.2

theorem blk_ne {w : World} {a b : Nat} {c1 c2 : Array Value} {e1 e2 : TypeId} {f1 f2 : Nat × Nat} (h1 : w.heap[a]? = some (.cells c1 e1 f1)) (h2 : w.heap[b]? = some (.cells c2 e2 f2)) (hne : e1 ≠ e2) : a ≠ b := by
  intro h
  subst h
  rw [h1] at h2
  simp at h2
  exact hne h2.2.1

theorem Filled.other {w w' : World} {v : Value} {m : Int} {row : Option Nat} (h : Filled w v m) (hg : w.grownBy w' row)
    (hne : ∀ g cur, v.ownBlock = some g → w.heap[g]? = some (.cells cur 3 (0, 0)) → row ≠ some g) : Filled w' v m := by
  obtain ⟨ao, n, cap, rfl, hn, hf⟩ := h
  refine ⟨ao, n, cap, rfl, hn, fun h0 => ?_⟩
  obtain ⟨g, cur, rfl, hb, hc⟩ := hf h0
  exact ⟨g, cur, rfl, by rw [hg.block g (lt_of_block hb) (fun h => hne g cur rfl hb h.symm)]; exact hb, hc⟩

/-- The block of an owned row bears its elements' type. -/
theorem owns_blk {w : World} {base : Nat} {e : TypeId} {size : Nat} {v : Value} {n : Nat} {xs : List Value} (h : w.ownsRow base e size v n xs) {g : Nat} (hg : v.ownBlock = some g) :
    ∃ cur, w.heap[g]? = some (.cells cur e (0, 0)) := by
  rcases h.2 with ⟨rfl, _⟩ | ⟨g', cap, cur, rfl, _, h3, _⟩
  · simp [Value.ownBlock] at hg
  · simp [Value.ownBlock] at hg
    subst hg
    exact ⟨cur, h3⟩

theorem BkInv.other {w w' : World} {base B : Nat} {iv : Value} {es : List (Value × Int)} {row : Option Nat} (h : BkInv w base B iv es) (hg : w.grownBy w' row)
    (h3 : ∀ g, row = some g → (∃ cur, w.heap[g]? = some (.cells cur 3 (0, 0))) ∧ ∀ e ∈ es, ∀ ao n cap, e.1 = .slice ao n cap → 0 < n → e.1.ownBlock ≠ some g) : BkInv w' base B iv es := by
  refine ⟨?_, ?_, ?_⟩
  · rw [hg.block B (lt_of_block h.blk) (fun hr => ?_)]
    · exact h.blk
    · obtain ⟨⟨cur, hc⟩, _⟩ := h3 B hr.symm
      exact blk_ne hc h.blk (by decide) rfl
  · refine h.own.kept hg ?_
    by_cases hi : iv.ownBlock = none
    · exact .inl hi
    · refine .inr fun hr => ?_
      obtain ⟨g, hgi⟩ := Option.ne_none_iff_exists'.1 hi
      obtain ⟨cur, hc⟩ := owns_blk h.own hgi
      obtain ⟨⟨cur2, hc2⟩, _⟩ := h3 g (by rw [← hr, hgi])
      exact blk_ne hc hc2 (by decide) rfl
  · intro e he
    obtain ⟨ao, n, cap, h1, hn, hf⟩ := h.full e he
    rw [h1]
    refine ⟨ao, n, cap, rfl, hn, fun h0 => ?_⟩
    obtain ⟨g, cur, rfl, hb, hc⟩ := hf h0
    refine ⟨g, cur, rfl, ?_, hc⟩
    rw [hg.block g (lt_of_block hb) (fun hr => ?_)]
    · exact hb
    · exact (h3 g hr.symm).2 e he _ _ _ h1 h0 (by rw [h1]; rfl)

/-- An entry more: behind 'append' on the book's row and the store. -/
theorem BkInv.push {w w1 : World} {base B : Nat} {iv iv' v : Value} {k : Int} {es : List (Value × Int)} {n : Nat} {xs : List Value} (o : Obj) (h : BkInv w base B iv es) (hv : Filled w v k)
    (hl : w.ownsRow base 3 1 v n xs) (hB : base ≤ B) (hown : w1.ownsRow base 121 2 iv' (es.length + 1) (ecells es ++ [v, .int .i64 k])) (hg : (w.alloc o).grownBy w1 iv.ownBlock) :
    BkInv (w1.setCell ⟨B, 0, none⟩ iv') base B iv' (es ++ [(v, k)]) ∧ (w1.setCell ⟨B, 0, none⟩ iv').ownsRow base 3 1 v n xs := by
  have ha : w.grownBy (w.alloc o) none := World.grownBy_alloc w o none
  have hne : ∀ (b : Nat) (c : Array Value) (t : TypeId), w.heap[b]? = some (.cells c t (0, 0)) → t ≠ 121 → w1.heap[b]? = w.heap[b]? := by
    intro b c t hb ht
    rw [hg.block b (by have := lt_of_block hb; simp; omega) (fun hr => ?_), ha.block b (lt_of_block hb) (by simp)]
    obtain ⟨cur, hc⟩ := owns_blk h.own hr.symm
    exact blk_ne hb hc ht rfl
  have hB1 := hne B _ _ h.blk (by decide)
  rw [h.blk] at hB1
  have hB2 := heap_setCell_same w1 B 0 _ _ iv' hB1
  have hne2 : ∀ (b : Nat) (c : Array Value) (t : TypeId), w.heap[b]? = some (.cells c t (0, 0)) → t ≠ 121 → t ≠ 70 → (w1.setCell ⟨B, 0, none⟩ iv').heap[b]? = w.heap[b]? := by
    intro b c t hb ht ht2
    rw [heap_setCell_other w1 ⟨B, 0, none⟩ b iv' (fun hr => ?_), hne b c t hb ht]
    exact blk_ne hb h.blk ht2 hr
  have hfil : ∀ u m, Filled w u m → Filled (w1.setCell ⟨B, 0, none⟩ iv') u m := by
    rintro u m ⟨ao, n', cap, rfl, hn, hf⟩
    refine ⟨ao, n', cap, rfl, hn, fun h0 => ?_⟩
    obtain ⟨g, cur, rfl, hb, hc⟩ := hf h0
    exact ⟨g, cur, rfl, by rw [hne2 g _ _ hb (by decide) (by decide)]; exact hb, hc⟩
  refine ⟨⟨?_, ?_, ?_⟩, ?_⟩
  · rw [hB2]; rfl
  · rw [List.length_append, List.length_singleton, ← ecells_snoc]
    refine ownsRow_setCell_other hown (fun hr => ?_) _
    obtain ⟨cur, hc⟩ := owns_blk hown hr
    exact blk_ne hc hB1 (by decide) rfl
  · intro e he
    rcases List.mem_append.1 he with h1 | h1
    · exact hfil _ _ (h.full e h1)
    · simp at h1
      subst h1
      exact hfil _ _ hv
  · refine ⟨hl.1, ?_⟩
    rcases hl.2 with h1 | ⟨g, cap, cur, h1, h2, h3, h4⟩
    · exact .inl h1
    · exact .inr ⟨g, cap, cur, h1, h2, by rw [hne2 g _ _ h3 (by decide) (by decide)]; exact h3, h4⟩

theorem Filled.mk {w : World} {base : Nat} {v : Value} {n : Nat} {x : Int} (h : w.ownsRow base 3 1 v n (icells (List.replicate n (-1 - x)))) (hn : n ≤ 1000) : Filled w v x := by
  rcases h.2 with ⟨rfl, rfl⟩ | ⟨g, cap, cur, rfl, _, h3, _, _, _, h7⟩
  · exact ⟨none, 0, 0, rfl, by omega, by omega⟩
  · refine ⟨_, n, cap, rfl, hn, fun h0 => ⟨g, cur, rfl, h3, fun j hj => ?_⟩⟩
    have := congrArg (fun l => l[j]?) h7
    simp only [Nat.mul_one] at this
    rw [List.getElem?_take, if_pos hj, icells_get _ _ (by simpa using hj)] at this
    simpa using this

/-- Of the entries those that stand in the row of v are no longer than n, and bear the mark k. -/
def Shares (v : Value) (n : Nat) (k : Int) (es : List (Value × Int)) : Prop := ∀ e ∈ es, ∀ g n' cap', e.1 = .slice (some ⟨g, 0, none⟩) n' cap' → 0 < n' → v.ownBlock = some g → e.2 = k ∧ n' ≤ n

/-- The list grows by one more mark. -/
theorem BkInv.grow {w w1 : World} {base B : Nat} {iv v v' : Value} {k : Int} {es : List (Value × Int)} {n : Nat} (o : Obj) (h : BkInv w base B iv es) (hs : Shares v n k es)
    (hl : w.ownsRow base 3 1 v n (icells (List.replicate n (-1 - k)))) (hown : w1.ownsRow base 3 1 v' (n + 1) (icells (List.replicate (n + 1) (-1 - k))))
    (hg : ((w.alloc o).grownBy w1 none ∧ w1.ownsRow (w.alloc o).heap.size 3 1 v' (n + 1) (icells (List.replicate (n + 1) (-1 - k)))) ∨ (v'.ownBlock = v.ownBlock ∧ (w.alloc o).grownBy w1 v.ownBlock)) :
    BkInv w1 base B iv es ∧ Shares v' (n + 1) k es := by
  have ha := h.other (World.grownBy_alloc w o none) (fun g hg => by cases hg)
  rcases hg with ⟨hg, hnew⟩ | ⟨hv, hg⟩
  · refine ⟨ha.other hg (fun g hg => by cases hg), ?_⟩
    intro e he g n' cap' h1 h0 hvg
    exfalso
    obtain ⟨ao, n2, cap2, h2, _, hf⟩ := ha.full e he
    rw [h1] at h2
    simp only [Value.slice.injEq] at h2
    obtain ⟨rfl, rfl, rfl⟩ := h2
    obtain ⟨g2, cur, hg2, hb, _⟩ := hf h0
    simp only [Option.some.injEq, Addr.mk.injEq, and_true] at hg2
    subst hg2
    have := lt_of_block hb
    have := (hnew.lt g hvg).1
    omega
  · rcases hown.2 with ⟨_, h0⟩ | ⟨g0, cap0, cur0, rfl, _, hb0, _, _, _, ht0⟩
    · omega
    have hv0 : v.ownBlock = some g0 := by rw [← hv]; rfl
    rw [hv0] at hg
    obtain ⟨curA, hcA⟩ := owns_blk (hl.alloc o) hv0
    have hcell : ∀ j, j < n + 1 → cur0[j]? = some (.int .i64 (-1 - k)) := by
      intro j hj
      have := congrArg (fun l => l[j]?) ht0
      simp only [Nat.mul_one] at this
      rw [List.getElem?_take, if_pos hj, icells_get _ _ (by simpa using hj)] at this
      simpa using this
    refine ⟨⟨?_, ?_, ?_⟩, ?_⟩
    · rw [hg.block B (lt_of_block ha.blk) (fun hr => ?_)]
      · exact ha.blk
      · simp at hr
        subst hr
        exact blk_ne hcA ha.blk (by decide) rfl
    · refine ha.own.kept hg ?_
      by_cases hi : iv.ownBlock = none
      · exact .inl hi
      · refine .inr fun hr => ?_
        obtain ⟨cur, hc⟩ := owns_blk ha.own hr
        exact blk_ne hc hcA (by decide) rfl
    · intro e he
      obtain ⟨ao, n2, cap2, h2, hn2, hf⟩ := ha.full e he
      rw [h2]
      refine ⟨ao, n2, cap2, rfl, hn2, fun hp => ?_⟩
      obtain ⟨g, cur, rfl, hb, hc⟩ := hf hp
      by_cases hgg : g = g0
      · subst hgg
        obtain ⟨hm, hle⟩ := hs e he g n2 cap2 h2 hp hv0
        exact ⟨g, cur0, rfl, hb0, fun j hj => by rw [hm]; exact hcell j (by omega)⟩
      · exact ⟨g, cur, rfl, by rw [hg.block g (lt_of_block hb) (by simp; exact hgg)]; exact hb, hc⟩
    · intro e he g n' cap' h1 hp hvg
      obtain ⟨hm, hle⟩ := hs e he g n' cap' h1 hp (by rw [hv0]; exact hvg)
      exact ⟨hm, by omega⟩
end Go.Proofs.Ytjidbonhhpkljaa.Pk
