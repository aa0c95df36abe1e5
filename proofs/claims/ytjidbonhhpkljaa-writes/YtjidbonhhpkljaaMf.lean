/- What the proof stands on: WrBand, WrUntil, WrFileC, WrApp, WrFoot. -/
import Derived.Test.YtjidbonhhpkljaaMe
import Derived.Deep.RegionHeld3
import Derived.Deep.AppendLies
import Derived.OrdersHeld
import Derived.RegionTactic
import Derived.Below
import Derived.Outline

/- A band of rows: the program's side. -/
set_option linter.unusedVariables false
namespace Go.Proofs.Ytjidbonhhpkljaa.Ec
open Go.RowKit Go.Proofs.Ytjidbonhhpkljaa.Pk Go.Proofs.Ytjidbonhhpkljaa.Pm

theorem Grew.lies {w w1 : World} {v : Value} {o : Obj} {g n cap : Nat} (hg : (w.alloc o).grownBy w1 v.ownBlock) (hat : v.ownBlock = some g ∨ g = (w.alloc o).heap.size) : Grew w w1 v (.slice (some ⟨g, 0, none⟩) n cap) := by
  refine ((Grew.refl w v).alloc o).trans ⟨hg, fun k hk => ?_⟩
  simp [Value.ownBlock] at hk
  subst hk
  rcases hat with h | h
  · exact .inl h
  · exact .inr (by omega)

theorem own_form {w : World} {base : Nat} {e : TypeId} {size : Nat} {v : Value} {n : Nat} {xs : List Value} (h : w.ownsRow base e size v n xs) : ∃ ao cap, v = .slice ao n cap := by
  rcases h.2 with ⟨rfl, rfl⟩ | ⟨g, cap, cur, rfl, -⟩
  · exact ⟨none, 0, rfl⟩
  · exact ⟨_, cap, rfl⟩
theorem own_at {w : World} {base : Nat} {e : TypeId} {size : Nat} {v : Value} {n : Nat} {xs : List Value} {g : Nat} (h : w.ownsRow base e size v n xs) (hg : v.ownBlock = some g) : ∃ cur, w.heap[g]? = some (.cells cur e (0, 0)) := by
  rcases h.2 with ⟨rfl, -⟩ | ⟨g', cap, cur, rfl, -, h3, -⟩
  · simp [Value.ownBlock] at hg
  · simp [Value.ownBlock] at hg
    subst hg
    exact ⟨cur, h3⟩
theorem own_far {w : World} {base : Nat} {e : TypeId} {size : Nat} {v : Value} {n : Nat} {xs : List Value} {g : Nat} {cs : Array Value} {t : TypeId} (h : w.ownsRow base e size v n xs) (hb : w.heap[g]? = some (.cells cs t (0, 0))) (hne : t ≠ e) : some g ≠ v.ownBlock := by
  intro hg
  obtain ⟨cur, hc⟩ := own_at h hg.symm
  rw [hb] at hc
  simp at hc
  exact hne hc.2
theorem apart_of {w : World} {base base2 : Nat} {e e2 : TypeId} {size size2 : Nat} {v v2 : Value} {n n2 : Nat} {xs xs2 : List Value} (h : w.ownsRow base e size v n xs) (h2 : w.ownsRow base2 e2 size2 v2 n2 xs2) (hne : e ≠ e2) : Apart v v2 := by
  cases hv : v.ownBlock with
  | none => exact .inl hv
  | some g =>
    right
    rw [hv]
    obtain ⟨cur, hc⟩ := own_at h hv
    exact own_far h2 hc hne

theorem alloc_at3 (w : World) (o p q : Obj) : (((w.alloc o).alloc p).alloc q).heap[w.heap.size + 2]? = some q := by
  have := alloc_at ((w.alloc o).alloc p) q
  rwa [show ((w.alloc o).alloc p).heap.size = w.heap.size + 2 by simp] at this
/-- Where bandOf stands. -/
structure BdSt (w W : World) (bd : Int) (ev : Value) (bo : Bool) (n : Nat) (kv : Value) (l : List Chk) : Prop where
  opt : W.heap[w.heap.size]? = some (.cells #[.int .i64 bd, ev, .bool bo] 54 (0, 0))
  res : W.heap[w.heap.size + 1]? = some (.cells #[.int .i64 0, .slice none 0 0] 152 (0, 0))
  box : W.heap[w.heap.size + 2]? = some (.cells #[.int .i64 (n : Int), kv] 152 (0, 0))
  own : W.ownsRow w.heap.size 156 8 kv l.length (kcells l)
  bel : Below w.heap.size w W
theorem BdSt.below {w W W1 : World} {bd : Int} {ev : Value} {bo : Bool} {n : Nat} {kv : Value} {l : List Chk} (h : BdSt w W bd ev bo n kv l) (hb : Below W.heap.size W W1) : BdSt w W1 bd ev bo n kv l :=
  ⟨(hb.block _ (lt_of_block h.opt)).trans h.opt, (hb.block _ (lt_of_block h.res)).trans h.res, (hb.block _ (lt_of_block h.box)).trans h.box, ownsRow_below h.own hb, h.bel.trans (hb.mono h.bel.size)⟩
theorem BdSt.grew {w W W1 : World} {bd : Int} {ev : Value} {bo : Bool} {n : Nat} {kv kv' : Value} {l l' : List Chk} (h : BdSt w W bd ev bo n kv l) (hg : Grew W W1 kv kv') (ho : W1.ownsRow w.heap.size 156 8 kv' l'.length (kcells l')) :
    BdSt w (W1.setCell ⟨w.heap.size + 2, 1, none⟩ kv') bd ev bo n kv' l' := by
  have h1 := (hg.by_.block _ (lt_of_block h.opt) (own_far h.own h.opt (by decide))).trans h.opt
  have h2 := (hg.by_.block _ (lt_of_block h.res) (own_far h.own h.res (by decide))).trans h.res
  have h3 := (hg.by_.block _ (lt_of_block h.box) (own_far h.own h.box (by decide))).trans h.box
  have h4 := heap_setCell_same W1 (w.heap.size + 2) 1 _ _ kv' h3
  have hbb := h.bel.trans (hg.below (fun g hg => (h.own.lt g hg).1) h.bel.size)
  refine ⟨?_, ?_, h4, ?_, ?_⟩
  · rw [heap_setCell_other _ _ _ _ (by simp)]; exact h1
  · rw [heap_setCell_other _ _ _ _ (by simp)]; exact h2
  · exact ho.kept (box_set_grown W1 _ 1 kv') (.inr (own_far ho h3 (by decide)).symm)
  · exact below_set hbb hbb.size (by omega) _ _
theorem BdSt.cells {w W : World} {bd : Int} {ev : Value} {bo : Bool} {n : Nat} {kv : Value} {l : List Chk} (h : BdSt w W bd ev bo n kv l) :
    W.cell? ⟨w.heap.size, 1, none⟩ = some ev ∧ W.cell? ⟨w.heap.size, 2, none⟩ = some (.bool bo) ∧ W.cell? ⟨w.heap.size + 2, 0, none⟩ = some (.int .i64 (n : Int)) ∧ W.cell? ⟨w.heap.size + 2, 1, none⟩ = some kv ∧ W.frozen? ⟨w.heap.size + 2, 1, none⟩ = false := by
  have h1 := h.opt
  have h2 := h.box
  exact ⟨by simp [World.cell?, h1], by simp [World.cell?, h1], by simp [World.cell?, h2], by simp [World.cell?, h2], by simp [World.frozen?, h2]⟩

theorem chk_cells {w : World} {g : Nat} {c : Chk} {t : TypeId} (h : w.heap[g]? = some (.cells (kcell c).toArray t (0, 0))) :
    (w.cell? ⟨g, 0, none⟩ = some (.string c.text) ∧ w.cell? ⟨g, 1, none⟩ = some (.bool c.bnd.there) ∧ w.cell? ⟨g, 2, none⟩ = some (.bool c.bnd.least.null) ∧ w.cell? ⟨g, 3, none⟩ = some (.int .i64 c.bnd.least.n) ∧ w.cell? ⟨g, 4, none⟩ = some (.string c.bnd.least.s) ∧
      w.cell? ⟨g, 5, none⟩ = some (.bool c.bnd.most.null) ∧ w.cell? ⟨g, 6, none⟩ = some (.int .i64 c.bnd.most.n) ∧ w.cell? ⟨g, 7, none⟩ = some (.string c.bnd.most.s)) ∧
    (w.frozen? ⟨g, 1, none⟩ = false ∧ w.frozen? ⟨g, 2, none⟩ = false ∧ w.frozen? ⟨g, 3, none⟩ = false ∧ w.frozen? ⟨g, 4, none⟩ = false ∧ w.frozen? ⟨g, 5, none⟩ = false ∧ w.frozen? ⟨g, 6, none⟩ = false ∧ w.frozen? ⟨g, 7, none⟩ = false) := by
  unfold kcell at h
  refine ⟨⟨?_, ?_, ?_, ?_, ?_, ?_, ?_, ?_⟩, ?_, ?_, ?_, ?_, ?_, ?_, ?_⟩ <;> first | simp [World.cell?, h] | simp [World.frozen?, h]

/-- A chunk's bounds are written into its box. -/
theorem chk_set {w : World} {g : Nat} {s : ByteArray} {b0 : Bnd} (b : Bnd) {t : TypeId} (h : w.heap[g]? = some (.cells (kcell ⟨s, b0⟩).toArray t (0, 0))) :
    (((((((w.setCell ⟨g, 1, none⟩ (.bool b.there)).setCell ⟨g, 2, none⟩ (.bool b.least.null)).setCell ⟨g, 3, none⟩ (.int .i64 b.least.n)).setCell ⟨g, 4, none⟩ (.string b.least.s)).setCell ⟨g, 5, none⟩ (.bool b.most.null)).setCell ⟨g, 6, none⟩ (.int .i64 b.most.n)).setCell ⟨g, 7, none⟩ (.string b.most.s)).heap[g]? = some (.cells (kcell ⟨s, b⟩).toArray t (0, 0)) := by
  have h1 : (w.setCell ⟨g, 1, none⟩ (.bool b.there)).heap[g]? = some (.cells #[.string s, .bool b.there, .bool b0.least.null, .int .i64 b0.least.n, .string b0.least.s, .bool b0.most.null, .int .i64 b0.most.n, .string b0.most.s] t (0, 0)) := heap_setCell_same _ g 1 _ _ (.bool b.there) h
  have h2 : ((w.setCell ⟨g, 1, none⟩ (.bool b.there)).setCell ⟨g, 2, none⟩ (.bool b.least.null)).heap[g]? = some (.cells #[.string s, .bool b.there, .bool b.least.null, .int .i64 b0.least.n, .string b0.least.s, .bool b0.most.null, .int .i64 b0.most.n, .string b0.most.s] t (0, 0)) := heap_setCell_same _ g 2 _ _ (.bool b.least.null) h1
  have h3 : (((w.setCell ⟨g, 1, none⟩ (.bool b.there)).setCell ⟨g, 2, none⟩ (.bool b.least.null)).setCell ⟨g, 3, none⟩ (.int .i64 b.least.n)).heap[g]? = some (.cells #[.string s, .bool b.there, .bool b.least.null, .int .i64 b.least.n, .string b0.least.s, .bool b0.most.null, .int .i64 b0.most.n, .string b0.most.s] t (0, 0)) := heap_setCell_same _ g 3 _ _ (.int .i64 b.least.n) h2
  have h4 : ((((w.setCell ⟨g, 1, none⟩ (.bool b.there)).setCell ⟨g, 2, none⟩ (.bool b.least.null)).setCell ⟨g, 3, none⟩ (.int .i64 b.least.n)).setCell ⟨g, 4, none⟩ (.string b.least.s)).heap[g]? = some (.cells #[.string s, .bool b.there, .bool b.least.null, .int .i64 b.least.n, .string b.least.s, .bool b0.most.null, .int .i64 b0.most.n, .string b0.most.s] t (0, 0)) := heap_setCell_same _ g 4 _ _ (.string b.least.s) h3
  have h5 : (((((w.setCell ⟨g, 1, none⟩ (.bool b.there)).setCell ⟨g, 2, none⟩ (.bool b.least.null)).setCell ⟨g, 3, none⟩ (.int .i64 b.least.n)).setCell ⟨g, 4, none⟩ (.string b.least.s)).setCell ⟨g, 5, none⟩ (.bool b.most.null)).heap[g]? = some (.cells #[.string s, .bool b.there, .bool b.least.null, .int .i64 b.least.n, .string b.least.s, .bool b.most.null, .int .i64 b0.most.n, .string b0.most.s] t (0, 0)) := heap_setCell_same _ g 5 _ _ (.bool b.most.null) h4
  have h6 : ((((((w.setCell ⟨g, 1, none⟩ (.bool b.there)).setCell ⟨g, 2, none⟩ (.bool b.least.null)).setCell ⟨g, 3, none⟩ (.int .i64 b.least.n)).setCell ⟨g, 4, none⟩ (.string b.least.s)).setCell ⟨g, 5, none⟩ (.bool b.most.null)).setCell ⟨g, 6, none⟩ (.int .i64 b.most.n)).heap[g]? = some (.cells #[.string s, .bool b.there, .bool b.least.null, .int .i64 b.least.n, .string b.least.s, .bool b.most.null, .int .i64 b.most.n, .string b0.most.s] t (0, 0)) := heap_setCell_same _ g 6 _ _ (.int .i64 b.most.n) h5
  have h7 : (((((((w.setCell ⟨g, 1, none⟩ (.bool b.there)).setCell ⟨g, 2, none⟩ (.bool b.least.null)).setCell ⟨g, 3, none⟩ (.int .i64 b.least.n)).setCell ⟨g, 4, none⟩ (.string b.least.s)).setCell ⟨g, 5, none⟩ (.bool b.most.null)).setCell ⟨g, 6, none⟩ (.int .i64 b.most.n)).setCell ⟨g, 7, none⟩ (.string b.most.s)).heap[g]? = some (.cells #[.string s, .bool b.there, .bool b.least.null, .int .i64 b.least.n, .string b.least.s, .bool b.most.null, .int .i64 b.most.n, .string b.most.s] t (0, 0)) := heap_setCell_same _ g 7 _ _ (.string b.most.s) h6
  exact h7

theorem eight_at (w : World) (c : Chk) (t : TypeId) : ∀ (j : Nat) (u : Value), (kcell c)[j]? = some u → (w.alloc (.cells (kcell c).toArray t)).cell? ((⟨w.heap.size, 0, none⟩ : Addr).add j) = some u := by
  intro j u hj
  have hlt : j < 8 := by
    have := (List.getElem?_eq_some_iff.1 hj).1
    simpa [kcell] using this
  have : j = 0 ∨ j = 1 ∨ j = 2 ∨ j = 3 ∨ j = 4 ∨ j = 5 ∨ j = 6 ∨ j = 7 := by omega
  rcases this with rfl | rfl | rfl | rfl | rfl | rfl | rfl | rfl <;> (simp [kcell] at hj; subst hj; simp [Addr.add, kcell])
theorem eight_one (c : Chk) : ∀ u ∈ kcell c, u.oneCell' = true := by
  intro u hu
  simp [kcell] at hu
  rcases hu with rfl | rfl | rfl | rfl | rfl | rfl | rfl | rfl <;> rfl

theorem colVals_in {rows : List (List Val)} {pl : Nat} (h : ∀ r ∈ rows, ∀ x ∈ r, VIn x) (hp : ∀ r ∈ rows, pl < r.length) : ∀ x ∈ colVals rows pl, VIn x := by
  intro x hx
  unfold colVals at hx
  obtain ⟨r, hr, rfl⟩ := List.mem_map.1 hx
  have hl := hp r hr
  rw [List.getD_eq_getElem?_getD, List.getElem?_eq_getElem hl]
  exact h r hr _ (List.getElem_mem hl)
theorem colVals_length (rows : List (List Val)) (pl : Nat) : (colVals rows pl).length = rows.length := by simp [colVals]

theorem Try.info156 : (Try.prog.info? 156).map (fun i => (i.zero, i.size, i.bytes)) = some (some (.agg #[.string ⟨#[]⟩, .bool false, .bool false, .int .i64 0, .string ⟨#[]⟩, .bool false, .int .i64 0, .string ⟨#[]⟩]), 8, 88) := by kernel_rfl

theorem BdSt.put {w W : World} {bd : Int} {ev : Value} {bo : Bool} {n : Nat} {kv : Value} {l : List Chk} (h : BdSt w W bd ev bo n kv l) {g : Nat} (hg : w.heap.size + 2 < g) (hne : kv.ownBlock ≠ some g) (o : Nat) (v : Value) :
    BdSt w (W.setCell ⟨g, o, none⟩ v) bd ev bo n kv l := by
  refine ⟨?_, ?_, ?_, h.own.kept (box_set_grown W g o v) (.inr hne), below_set h.bel h.bel.size (by omega) _ _⟩
  · rw [heap_setCell_other _ _ _ _ (by simp; omega)]; exact h.opt
  · rw [heap_setCell_other _ _ _ _ (by simp; omega)]; exact h.res
  · rw [heap_setCell_other _ _ _ _ (by simp; omega)]; exact h.box
/-- Bounds that are written into a box of a chunk leave the rest. -/
theorem BdSt.far {w W : World} {bd : Int} {ev : Value} {bo : Bool} {n : Nat} {kv : Value} {l : List Chk} (h : BdSt w W bd ev bo n kv l) {g : Nat} (hg : w.heap.size + 2 < g) (hne : kv.ownBlock ≠ some g) (b : Bnd) :
    BdSt w (((((((W.setCell ⟨g, 1, none⟩ (.bool b.there)).setCell ⟨g, 2, none⟩ (.bool b.least.null)).setCell ⟨g, 3, none⟩ (.int .i64 b.least.n)).setCell ⟨g, 4, none⟩ (.string b.least.s)).setCell ⟨g, 5, none⟩ (.bool b.most.null)).setCell ⟨g, 6, none⟩ (.int .i64 b.most.n)).setCell ⟨g, 7, none⟩ (.string b.most.s)) bd ev bo n kv l :=
  ((((((h.put hg hne _ _).put hg hne _ _).put hg hne _ _).put hg hne _ _).put hg hne _ _).put hg hne _ _).put hg hne _ _

theorem BdSt.kept {w W W1 : World} {bd : Int} {ev : Value} {bo : Bool} {n : Nat} {kv kv' : Value} {l : List Chk} (h : BdSt w W bd ev bo n kv l) (hg : Grew W W1 kv kv') :
    W1.cell? ⟨w.heap.size + 2, 1, none⟩ = some kv ∧ W1.frozen? ⟨w.heap.size + 2, 1, none⟩ = false := by
  have h3 := (hg.by_.block _ (lt_of_block h.box) (own_far h.own h.box (by decide))).trans h.box
  exact ⟨by simp [World.cell?, h3], by simp [World.frozen?, h3]⟩

theorem chkP_at {rows : List (List Val)} {cs : List Col} {es : List Int} {bo : Bool} {k : Nat} (h1 : k < cs.length) (h2 : k < es.length) :
    chkP rows cs es bo k = ⟨(encOf (colVals rows k) cs[k].kind (es.getD k 0)).1, if bo then boundsP (colVals rows k) else noBnd⟩ := by
  unfold chkP
  rw [List.getD_eq_getElem?_getD (l := cs), List.getElem?_eq_getElem h1]
  rfl

set_option maxRecDepth 100000 in
set_option maxHeartbeats 8000000 in
theorem bandOf_any (rows : List (List Val)) (cs : List Col) (es : List Int) (bd : Int) (bo : Bool) (rv cv ev : Value) (w : World) (hz : rows.length ≤ 100) (hok : ∀ r ∈ rows, r.length = cs.length) (hin : ∀ r ∈ rows, ∀ x ∈ r, VIn x) (hcl : cs.length ≤ 8) (hel : es.length = cs.length)
    (hrs : RSl w rv rows) (hcs : CSl w cv cs) (hes : ISl w ev es) :
    Calls Try.prog 94 #[rv, cv, .agg #[.int .i64 bd, ev, .bool bo]] w fun e w' => ∃ kv, e = .returned (.agg #[.int .i64 (rows.length : Int), kv]) ∧ w'.ownsRow w.heap.size 156 8 kv cs.length (kcells (chksP rows cs es bo cs.length)) ∧ Below w.heap.size w w' := by
  obtain ⟨j0, hj, hy0, hy1, hy2⟩ := info_parts Try.info156
  have HRS : Hid (RSl w rv rows) := hrs
  have HOK : Hid (∀ r ∈ rows, r.length = cs.length) := hok
  have HIN : Hid (∀ r ∈ rows, ∀ x ∈ r, VIn x) := hin
  obtain ⟨ro, rb, roff, rcap, rfl, hrcap, -⟩ := hrs
  obtain ⟨co, cb, coff, ccap, rfl, hccap, hcr⟩ := hcs
  obtain ⟨eo, eb, eoff, ecap, rfl, he1, he2, he3⟩ := hes
  have HCR : Hid (CRow w co cb coff cs) := hcr
  have HE1 : Hid (0 < es.length → eo = some ⟨eb, eoff, none⟩) := he1
  have HE2 : Hid (0 < es.length → eb < w.heap.size) := he2
  have HE3 : Hid (∀ j, j < es.length → w.cell? ⟨eb, eoff + j, none⟩ = some (.int .i64 (es.getD j 0))) := he3
  have HEL : Hid (es.length = cs.length) := hel
  clear hok hin hcr he1 he2 he3 hel
  go_enter Try.func94, Try.ntmps94
  go_upto_region 2 with fail
  have hS0 : BdSt w (((w.alloc (.cells #[.int .i64 bd, .slice eo es.length ecap, .bool bo] 54)).alloc (.cells #[.int .i64 0, .slice none 0 0] 152)).alloc (.cells #[.int .i64 (rows.length : Int), .slice none 0 0] 152)) bd (.slice eo es.length ecap) bo rows.length (.slice none 0 0) (chksP rows cs es bo 0) := by
    refine ⟨alloc_old _ (by simp; omega) (alloc_old _ (by simp) (alloc_at w _)), alloc_old _ (by simp) (alloc_at2 w _ _), alloc_at3 w _ _ _, ?_, ?_⟩
    · exact ⟨by simp [chksP, kcells], .inl ⟨rfl, by simp [chksP]⟩⟩
    · exact (below_box2 _ _).alloc (by simp; omega) _
  generalize ((w.alloc (.cells #[.int .i64 bd, .slice eo es.length ecap, .bool bo] 54)).alloc (.cells #[.int .i64 0, .slice none 0 0] 152)).alloc (.cells #[.int .i64 (rows.length : Int), .slice none 0 0] 152) = W0 at *
  go_wp2_with fail
  go_loopw [19] (fun i wr => ∃ (k : Nat) (kv : Value), k ≤ cs.length ∧ i = .int .i64 (k : Int) ∧ BdSt w wr bd (.slice eo es.length ecap) bo rows.length kv (chksP rows cs es bo k)) (fun i _ => cs.length - (intOf i).toNat)
  case atStart => exact ⟨0, _, Nat.zero_le _, rfl, hS0⟩
  case round =>
    clear hS0
    obtain ⟨k, kv, hk, rfl, hS⟩ := hrel
    have HS : Hid (BdSt w wr bd (.slice eo es.length ecap) bo rows.length kv (chksP rows cs es bo k)) := hS
    by_cases hlt : k < cs.length
    · have hle : k < es.length := by rw [HEL.out]; exact hlt
      have hsz : w.heap.size ≤ wr.heap.size := hS.bel.size
      have hcr := HCR.out.below hS.bel
      obtain rfl := hcr.addr (by omega)
      obtain rfl := HE1.out (by omega)
      have p0 := hcr.c0 k hlt
      have p1 := hcr.c1 k hlt
      have HLB : Hid (eb < wr.heap.size) := Nat.lt_of_lt_of_le (HE2.out (by omega)) hsz
      have e0 : wr.cell? ⟨eb, eoff + k, none⟩ = some (.int .i64 (es.getD k 0)) := (hS.bel.cell (p := ⟨eb, eoff + k, none⟩) (HE2.out (by omega))).trans (HE3.out k hle)
      have HP : Hid (chksP rows cs es bo (k + 1) = chksP rows cs es bo k ++ [⟨(encOf (colVals rows k) cs[k].kind (es.getD k 0)).1, if bo then boundsP (colVals rows k) else noBnd⟩]) := by
        show _ = _
        rw [chksP_succ, chkP_at hlt hle]
      have HVI : Hid (∀ x ∈ colVals rows k, VIn x) := colVals_in HIN.out (fun r hr => by rw [HOK.out r hr]; exact hlt)
      have HCL : Hid ((colVals rows k).length = rows.length) := colVals_length rows k
      have HCO : Hid (∀ W, Below w.heap.size w W → Calls Try.prog 123 #[.slice ro rows.length rcap, .int .i64 (k : Int)] W fun e w' => Below W.heap.size W w' ∧ ∃ v, e = .returned v ∧ w'.ownsRow W.heap.size 39 3 v rows.length (vcells (colVals rows k))) := fun W hW =>
        columnOf_any rows k _ W hz (fun r hr => ⟨by rw [HOK.out r hr]; exact hlt, by rw [HOK.out r hr]; unfold maxLen; omega⟩) (HRS.out.below hW)
      have hki : (k : Int) < (es.length : Int) := by omega
      generalize hL : colVals rows k = L at *
      generalize hc : cs[k] = c at *
      generalize he : es.getD k 0 = en at *
      clear hcr hL hc he hS
      have HEN : Hid (∀ W lv, VSl W lv L → Calls Try.prog 17 #[lv, .int .i64 c.kind, .int .i64 en] W fun r w' => r = .returned (.tuple #[.string (encOf L c.kind en).1, .int .i64 (encOf L c.kind en).2]) ∧ Below W.heap.size W w') := fun W lv h =>
        cEncode_any lv L c.kind en W (by rw [HCL.out]; unfold maxLen; omega) HVI.out h
      have HBO : Hid (∀ W lv, VSl W lv L → Calls Try.prog 124 #[lv] W fun e w' => e = .returned (bval (boundsP L)) ∧ Below W.heap.size W w') := fun W lv h =>
        boundsOf_any lv L W (by rw [HCL.out]; exact hz) h
      go_upto_region 6 with (go_at_call 123; refine (HCO.out _ (HS.out.bel.alloc hsz _)).mono ?_; rintro e w1 ⟨hb1, lv, rfl, hol⟩)
      have hb1' : Below wr.heap.size wr w1 := below_box hb1
      have q1 : w1.cell? ⟨wr.heap.size, 1, none⟩ = some (.int .i64 c.kind) := (hb1.cell (p := ⟨wr.heap.size, 1, none⟩) (by simp)).trans (two_cells wr _ _ _).2
      have HS1 : Hid (BdSt w w1 bd (.slice (some ⟨eb, eoff, none⟩) es.length ecap) bo rows.length kv (chksP rows cs es bo k)) := HS.out.below hb1'
      obtain ⟨t0, t1, t2, t3, t4⟩ := HS1.out.cells
      have e1 : w1.cell? ⟨eb, eoff + k, none⟩ = some (.int .i64 en) := (hb1'.cell (p := ⟨eb, eoff + k, none⟩) HLB.out).trans e0
      have HVS : Hid (VSl w1 lv L) := VSl.of_owns (by rw [HCL.out]; exact hol)
      have g1 : wr.heap.size < w1.heap.size := by have := hb1.size; simp at this; omega
      have g2 : w.heap.size < w1.heap.size := by omega
      have g3 : eb < w1.heap.size := by have := HLB.out; omega
      clear p0 p1 e0 hb1 hb1' HCO hol t2 t3 t4 HLB
      generalize wr.heap.size = gc at *
      go_cut [11, 12] from 27 to 38 (fun v11 v12 wx => v11 = .string (encOf L c.kind en).1 ∧ Below w1.heap.size w1 wx)
      case first =>
        have HE2 : Hid (Calls Try.prog 17 #[lv, .int .i64 c.kind, .int .i64 en] w1.drew fun r w' => r = .returned (.tuple #[.string (encOf L c.kind en).1, .int .i64 (encOf L c.kind en).2]) ∧ Below w1.drew.heap.size w1.drew w') := HEN.out _ _ (HVS.out.below ((Below.refl _ _).drew))
        go_region_held3 (fun W => W.cell? ⟨gc, 1, none⟩ = some (.int .i64 c.kind) ∧ W.cell? ⟨w.heap.size, 1, none⟩ = some (.slice (some ⟨eb, eoff, none⟩) es.length ecap) ∧ W.cell? ⟨eb, eoff + k, none⟩ = some (.int .i64 en)) (go_keep) ((go_at_call 17; refine HE2.out.mono ?_; rintro e w2 ⟨rfl, hb2⟩; have hb3 : Below w1.heap.size w1 w2 := ((Below.refl w1.heap.size w1).drew).trans hb2; have k0 := (hb3.cell (p := ⟨gc, 1, none⟩) g1).trans q1; have k1 := (hb3.cell (p := ⟨w.heap.size, 1, none⟩) g2).trans t0; have k2 := (hb3.cell (p := ⟨eb, eoff + k, none⟩) g3).trans e1; clear hb2))
        all_goals
          have HB3 : Hid (Below w1.heap.size w1 w2) := hb3
          clear hb3 k0 k1 k2
          go_wp2_with fail
          go_meet
          exact ⟨rfl, HB3.out⟩
      case rest =>
        rename World => wx
        obtain ⟨rfl, hbx⟩ := hcut
        have HSx : Hid (BdSt w wx bd (.slice (some ⟨eb, eoff, none⟩) es.length ecap) bo rows.length kv (chksP rows cs es bo k)) := HS1.out.below hbx
        have HVX : Hid (VSl wx lv L) := HVS.out.below hbx
        clear HS1 HVS HEN q1 t0 t1 e1 hbx g1 g2 g3 HS
        generalize (encOf L c.kind en).1 = tx at *
        go_upto_region 8 with fail
        have hck : (wx.alloc (.cells (kcell ⟨tx, noBnd⟩).toArray 156)).heap[wx.heap.size]? = some (.cells (kcell ⟨tx, noBnd⟩).toArray 156 (0, 0)) := alloc_at _ _
        have hS1 : BdSt w (wx.alloc (.cells (kcell ⟨tx, noBnd⟩).toArray 156)) bd (.slice (some ⟨eb, eoff, none⟩) es.length ecap) bo rows.length kv (chksP rows cs es bo k) := HSx.out.below ((Below.refl _ _).alloc (Nat.le_refl _) _)
        have hv1 : VSl (wx.alloc (.cells (kcell ⟨tx, noBnd⟩).toArray 156)) lv L := HVX.out.below ((Below.refl _ _).alloc (Nat.le_refl _) _)
        have hgk : w.heap.size + 2 < wx.heap.size := lt_of_block HSx.out.box
        have HNE : Hid (kv.ownBlock ≠ some wx.heap.size) := fun h => by have := (HSx.out.own.lt _ h).2; omega
        rw [show (kcell ⟨tx, noBnd⟩).toArray = #[.string tx, .bool false, .bool false, .int .i64 0, .string ⟨#[]⟩, .bool false, .int .i64 0, .string ⟨#[]⟩] from rfl] at hS1 hv1 hck
        generalize wx.alloc (.cells #[.string tx, .bool false, .bool false, .int .i64 0, .string ⟨#[]⟩, .bool false, .int .i64 0, .string ⟨#[]⟩] 156) = W1 at *
        have hck1 : W1.heap[wx.heap.size]? = some (.cells (kcell ⟨tx, noBnd⟩).toArray 156 (0, 0)) := hck
        generalize wx.heap.size = gk at *
        have HS1 : Hid (BdSt w W1 bd (.slice (some ⟨eb, eoff, none⟩) es.length ecap) bo rows.length kv (chksP rows cs es bo k)) := hS1
        have HV1 : Hid (VSl W1 lv L) := hv1
        have HCK : Hid (W1.heap[gk]? = some (.cells (kcell ⟨tx, noBnd⟩).toArray 156 (0, 0))) := hck1
        clear hck hS1 hv1 hck1 HSx HVX
        have hsz1 : w.heap.size ≤ W1.heap.size := HS1.out.bel.size
        obtain ⟨t0, t1, t2, t3, t4⟩ := HS1.out.cells
        cases bo
        · have HP2 : Hid (chksP rows cs es false (k + 1) = chksP rows cs es false k ++ [⟨tx, noBnd⟩]) := HP.out
          clear HP HBO
          go_upto_region 10 with fail
          obtain ⟨⟨c0, c1, c2, c3, c4, c5, c6, c7⟩, -⟩ := chk_cells HCK.out
          have hown := HS1.out.own
          rw [chksP_length] at hown
          go_wp2_with (at_builtin; refine wpList_append_lies _ rfl _ _ 150 rfl w.heap.size 156 j0 _ 8 88 Try.underlying150 hj hy0 hy1 hy2 rfl (by decide) _ k _ rfl (hown.alloc _) ⟨W1.heap.size, 0, none⟩ 1 1 (kcell ⟨tx, noBnd⟩) rfl rfl (eight_at W1 ⟨tx, noBnd⟩ _) (eight_one _) (by decide) (by unfold maxLen; omega) (by omega) (by simp; omega) _ rfl ?_; intro g2 cap2 w2 hown2 hgr2 hat2 hlt2; have hg2 := Grew.lies (n := k + 1) (cap := cap2) hgr2 hat2; obtain ⟨y0, y1⟩ := HS1.out.kept hg2)
          have ho2 : w2.ownsRow w.heap.size 156 8 (.slice (some ⟨g2, 0, none⟩) (k + 1) cap2) (chksP rows cs es false (k + 1)).length (kcells (chksP rows cs es false (k + 1))) := by
            rw [chksP_length, HP2.out]
            unfold kcells at hown2 ⊢
            rw [List.flatMap_append, List.flatMap_singleton]
            exact hown2
          have HF : Hid (BdSt w (w2.setCell ⟨w.heap.size + 2, 1, none⟩ (.slice (some ⟨g2, 0, none⟩) (k + 1) cap2)) bd (.slice (some ⟨eb, eoff, none⟩) es.length ecap) false rows.length (.slice (some ⟨g2, 0, none⟩) (k + 1) cap2) (chksP rows cs es false (k + 1))) := HS1.out.grew hg2 ho2
          clear hown hown2 hgr2 hg2 y0 y1 ho2 hat2 hlt2
          go_roundw
          case rel => exact ⟨k + 1, _, by omega, by go_num, HF.out⟩
          case measure => simp [intOf]; omega
        · have HP2 : Hid (chksP rows cs es true (k + 1) = chksP rows cs es true k ++ [⟨tx, boundsP L⟩]) := HP.out
          clear HP
          go_upto_region 10 with (go_at_call 124; refine (HBO.out _ _ HV1.out).mono ?_; unfold bval; rintro e w2 ⟨rfl, hb2⟩; have hck2 := (hb2.block gk (lt_of_block HCK.out)).trans HCK.out; obtain ⟨⟨c0, c1, c2, c3, c4, c5, c6, c7⟩, f1, f2, f3, f4, f5, f6, f7⟩ := chk_cells hck2)
          have hck3 := chk_set (boundsP L) hck2
          have hS3 := (HS1.out.below hb2).far hgk HNE.out (boundsP L)
          clear c0 c1 c2 c3 c4 c5 c6 c7 f1 f2 f3 f4 f5 f6 f7 hck2 HBO HV1 HCK t0 t1 t2 t3 t4 hsz1
          generalize boundsP L = B at *
          generalize ((((((w2.setCell ⟨gk, 1, none⟩ (.bool B.there)).setCell ⟨gk, 2, none⟩ (.bool B.least.null)).setCell ⟨gk, 3, none⟩ (.int .i64 B.least.n)).setCell ⟨gk, 4, none⟩ (.string B.least.s)).setCell ⟨gk, 5, none⟩ (.bool B.most.null)).setCell ⟨gk, 6, none⟩ (.int .i64 B.most.n)).setCell ⟨gk, 7, none⟩ (.string B.most.s) = W3 at *
          have HS3 : Hid (BdSt w W3 bd (.slice (some ⟨eb, eoff, none⟩) es.length ecap) true rows.length kv (chksP rows cs es true k)) := hS3
          clear hS3 hb2
          have hsz3 : w.heap.size ≤ W3.heap.size := HS3.out.bel.size
          obtain ⟨t0, t1, t2, t3, t4⟩ := HS3.out.cells
          obtain ⟨⟨c0, c1, c2, c3, c4, c5, c6, c7⟩, -⟩ := chk_cells hck3
          have hown := HS3.out.own
          rw [chksP_length] at hown
          go_wp2_with (at_builtin; refine wpList_append_lies _ rfl _ _ 150 rfl w.heap.size 156 j0 _ 8 88 Try.underlying150 hj hy0 hy1 hy2 rfl (by decide) _ k _ rfl (hown.alloc _) ⟨W3.heap.size, 0, none⟩ 1 1 (kcell ⟨tx, B⟩) rfl rfl (eight_at W3 ⟨tx, B⟩ _) (eight_one _) (by decide) (by unfold maxLen; omega) (by omega) (by simp; omega) _ rfl ?_; intro g2 cap2 w2 hown2 hgr2 hat2 hlt2; have hg2 := Grew.lies (n := k + 1) (cap := cap2) hgr2 hat2; obtain ⟨y0, y1⟩ := HS3.out.kept hg2)
          have ho2 : w2.ownsRow w.heap.size 156 8 (.slice (some ⟨g2, 0, none⟩) (k + 1) cap2) (chksP rows cs es true (k + 1)).length (kcells (chksP rows cs es true (k + 1))) := by
            rw [chksP_length, HP2.out]
            unfold kcells at hown2 ⊢
            rw [List.flatMap_append, List.flatMap_singleton]
            exact hown2
          have HF : Hid (BdSt w (w2.setCell ⟨w.heap.size + 2, 1, none⟩ (.slice (some ⟨g2, 0, none⟩) (k + 1) cap2)) bd (.slice (some ⟨eb, eoff, none⟩) es.length ecap) true rows.length (.slice (some ⟨g2, 0, none⟩) (k + 1) cap2) (chksP rows cs es true (k + 1))) := HS3.out.grew hg2 ho2
          clear hown hown2 hgr2 hg2 y0 y1 ho2 hat2 hlt2
          go_roundw
          case rel => exact ⟨k + 1, _, by omega, by go_num, HF.out⟩
          case measure => simp [intOf]; omega
    · obtain rfl : k = cs.length := by omega
      obtain ⟨ko, kcap, rfl⟩ := own_form hS.own
      rw [chksP_length] at hS
      generalize hkv : Value.slice ko cs.length kcap = kv at hS
      obtain ⟨-, -, t2, t3, -⟩ := hS.cells
      have hown := hS.own
      rw [chksP_length] at hown
      have h1 := heap_setCell_same wr (w.heap.size + 1) 0 _ _ (.int .i64 (rows.length : Int)) hS.res
      have h2 := heap_setCell_same _ (w.heap.size + 1) 1 _ _ kv h1
      have HO : Hid (((wr.setCell ⟨w.heap.size + 1, 0, none⟩ (.int .i64 (rows.length : Int))).setCell ⟨w.heap.size + 1, 1, none⟩ kv).ownsRow w.heap.size 156 8 kv cs.length (kcells (chksP rows cs es bo cs.length))) := by
        have a1 := hown.kept (box_set_grown wr (w.heap.size + 1) 0 (.int .i64 (rows.length : Int))) (.inr (own_far hown hS.res (by decide)).symm)
        exact a1.kept (box_set_grown _ (w.heap.size + 1) 1 kv) (.inr (own_far a1 h1 (by decide)).symm)
      have HB2 : Hid (Below w.heap.size w ((wr.setCell ⟨w.heap.size + 1, 0, none⟩ (.int .i64 (rows.length : Int))).setCell ⟨w.heap.size + 1, 1, none⟩ kv)) := below_set (below_set hS.bel hS.bel.size (by omega) _ _) (by simpa using hS.bel.size) (by omega) _ _
      have r0 : wr.cell? ⟨w.heap.size + 1, 0, none⟩ = some (.int .i64 0) := by have := hS.res; simp [World.cell?, this]
      have r1 : wr.cell? ⟨w.heap.size + 1, 1, none⟩ = some (.slice none 0 0) := by have := hS.res; simp [World.cell?, this]
      have f0 : wr.frozen? ⟨w.heap.size + 1, 0, none⟩ = false := by have := hS.res; simp [World.frozen?, this]
      have f1 : wr.frozen? ⟨w.heap.size + 1, 1, none⟩ = false := by have := hS.res; simp [World.frozen?, this]
      have s0 : ((wr.setCell ⟨w.heap.size + 1, 0, none⟩ (.int .i64 (rows.length : Int))).setCell ⟨w.heap.size + 1, 1, none⟩ kv).cell? ⟨w.heap.size + 1, 0, none⟩ = some (.int .i64 (rows.length : Int)) := by simp [World.cell?, h2]
      have s1 : ((wr.setCell ⟨w.heap.size + 1, 0, none⟩ (.int .i64 (rows.length : Int))).setCell ⟨w.heap.size + 1, 1, none⟩ kv).cell? ⟨w.heap.size + 1, 1, none⟩ = some kv := by simp [World.cell?, h2]
      clear hown h1 h2 hS HS
      subst hkv
      go_wp2
      simp [bodyPost, results, Try.results94, go_sem, s0, s1]
      exact ⟨HO.out, HB2.out⟩
end Go.Proofs.Ytjidbonhhpkljaa.Ec

/- Regions that draw their order, in which a cell is read first and written at the end: what is held of the world is held until a certain operation has come up, which waits for the reading. -/
set_option linter.unusedVariables false
namespace Go.Proofs.Ytjidbonhhpkljaa.Un
open Go.RowKit

section
variable {P : Program} {ops : Array Oper} {Q : Exit → Act → World → Prop} {md : Region.Mode} {S : World → Prop} {u : Nat}

/-- Whatever order is picked; S holds behind whatever comes up ahead of number u. -/
def Any (P : Program) (md : Region.Mode) (ops : Array Oper) (Q : Exit → Act → World → Prop) (S : World → Prop) (u : Nat) : Nat → Array Bool → Act → World → Prop
  | 0, listed, a, w => Region.ready md ops listed = [] ∧ Q .normal a w
  | n + 1, listed, a, w => (Region.ready md ops listed = [] → Q .normal a w) ∧
      ∀ i ∈ Region.ready md ops listed, wpOp P ops Q i (fun a' w' => ((listed.setIfInBounds i true).getD u true = false → S w') ∧ Any P md ops Q S u n (listed.setIfInBounds i true) a' w') a w

theorem any_of : ∀ (n : Nat) (listed : Array Bool) (a : Act) (w : World), Any P md ops Q S u n listed a w → wpAny P md ops Q n listed a w
  | 0, _, _, _, h => h
  | n + 1, _, _, _, h => ⟨h.1, fun i hi => wpOp_mono (fun a' w' x => any_of n _ a' w' x.2) (h.2 i hi)⟩

/-- Number u waits for number i. -/
def waits (md : Region.Mode) (ops : Array Oper) (u i : Nat) : Bool :=
  match ops[u]? with
  | some o => o.after.any fun e => Region.binds md e && e.on == i
  | none => false

theorem not_ready {i : Nat} {listed : Array Bool} (hw : waits md ops u i = true) (hi : listed.getD i true = false) : u ∉ Region.ready md ops listed := by
  intro hu
  obtain ⟨-, o, ho, hall⟩ := mem_ready.1 hu
  unfold waits at hw
  rw [ho] at hw
  obtain ⟨e, he, hb⟩ := Array.any_eq_true'.1 hw
  simp only [Bool.and_eq_true, beq_iff_eq] at hb
  have h1 := hall e he hb.1
  rw [hb.2] at h1
  rcases Nat.lt_or_ge i listed.size with h' | h'
  · simp [h'] at hi h1; rw [hi] at h1; cases h1
  · simp [Array.getElem?_eq_none h'] at h1

theorem first {i : Nat} {oi : Oper} {v : Value} (hi : ops[i]? = some oi) (hsel : ∀ (j : Nat) (o : Oper) cs b, ops[j]? = some o → o.op ≠ .select cs b) (hwt : waits md ops u i = true) (hne : u ≠ i)
    (hQ : ∀ c a w, Q (.panic c) (a.put oi.dst v) w → Q (.panic c) a w) :
    ∀ (n : Nat) (listed : Array Bool) (a : Act) (w : World),
      (∀ j oj, ops[j]? = some oj → j ≠ i → listed.getD j true = false → (∀ e ∈ oj.after, Region.binds md e = true → e.on ≠ i) → oi.apart ops oj = true) →
      i ∈ Region.ready md ops listed → listed.getD u true = false → YieldsIf P ops S oi v a → S w →
      Any P md ops Q S u n (listed.setIfInBounds i true) (a.put oi.dst v) w → Any P md ops Q S u (n + 1) listed a w := by
  intro n
  induction n with
  | zero =>
    intro listed a w _ hr hu hy hS H
    refine ⟨fun h => (by rw [h] at hr; cases hr), fun j hj => ?_⟩
    by_cases hji : j = i
    · subst hji; exact hy.wpOp hi hS ⟨fun _ => hS, H⟩
    · have := ready_mono hj hji
      rw [H.1] at this
      cases this
  | succ n ih =>
    intro listed a w hfree hr hu hy hS H
    refine ⟨fun h => (by rw [h] at hr; cases hr), fun j hj => ?_⟩
    by_cases hji : j = i
    · subst hji; exact hy.wpOp hi hS ⟨fun _ => hS, H⟩
    · have h0 := (mem_ready.1 hr).1
      have hju : j ≠ u := fun e => not_ready hwt h0 (e ▸ hj)
      have h1 := H.2 j (ready_mono hj hji)
      obtain ⟨hjun, oj, hoj, hall⟩ := mem_ready.1 hj
      have hnot : ∀ e ∈ oj.after, Region.binds md e = true → e.on ≠ i := fun e he hb heq => by
        have h1 := hall e he hb
        rw [heq] at h1
        rcases Nat.lt_or_ge i listed.size with h' | h'
        · simp [h'] at h0 h1; rw [h0] at h1; cases h1
        · simp [Array.getElem?_eq_none h'] at h1
      have h2 := wpOp_putIf hoj (hfree j oj hoj hji hjun hnot) (fun cs b => hsel i oi cs b hi) (fun cs b => hsel j oj cs b hoj) hQ hy h1
      have hfree' : ∀ k ok, ops[k]? = some ok → k ≠ i → (listed.setIfInBounds j true).getD k true = false →
          (∀ e ∈ ok.after, Region.binds md e = true → e.on ≠ i) → oi.apart ops ok = true := fun k ok hk hki hun hno => by
        refine hfree k ok hk hki ?_ hno
        by_cases hjk : j = k
        · subst hjk; exact hjun
        · rw [getD_set_ne true hjk] at hun; exact hun
      have hu1 : (listed.setIfInBounds j true).getD u true = false := by rw [getD_set_ne true hju]; exact hu
      have hu2 : ((listed.setIfInBounds i true).setIfInBounds j true).getD u true = false := by rw [getD_set_ne true hju, getD_set_ne true hne.symm]; exact hu
      refine wpOp_mono (fun a' w' h3 => ⟨fun _ => h3.2.1 hu2, ih (listed.setIfInBounds j true) a' w' hfree' (ready_mono hr (Ne.symm hji)) hu1 h3.1 (h3.2.1 hu2) ?_⟩) h2
      rw [Array.setIfInBounds_comm _ _ hji]
      exact h3.2.2

/-- What yields its value whatever the world is may be taken first at any time. -/
theorem ever {i : Nat} {oi : Oper} {v : Value} (hi : ops[i]? = some oi) (hsel : ∀ (j : Nat) (o : Oper) cs b, ops[j]? = some o → o.op ≠ .select cs b) (hne : u ≠ i)
    (hQ : ∀ c a w, Q (.panic c) (a.put oi.dst v) w → Q (.panic c) a w) :
    ∀ (n : Nat) (listed : Array Bool) (a : Act) (w : World),
      (∀ j oj, ops[j]? = some oj → j ≠ i → listed.getD j true = false → (∀ e ∈ oj.after, Region.binds md e = true → e.on ≠ i) → oi.apart ops oj = true) →
      i ∈ Region.ready md ops listed → (listed.getD u true = false → S w) → YieldsIf P ops (fun _ => True) oi v a →
      Any P md ops Q S u n (listed.setIfInBounds i true) (a.put oi.dst v) w → Any P md ops Q S u (n + 1) listed a w := by
  intro n
  induction n with
  | zero =>
    intro listed a w _ hr hu hy H
    refine ⟨fun h => (by rw [h] at hr; cases hr), fun j hj => ?_⟩
    by_cases hji : j = i
    · subst hji; exact hy.wpOp hi trivial ⟨fun h => hu (by rw [getD_set_ne true hne.symm] at h; exact h), H⟩
    · have := ready_mono hj hji
      rw [H.1] at this
      cases this
  | succ n ih =>
    intro listed a w hfree hr hu hy H
    refine ⟨fun h => (by rw [h] at hr; cases hr), fun j hj => ?_⟩
    by_cases hji : j = i
    · subst hji; exact hy.wpOp hi trivial ⟨fun h => hu (by rw [getD_set_ne true hne.symm] at h; exact h), H⟩
    · have h0 := (mem_ready.1 hr).1
      have h1 := H.2 j (ready_mono hj hji)
      obtain ⟨hjun, oj, hoj, hall⟩ := mem_ready.1 hj
      have hnot : ∀ e ∈ oj.after, Region.binds md e = true → e.on ≠ i := fun e he hb heq => by
        have h1 := hall e he hb
        rw [heq] at h1
        rcases Nat.lt_or_ge i listed.size with h' | h'
        · simp [h'] at h0 h1; rw [h0] at h1; cases h1
        · simp [Array.getElem?_eq_none h'] at h1
      have h2 := wpOp_putIf hoj (hfree j oj hoj hji hjun hnot) (fun cs b => hsel i oi cs b hi) (fun cs b => hsel j oj cs b hoj) hQ hy h1
      have hfree' : ∀ k ok, ops[k]? = some ok → k ≠ i → (listed.setIfInBounds j true).getD k true = false →
          (∀ e ∈ ok.after, Region.binds md e = true → e.on ≠ i) → oi.apart ops ok = true := fun k ok hk hki hun hno => by
        refine hfree k ok hk hki ?_ hno
        by_cases hjk : j = k
        · subst hjk; exact hjun
        · rw [getD_set_ne true hjk] at hun; exact hun
      have hui : ((listed.setIfInBounds i true).setIfInBounds j true).getD u true = (listed.setIfInBounds j true).getD u true := by
        rw [Array.setIfInBounds_comm _ _ (Ne.symm hji), getD_set_ne true hne.symm]
      refine wpOp_mono (fun a' w' h3 => ⟨fun h => h3.2.1 (hui.trans h), ih (listed.setIfInBounds j true) a' w' hfree' (ready_mono hr (Ne.symm hji)) (fun h => h3.2.1 (hui.trans h)) h3.1 ?_⟩) h2
      rw [Array.setIfInBounds_comm _ _ hji]
      exact h3.2.2

/-- Take a reading first. -/
theorem take {i : Nat} {oi : Oper} {v : Value} {n : Nat} {listed : Array Bool} {a : Act} {w : World} (hi : ops[i]? = some oi)
    (hs : Region.noSelect ops = true) (hf : Region.free md ops listed i = true) (hr : (Region.ready md ops listed).contains i = true) (hw : waits md ops u i = true) (hne : (u == i) = false) (hu : listed.getD u true = false)
    (hQ : ∀ c a w, Q (.panic c) (a.put oi.dst v) w → Q (.panic c) a w) (hy : YieldsIf P ops S oi v a) (hS : S w)
    (h : Any P md ops Q S u n (listed.setIfInBounds i true) (a.put oi.dst v) w) : Any P md ops Q S u (n + 1) listed a w :=
  first hi (Region.noSelect_spec hs) hw (by simpa using hne) hQ n listed a w (Region.free_spec hi hf) (by simpa using hr) hu hy hS h
/-- Take first what looks at no memory. -/
theorem pick {i : Nat} {oi : Oper} {v : Value} {n : Nat} {listed : Array Bool} {a : Act} {w : World} (hi : ops[i]? = some oi)
    (hs : Region.noSelect ops = true) (hf : Region.free md ops listed i = true) (hr : (Region.ready md ops listed).contains i = true) (hne : (u == i) = false)
    (hQ : ∀ c a w, Q (.panic c) (a.put oi.dst v) w → Q (.panic c) a w) (hy : YieldsIf P ops (fun _ => True) oi v a) (hS : S w)
    (h : Any P md ops Q S u n (listed.setIfInBounds i true) (a.put oi.dst v) w) : Any P md ops Q S u (n + 1) listed a w :=
  ever hi (Region.noSelect_spec hs) (by simpa using hne) hQ n listed a w (Region.free_spec hi hf) (by simpa using hr) (fun _ => hS) hy h
/-- One alone may come up. -/
theorem one {i : Nat} {o : Oper} {n : Nat} {listed : Array Bool} {a : Act} {w : World} (hr : Region.ready md ops listed = [i]) (ho : ops[i]? = some o)
    (h : ∀ K : Act → World → Prop, Hid (∀ a' w', ((listed.setIfInBounds i true).getD u true = false → S w') → Any P md ops Q S u n (listed.setIfInBounds i true) a' w' → K a' w') → if Region.wanted o (yielded ops a.tmps) = true then Oper.wp P o a w K Q else K (a.put o.dst undef) w) :
    Any P md ops Q S u (n + 1) listed a w := by
  refine ⟨fun h0 => (by rw [hr] at h0; cases h0), fun j hj => ?_⟩
  rw [hr] at hj
  simp at hj
  subst hj
  exact wpOp_step ho fun K hK => h K (fun a' w' h1 h2 => hK a' w' ⟨h1, h2⟩)
/-- Two may come up. -/
theorem pair {i j : Nat} {o o' : Oper} {n : Nat} {listed : Array Bool} {a : Act} {w : World} (hr : Region.ready md ops listed = [i, j]) (ho : ops[i]? = some o) (ho' : ops[j]? = some o')
    (h : ∀ K : Act → World → Prop, Hid (∀ a' w', ((listed.setIfInBounds i true).getD u true = false → S w') → Any P md ops Q S u n (listed.setIfInBounds i true) a' w' → K a' w') → if Region.wanted o (yielded ops a.tmps) = true then Oper.wp P o a w K Q else K (a.put o.dst undef) w)
    (h' : ∀ K : Act → World → Prop, Hid (∀ a' w', ((listed.setIfInBounds j true).getD u true = false → S w') → Any P md ops Q S u n (listed.setIfInBounds j true) a' w' → K a' w') → if Region.wanted o' (yielded ops a.tmps) = true then Oper.wp P o' a w K Q else K (a.put o'.dst undef) w) :
    Any P md ops Q S u (n + 1) listed a w := by
  refine ⟨fun h0 => (by rw [hr] at h0; cases h0), fun k hk => ?_⟩
  rw [hr] at hk
  simp at hk
  rcases hk with rfl | rfl
  · exact wpOp_step ho fun K hK => h K (fun a' w' h1 h2 => hK a' w' ⟨h1, h2⟩)
  · exact wpOp_step ho' fun K hK => h' K (fun a' w' h1 h2 => hK a' w' ⟨h1, h2⟩)
theorem done {listed : Array Bool} {a : Act} {w : World} (hr : Region.ready md ops listed = []) (h : Q .normal a w) : ∀ n, Any P md ops Q S u n listed a w
  | 0 => ⟨hr, h⟩
  | _ + 1 => ⟨fun _ => h, by rw [hr]; simp⟩
theorem begin_ {id : Nat} {a : Act} {w : World} (S : World → Prop) (u : Nat) (hm : P.follows .mixedOrders = true)
    (h : Any P .any ops Q S u ops.size (Array.replicate ops.size false) a w.drew) : (Code.region id ops true).wp P Q a w :=
  wp_region_any hm (any_of _ _ _ _ h)
end
end Go.Proofs.Ytjidbonhhpkljaa.Un

/- A table parted into bands: the program's side. -/
set_option linter.unusedVariables false
set_option linter.unusedSimpArgs false
namespace Go.Proofs.Ytjidbonhhpkljaa.Ec
open Go.RowKit Go.Proofs.Ytjidbonhhpkljaa.Pk Go.Proofs.Ytjidbonhhpkljaa.Pm

theorem alloc_at4 (w : World) (o p q r : Obj) : ((((w.alloc o).alloc p).alloc q).alloc r).heap[w.heap.size + 3]? = some r := by
  have := alloc_at (((w.alloc o).alloc p).alloc q) r
  rwa [show (((w.alloc o).alloc p).alloc q).heap.size = w.heap.size + 3 by simp] at this

theorem Bands.below {w w' : World} {base : Nat} {v : Value} {L : List (Bd × Value)} (h : Bands w base v L) (hb : Below w.heap.size w w') : Bands w' base v L :=
  ⟨ownsRow_below h.own hb, fun p hp => ownsRow_below (h.each p hp) hb⟩
/-- A store into a box that is no row of these. -/
theorem Bands.put {w : World} {base : Nat} {v : Value} {L : List (Bd × Value)} (h : Bands w base v L) {g : Nat} {cs : Array Value} {t : TypeId} (hg : w.heap[g]? = some (.cells cs t (0, 0))) (h1 : t ≠ 152) (h2 : t ≠ 156) (o : Nat) (u : Value) : Bands (w.setCell ⟨g, o, none⟩ u) base v L :=
  ⟨h.own.kept (box_set_grown w g o u) (.inr (own_far h.own hg h1).symm), fun p hp => (h.each p hp).kept (box_set_grown w g o u) (.inr (own_far (h.each p hp) hg h2).symm)⟩
/-- One band more. -/
theorem Bands.snoc {w w1 : World} {base : Nat} {v v1 : Value} {L : List (Bd × Value)} (h : Bands w base v L) (hg : Grew w w1 v v1) {b : Bd} {kv : Value} (hk : w.ownsRow base 156 8 kv b.chunks.length (kcells b.chunks))
    (ho : w1.ownsRow base 152 2 v1 (L ++ [(b, kv)]).length (dcells (L ++ [(b, kv)]))) : Bands w1 base v1 (L ++ [(b, kv)]) := by
  refine ⟨ho, fun p hp => ?_⟩
  have key : ∀ {q : Value} {n : Nat} {xs : List Value}, w.ownsRow base 156 8 q n xs → w1.ownsRow base 156 8 q n xs := fun hq =>
    kept_grew hq hg (apart_of hq h.own (by decide))
  rcases List.mem_append.1 hp with hp | hp
  · exact key (h.each p hp)
  · simp at hp
    subst hp
    exact key hk

/-- Some of the rows. -/
theorem RSl.sub {w : World} {ro : Option Addr} {rb roff rcap : Nat} {rows : List (List Val)} (hr : RRow w ro rb roff rows) (hc : rows.length ≤ rcap) (a m : Nat) (ha : a < rows.length) :
    RSl w (.slice (some ⟨rb, roff + a, none⟩) ((rows.drop a).take m).length (rcap - a)) ((rows.drop a).take m) := by
  refine ⟨_, rb, roff + a, rcap - a, rfl, by simp; omega, fun _ => rfl, fun _ => hr.lt (by omega), fun j hj => ?_⟩
  have hj2 : a + j < rows.length := by simp at hj; omega
  obtain ⟨v, h1, h2⟩ := hr.c (a + j) hj2
  refine ⟨v, by rw [Nat.add_assoc]; exact h1, ?_⟩
  rw [List.getElem_take, List.getElem_drop]
  exact h2

/-- Where fileOf stands. -/
structure FlSt (w W : World) (cv rv ev : Value) (bd : Int) (bo : Bool) (bv : Value) (L : List (Bd × Value)) : Prop where
  tbl : W.heap[w.heap.size]? = some (.cells #[cv, rv] 52 (0, 0))
  opt : W.heap[w.heap.size + 1]? = some (.cells #[.int .i64 bd, ev, .bool bo] 54 (0, 0))
  res : W.heap[w.heap.size + 2]? = some (.cells #[.slice none 0 0, .slice none 0 0, .slice none 0 0] 110 (0, 0))
  box : W.heap[w.heap.size + 3]? = some (.cells #[cv, ev, bv] 110 (0, 0))
  bands : Bands W w.heap.size bv L
  bel : Below w.heap.size w W
theorem FlSt.below {w W W1 : World} {cv rv ev : Value} {bd : Int} {bo : Bool} {bv : Value} {L : List (Bd × Value)} (h : FlSt w W cv rv ev bd bo bv L) (hb : Below W.heap.size W W1) : FlSt w W1 cv rv ev bd bo bv L :=
  ⟨(hb.block _ (lt_of_block h.tbl)).trans h.tbl, (hb.block _ (lt_of_block h.opt)).trans h.opt, (hb.block _ (lt_of_block h.res)).trans h.res, (hb.block _ (lt_of_block h.box)).trans h.box, h.bands.below hb, h.bel.trans (hb.mono h.bel.size)⟩
theorem FlSt.cells {w W : World} {cv rv ev : Value} {bd : Int} {bo : Bool} {bv : Value} {L : List (Bd × Value)} (h : FlSt w W cv rv ev bd bo bv L) :
    (W.cell? ⟨w.heap.size, 0, none⟩ = some cv ∧ W.cell? ⟨w.heap.size, 1, none⟩ = some rv) ∧ (W.cell? ⟨w.heap.size + 1, 0, none⟩ = some (.int .i64 bd) ∧ W.cell? ⟨w.heap.size + 1, 1, none⟩ = some ev ∧ W.cell? ⟨w.heap.size + 1, 2, none⟩ = some (.bool bo)) ∧
    (W.cell? ⟨w.heap.size + 3, 0, none⟩ = some cv ∧ W.cell? ⟨w.heap.size + 3, 1, none⟩ = some ev ∧ W.cell? ⟨w.heap.size + 3, 2, none⟩ = some bv ∧ W.frozen? ⟨w.heap.size + 3, 2, none⟩ = false) := by
  have h1 := h.tbl
  have h2 := h.opt
  have h3 := h.box
  exact ⟨⟨by simp [World.cell?, h1], by simp [World.cell?, h1]⟩, ⟨by simp [World.cell?, h2], by simp [World.cell?, h2], by simp [World.cell?, h2]⟩, by simp [World.cell?, h3], by simp [World.cell?, h3], by simp [World.cell?, h3], by simp [World.frozen?, h3]⟩
theorem FlSt.kept {w W W1 : World} {cv rv ev : Value} {bd : Int} {bo : Bool} {bv bv' : Value} {L : List (Bd × Value)} (h : FlSt w W cv rv ev bd bo bv L) (hg : Grew W W1 bv bv') :
    W1.cell? ⟨w.heap.size + 3, 2, none⟩ = some bv ∧ W1.frozen? ⟨w.heap.size + 3, 2, none⟩ = false := by
  have h3 := (hg.by_.block _ (lt_of_block h.box) (own_far h.bands.own h.box (by decide))).trans h.box
  exact ⟨by simp [World.cell?, h3], by simp [World.frozen?, h3]⟩
theorem FlSt.grew {w W W1 : World} {cv rv ev : Value} {bd : Int} {bo : Bool} {bv bv' : Value} {L : List (Bd × Value)} (h : FlSt w W cv rv ev bd bo bv L) (hg : Grew W W1 bv bv') {b : Bd} {kv : Value} (hk : W.ownsRow w.heap.size 156 8 kv b.chunks.length (kcells b.chunks))
    (ho : W1.ownsRow w.heap.size 152 2 bv' (L ++ [(b, kv)]).length (dcells (L ++ [(b, kv)]))) : FlSt w (W1.setCell ⟨w.heap.size + 3, 2, none⟩ bv') cv rv ev bd bo bv' (L ++ [(b, kv)]) := by
  have h1 := (hg.by_.block _ (lt_of_block h.tbl) (own_far h.bands.own h.tbl (by decide))).trans h.tbl
  have h2 := (hg.by_.block _ (lt_of_block h.opt) (own_far h.bands.own h.opt (by decide))).trans h.opt
  have h3 := (hg.by_.block _ (lt_of_block h.res) (own_far h.bands.own h.res (by decide))).trans h.res
  have h4 := (hg.by_.block _ (lt_of_block h.box) (own_far h.bands.own h.box (by decide))).trans h.box
  have h5 := heap_setCell_same W1 (w.heap.size + 3) 2 _ _ bv' h4
  have hbb := h.bel.trans (hg.below (fun g hg => (h.bands.own.lt g hg).1) h.bel.size)
  refine ⟨?_, ?_, ?_, h5, (h.bands.snoc hg hk ho).put h4 (by decide) (by decide) _ _, below_set hbb hbb.size (by omega) _ _⟩
  · rw [heap_setCell_other _ _ _ _ (by simp)]; exact h1
  · rw [heap_setCell_other _ _ _ _ (by simp)]; exact h2
  · rw [heap_setCell_other _ _ _ _ (by simp)]; exact h3

/-- What a walk reads there. -/
theorem FlSt.sees {w W W1 : World} {cv rv ev : Value} {bd : Int} {bo : Bool} {bv bv' : Value} {L : List (Bd × Value)} (h : FlSt w W cv rv ev bd bo bv L) (hg : Grew W W1 bv bv') :
    W1.cell? ⟨w.heap.size, 1, none⟩ = some rv ∧ W1.cell? ⟨w.heap.size, 0, none⟩ = some cv ∧ W1.cell? ⟨w.heap.size + 1, 0, none⟩ = some (.int .i64 bd) ∧ W1.cell? ⟨w.heap.size + 1, 1, none⟩ = some ev ∧ W1.cell? ⟨w.heap.size + 1, 2, none⟩ = some (.bool bo) := by
  have h1 := (hg.by_.block _ (lt_of_block h.tbl) (own_far h.bands.own h.tbl (by decide))).trans h.tbl
  have h2 := (hg.by_.block _ (lt_of_block h.opt) (own_far h.bands.own h.opt (by decide))).trans h.opt
  exact ⟨by simp [World.cell?, h1], by simp [World.cell?, h1], by simp [World.cell?, h2], by simp [World.cell?, h2], by simp [World.cell?, h2]⟩

theorem FlSt.seesH {w W : World} {cv rv ev : Value} {bd : Int} {bo : Bool} {bv : Value} {L : List (Bd × Value)} (h : FlSt w W cv rv ev bd bo bv L) :
    W.cell? ⟨w.heap.size + 3, 2, none⟩ = some bv ∧ W.cell? ⟨w.heap.size, 1, none⟩ = some rv ∧ W.cell? ⟨w.heap.size, 0, none⟩ = some cv ∧ W.cell? ⟨w.heap.size + 1, 0, none⟩ = some (.int .i64 bd) ∧ W.cell? ⟨w.heap.size + 1, 1, none⟩ = some ev ∧ W.cell? ⟨w.heap.size + 1, 2, none⟩ = some (.bool bo) := by
  obtain ⟨⟨t0, t1⟩, ⟨o0, o1, o2⟩, b0, b1, b2, b3⟩ := h.cells
  exact ⟨b2, t1, t0, o0, o1, o2⟩

theorem two_atB (w : World) (b : Bd) (kv : Value) (t : TypeId) : ∀ (j : Nat) (u : Value), (dcell (b, kv))[j]? = some u → (w.alloc (.cells (dcell (b, kv)).toArray t)).cell? ((⟨w.heap.size, 0, none⟩ : Addr).add j) = some u :=
  World.news_of_block (alloc_at w _)
theorem Try.info152 : (Try.prog.info? 152).map (fun i => (i.zero, i.size, i.bytes)) = some (some (.agg #[.int .i64 0, .slice none 0 0]), 2, 32) := by kernel_rfl

theorem cutR_length {rows : List (List Val)} {bd k : Nat} : (cutR rows bd k).length = min bd (rows.length - k * bd) := by simp [cutR]

set_option maxRecDepth 100000 in
set_option maxHeartbeats 8000000 in
theorem fileOf_any (rows : List (List Val)) (cs : List Col) (es : List Int) (bd : Nat) (bo : Bool) (rv cv ev : Value) (w : World) (hb1 : 1 ≤ bd) (hb2 : bd ≤ 100) (hz : rows.length ≤ 2000) (hok : ∀ r ∈ rows, r.length = cs.length) (hin : ∀ r ∈ rows, ∀ x ∈ r, VIn x) (hcl : cs.length ≤ 8) (hel : es.length = cs.length)
    (hrs : RSl w rv rows) (hcs : CSl w cv cs) (hes : ISl w ev es) :
    Calls Try.prog 61 #[.agg #[cv, rv], .agg #[.int .i64 (bd : Int), ev, .bool bo]] w fun e w' => ∃ bv L, e = .returned (.agg #[cv, ev, bv]) ∧ L.map Prod.fst = bandsP rows cs es bo bd (bandN rows.length bd) ∧ Bands w' w.heap.size bv L ∧ Below w.heap.size w w' := by
  obtain ⟨j0, hj, hy0, hy1, hy2⟩ := info_parts Try.info152
  have HCS : Hid (CSl w cv cs) := hcs
  have HES : Hid (ISl w ev es) := hes
  have HBF : Hid (∀ W k, Below w.heap.size w W → k * bd < rows.length → ∀ rv2, RSl W rv2 (cutR rows bd k) → Calls Try.prog 94 #[rv2, cv, .agg #[.int .i64 (bd : Int), ev, .bool bo]] W fun e w' => ∃ kv, e = .returned (.agg #[.int .i64 ((cutR rows bd k).length : Int), kv]) ∧ w'.ownsRow W.heap.size 156 8 kv cs.length (kcells (chksP (cutR rows bd k) cs es bo cs.length)) ∧ Below W.heap.size W w') := fun W k hW hk rv2 h2 =>
    bandOf_any (cutR rows bd k) cs es bd bo rv2 cv ev W (by rw [cutR_length]; omega) (fun r hr => hok r (List.mem_of_mem_drop (List.mem_of_mem_take hr))) (fun r hr => hin r (List.mem_of_mem_drop (List.mem_of_mem_take hr))) hcl hel h2 (HCS.out.below hW) (HES.out.lower hW)
  obtain ⟨ro, rb, roff, rcap, rfl, hrcap, hrr⟩ := hrs
  obtain ⟨co, cb, coff, ccap, rfl, hccap, -⟩ := hcs
  obtain ⟨eo, eb, eoff, ecap, rfl, -, -, -⟩ := hes
  have HRR : Hid (RRow w ro rb roff rows) := hrr
  clear hok hin hrr HCS HES hel
  go_enter Try.func61, Try.ntmps61
  go_upto_region 2 with fail
  have hS0 : FlSt w ((((w.alloc (.cells #[.slice co cs.length ccap, .slice ro rows.length rcap] 52)).alloc (.cells #[.int .i64 (bd : Int), .slice eo es.length ecap, .bool bo] 54)).alloc (.cells #[.slice none 0 0, .slice none 0 0, .slice none 0 0] 110)).alloc (.cells #[.slice co cs.length ccap, .slice eo es.length ecap, .slice none 0 0] 110)) (.slice co cs.length ccap) (.slice ro rows.length rcap) (.slice eo es.length ecap) bd bo (.slice none 0 0) [] := by
    refine ⟨alloc_old _ (by simp; omega) (alloc_old _ (by simp; omega) (alloc_old _ (by simp) (alloc_at w _))), alloc_old _ (by simp) (alloc_old _ (by simp) (alloc_at2 w _ _)), alloc_old _ (by simp) (alloc_at3 w _ _ _), alloc_at4 w _ _ _ _, ⟨World.ownsRow_nil _ _ _ _, fun p hp => by simp at hp⟩, ?_⟩
    exact ((below_box2 _ _).alloc (by simp; omega) _).alloc (by simp; omega) _
  generalize (((w.alloc (.cells #[.slice co cs.length ccap, .slice ro rows.length rcap] 52)).alloc (.cells #[.int .i64 (bd : Int), .slice eo es.length ecap, .bool bo] 54)).alloc (.cells #[.slice none 0 0, .slice none 0 0, .slice none 0 0] 110)).alloc (.cells #[.slice co cs.length ccap, .slice eo es.length ecap, .slice none 0 0] 110) = W0 at *
  go_wp2_with fail
  go_loopw [6] (fun i wr => ∃ (k : Nat) (bv : Value) (L : List (Bd × Value)), k ≤ bandN rows.length bd ∧ i = .int .i64 ((k * bd : Nat) : Int) ∧ L.map Prod.fst = bandsP rows cs es bo bd k ∧ FlSt w wr (.slice co cs.length ccap) (.slice ro rows.length rcap) (.slice eo es.length ecap) bd bo bv L) (fun i _ => rows.length + 200 - (intOf i).toNat)
  case atStart => exact ⟨0, _, [], Nat.zero_le _, by simp, rfl, hS0⟩
  case round =>
    clear hS0
    obtain ⟨k, bv, L, hk, rfl, hL, hS⟩ := hrel
    have HS : Hid (FlSt w wr (.slice co cs.length ccap) (.slice ro rows.length rcap) (.slice eo es.length ecap) bd bo bv L) := hS
    have HL : Hid (L.map Prod.fst = bandsP rows cs es bo bd k) := hL
    have HK : Hid (k ≤ bandN rows.length bd) := hk
    clear hL hk
    by_cases hlt : k * bd < rows.length
    · have HKL : Hid (k < bandN rows.length bd) := (bandN_lt (by omega) k).1 hlt
      have HX : Hid ((k + 1) * bd = k * bd + bd) := Nat.succ_mul k bd
      have HCL : Hid ((cutR rows bd k).length = min bd (rows.length - k * bd)) := cutR_length
      have hrr := HRR.out.below hS.bel
      obtain rfl := hrr.addr (by omega)
      have HSB : Hid (RSl wr (.slice (some ⟨rb, roff + k * bd, none⟩) (cutR rows bd k).length (rcap - k * bd)) (cutR rows bd k)) := RSl.sub hrr hrcap (k * bd) bd hlt
      have HBB : Hid (Calls Try.prog 94 #[.slice (some ⟨rb, roff + k * bd, none⟩) (cutR rows bd k).length (rcap - k * bd), .slice co cs.length ccap, .agg #[.int .i64 (bd : Int), .slice eo es.length ecap, .bool bo]] wr.drew fun e w' => ∃ kv, e = .returned (.agg #[.int .i64 ((cutR rows bd k).length : Int), kv]) ∧ w'.ownsRow wr.heap.size 156 8 kv cs.length (kcells (chksP (cutR rows bd k) cs es bo cs.length)) ∧ Below wr.heap.size wr w') := by
        refine (HBF.out wr.drew k hS.bel.drew hlt _ (HSB.out.below (Below.refl _ _).drew)).mono ?_
        rintro e w' ⟨kv, h1, h2, h3⟩
        exact ⟨kv, h1, h2, (Below.refl _ _).drew.trans h3⟩
      obtain ⟨⟨t0, t1⟩, ⟨o0, o1, o2⟩, b0, b1, b2, b3⟩ := hS.cells
      have hsz := hS.bel.size
      clear hS hrr HBF HRR
      generalize hn : (cutR rows bd k).length = n at *
      have HN : Hid ((cutR rows bd k).length = n) := hn
      clear hn
      generalize hfr0 : k * bd = fr at *
      have HFR : Hid (k * bd = fr) := hfr0
      clear hfr0
      have hcl := HCL.out
      have hfr : ((fr : Nat) : Int) < (rows.length : Int) := by omega
      obtain ⟨tt, htt⟩ : ∃ tt : Nat, tt = fr + n := ⟨_, rfl⟩
      have hto : min ((fr : Int) + (bd : Int)) (rows.length : Int) = (tt : Int) := by omega
      have h1 : ((fr : Nat) : Int) ≤ (tt : Int) := by omega
      have h2 : ((tt : Nat) : Int) ≤ (rcap : Int) := by omega
      have HTT : Hid (tt = fr + n) := htt
      have hd : tt - fr = n := by omega
      have hne : ¬ rcap = fr := by omega
      clear htt hcl HCL
      have HLk : Hid (L.length = k) := by
        show _ = _
        rw [← List.length_map (f := Prod.fst), HL.out, bandsP_length]
      have hkk : k ≤ 2000 := by have := Nat.le_mul_of_pos_right k (show 0 < bd by omega); have := HFR.out; omega
      go_upto_region 6 with fail
      clear hto
      refine Un.begin_ (fun W => W.cell? ⟨w.heap.size + 3, 2, none⟩ = some bv ∧ W.cell? ⟨w.heap.size, 1, none⟩ = some (.slice (some ⟨rb, roff, none⟩) rows.length rcap) ∧ W.cell? ⟨w.heap.size, 0, none⟩ = some (.slice co cs.length ccap) ∧ W.cell? ⟨w.heap.size + 1, 0, none⟩ = some (.int .i64 (bd : Int)) ∧ W.cell? ⟨w.heap.size + 1, 1, none⟩ = some (.slice eo es.length ecap) ∧ W.cell? ⟨w.heap.size + 1, 2, none⟩ = some (.bool bo)) 14 (by kernel_rfl) ?_
      have hHeld : (fun W => W.cell? ⟨w.heap.size + 3, 2, none⟩ = some bv ∧ W.cell? ⟨w.heap.size, 1, none⟩ = some (.slice (some ⟨rb, roff, none⟩) rows.length rcap) ∧ W.cell? ⟨w.heap.size, 0, none⟩ = some (.slice co cs.length ccap) ∧ W.cell? ⟨w.heap.size + 1, 0, none⟩ = some (.int .i64 (bd : Int)) ∧ W.cell? ⟨w.heap.size + 1, 1, none⟩ = some (.slice eo es.length ecap) ∧ W.cell? ⟨w.heap.size + 1, 2, none⟩ = some (.bool bo)) wr.drew := by go_keep
      refine Un.pick (i := 0) (v := ?_) rfl (by kernel_rfl) (by kernel_rfl) (by kernel_rfl) (by kernel_rfl) (fun _ _ _ h => h) (Or.inl ⟨by rfl, ?_⟩) (by assumption) ?_
      rotate_left
      · intro w _; go_simp
        try with_reducible rfl
      try simp only [Act.put, List.setIfInBounds_toArray, List.set_cons_zero, List.set_cons_succ]
      refine Un.take (i := 1) (v := ?_) rfl (by kernel_rfl) (by kernel_rfl) (by kernel_rfl) (by kernel_rfl) (by kernel_rfl) (by kernel_rfl) (fun _ _ _ h => h) (Or.inl ⟨by rfl, ?_⟩) (by assumption) ?_
      rotate_left
      · intro w hSw; (try dsimp only at hSw); go_simp
        try with_reducible rfl
      try simp only [Act.put, List.setIfInBounds_toArray, List.set_cons_zero, List.set_cons_succ]
      refine Un.pick (i := 2) (v := ?_) rfl (by kernel_rfl) (by kernel_rfl) (by kernel_rfl) (by kernel_rfl) (fun _ _ _ h => h) (Or.inl ⟨by rfl, ?_⟩) (by assumption) ?_
      rotate_left
      · intro w _; go_simp
        try with_reducible rfl
      try simp only [Act.put, List.setIfInBounds_toArray, List.set_cons_zero, List.set_cons_succ]
      refine Un.take (i := 3) (v := ?_) rfl (by kernel_rfl) (by kernel_rfl) (by kernel_rfl) (by kernel_rfl) (by kernel_rfl) (by kernel_rfl) (fun _ _ _ h => h) (Or.inl ⟨by rfl, ?_⟩) (by assumption) ?_
      rotate_left
      · intro w hSw; (try dsimp only at hSw); go_simp
        try with_reducible rfl
      try simp only [Act.put, List.setIfInBounds_toArray, List.set_cons_zero, List.set_cons_succ]
      refine Un.pick (i := 4) (v := ?_) rfl (by kernel_rfl) (by kernel_rfl) (by kernel_rfl) (by kernel_rfl) (fun _ _ _ h => h) (Or.inl ⟨by rfl, ?_⟩) (by assumption) ?_
      rotate_left
      · intro w _; go_simp
        try with_reducible rfl
      try simp only [Act.put, List.setIfInBounds_toArray, List.set_cons_zero, List.set_cons_succ]
      refine Un.pick (i := 5) (v := ?_) rfl (by kernel_rfl) (by kernel_rfl) (by kernel_rfl) (by kernel_rfl) (fun _ _ _ h => h) (Or.inl ⟨by rfl, ?_⟩) (by assumption) ?_
      rotate_left
      · intro w _; go_simp
        try with_reducible rfl
      try simp only [Act.put, List.setIfInBounds_toArray, List.set_cons_zero, List.set_cons_succ]
      refine Un.pick (i := 6) (v := ?_) rfl (by kernel_rfl) (by kernel_rfl) (by kernel_rfl) (by kernel_rfl) (fun _ _ _ h => h) (Or.inl ⟨by rfl, ?_⟩) (by assumption) ?_
      rotate_left
      · intro w _; go_simp
        try with_reducible rfl
      try simp only [Act.put, List.setIfInBounds_toArray, List.set_cons_zero, List.set_cons_succ]
      refine Un.pick (i := 7) (v := ?_) rfl (by kernel_rfl) (by kernel_rfl) (by kernel_rfl) (by kernel_rfl) (fun _ _ _ h => h) (Or.inl ⟨by rfl, ?_⟩) (by assumption) ?_
      rotate_left
      · intro w _; go_simp
        try with_reducible rfl
      try simp only [Act.put, List.setIfInBounds_toArray, List.set_cons_zero, List.set_cons_succ]
      refine Un.take (i := 8) (v := ?_) rfl (by kernel_rfl) (by kernel_rfl) (by kernel_rfl) (by kernel_rfl) (by kernel_rfl) (by kernel_rfl) (fun _ _ _ h => h) (Or.inl ⟨by rfl, ?_⟩) (by assumption) ?_
      rotate_left
      · intro w hSw; (try dsimp only at hSw); go_simp
        try with_reducible rfl
      try simp only [Act.put, List.setIfInBounds_toArray, List.set_cons_zero, List.set_cons_succ]
      refine Un.take (i := 9) (v := ?_) rfl (by kernel_rfl) (by kernel_rfl) (by kernel_rfl) (by kernel_rfl) (by kernel_rfl) (by kernel_rfl) (fun _ _ _ h => h) (Or.inl ⟨by rfl, ?_⟩) (by assumption) ?_
      rotate_left
      · intro w hSw; (try dsimp only at hSw); go_simp
        try with_reducible rfl
      try simp only [Act.put, List.setIfInBounds_toArray, List.set_cons_zero, List.set_cons_succ]
      refine Un.one (i := 10) (by kernel_rfl) rfl (fun K hK => ?_)
      rw [if_pos (by rfl)]
      go_simp
      go_at_call 94
      refine HBB.out.mono ?_
      rintro e w1 ⟨kv, rfl, hkv, hb1⟩
      obtain ⟨ko, kcap, rfl⟩ := own_form hkv
      have HS1 : Hid (FlSt w w1 (.slice co cs.length ccap) (.slice (some ⟨rb, roff, none⟩) rows.length rcap) (.slice eo es.length ecap) bd bo bv L) := HS.out.below hb1
      have HKV : Hid (w1.ownsRow w.heap.size 156 8 (.slice ko cs.length kcap) cs.length (kcells (chksP (cutR rows bd k) cs es bo cs.length))) := ownsRow_base hkv hsz
      refine hK.out _ _ (fun _ => HS1.out.seesH) ?_
      clear hK K hHeld hkv hb1 HBB HSB t0 t1 o0 o1 o2 b0 b1 b2 b3
      try simp only [Act.put, List.setIfInBounds_toArray, List.set_cons_zero, List.set_cons_succ]
      have hHeld : (fun W => W.cell? ⟨w.heap.size + 3, 2, none⟩ = some bv ∧ W.cell? ⟨w.heap.size, 1, none⟩ = some (.slice (some ⟨rb, roff, none⟩) rows.length rcap) ∧ W.cell? ⟨w.heap.size, 0, none⟩ = some (.slice co cs.length ccap) ∧ W.cell? ⟨w.heap.size + 1, 0, none⟩ = some (.int .i64 (bd : Int)) ∧ W.cell? ⟨w.heap.size + 1, 1, none⟩ = some (.slice eo es.length ecap) ∧ W.cell? ⟨w.heap.size + 1, 2, none⟩ = some (.bool bo)) w1 := HS1.out.seesH
      refine Un.one (i := 11) (by kernel_rfl) rfl (fun K hK => ?_)
      rw [if_pos (by rfl)]
      go_simp
      have HS2 : Hid (FlSt w (w1.alloc (.cells (dcell (⟨n, chksP (cutR rows bd k) cs es bo cs.length⟩, .slice ko cs.length kcap)).toArray 152)) (.slice co cs.length ccap) (.slice (some ⟨rb, roff, none⟩) rows.length rcap) (.slice eo es.length ecap) bd bo bv L) := HS1.out.below ((Below.refl _ _).alloc (Nat.le_refl _) _)
      refine hK.out _ _ (fun _ => HS2.out.seesH) ?_
      clear hK K hHeld
      try simp only [Act.put, List.setIfInBounds_toArray, List.set_cons_zero, List.set_cons_succ]
      refine Un.one (i := 12) (by kernel_rfl) rfl (fun K hK => ?_)
      have hown := HS1.out.bands.own
      rw [HLk.out] at hown
      have hz1 : w.heap.size ≤ w1.heap.size := HS1.out.bel.size
      refine step_append_lies _ (by rfl) _ _ 108 (by rfl) w.heap.size 152 j0 _ 2 32 Try.underlying108 hj hy0 hy1 hy2 rfl (by decide) bv k _ (by rfl) (hown.alloc _) ⟨w1.heap.size, 0, none⟩ 1 1 (dcell (⟨n, chksP (cutR rows bd k) cs es bo cs.length⟩, .slice ko cs.length kcap)) (by rfl) rfl (two_atB w1 _ _ _) (by intro u hu; simp [dcell] at hu; rcases hu with rfl | rfl <;> rfl) (by decide) (by unfold maxLen; omega) (by omega) (by simp; omega) _ rfl ?_
      intro g2 cap2 w2 hown2 hgr2 hat2 hlt2
      have hg2 := Grew.lies (n := k + 1) (cap := cap2) hgr2 hat2
      have ho2 : w2.ownsRow w.heap.size 152 2 (.slice (some ⟨g2, 0, none⟩) (k + 1) cap2) (L ++ [((⟨n, chksP (cutR rows bd k) cs es bo cs.length⟩ : Bd), Value.slice ko cs.length kcap)]).length (dcells (L ++ [((⟨n, chksP (cutR rows bd k) cs es bo cs.length⟩ : Bd), Value.slice ko cs.length kcap)])) := by
        unfold dcells at hown2 ⊢
        rw [List.flatMap_append, List.flatMap_singleton, List.length_append, HLk.out]
        exact hown2
      have HF : Hid (FlSt w (w2.setCell ⟨w.heap.size + 3, 2, none⟩ (.slice (some ⟨g2, 0, none⟩) (k + 1) cap2)) (.slice co cs.length ccap) (.slice (some ⟨rb, roff, none⟩) rows.length rcap) (.slice eo es.length ecap) bd bo (.slice (some ⟨g2, 0, none⟩) (k + 1) cap2) (L ++ [((⟨n, chksP (cutR rows bd k) cs es bo cs.length⟩ : Bd), Value.slice ko cs.length kcap)])) := HS1.out.grew hg2 (by simpa [chksP_length] using HKV.out) ho2
      obtain ⟨z0, z1⟩ := HS1.out.kept hg2
      obtain ⟨y1, y2, y3, y4, y5⟩ := HS1.out.sees hg2
      refine hK.out _ _ (fun _ => ⟨z0, y1, y2, y3, y4, y5⟩) ?_
      clear hK K hown hown2 hgr2 hat2 hlt2 ho2 hg2
      try simp only [Act.put, List.setIfInBounds_toArray, List.set_cons_zero, List.set_cons_succ]
      have hHeld : (fun W => W.cell? ⟨w.heap.size + 3, 2, none⟩ = some bv ∧ W.cell? ⟨w.heap.size, 1, none⟩ = some (.slice (some ⟨rb, roff, none⟩) rows.length rcap) ∧ W.cell? ⟨w.heap.size, 0, none⟩ = some (.slice co cs.length ccap) ∧ W.cell? ⟨w.heap.size + 1, 0, none⟩ = some (.int .i64 (bd : Int)) ∧ W.cell? ⟨w.heap.size + 1, 1, none⟩ = some (.slice eo es.length ecap) ∧ W.cell? ⟨w.heap.size + 1, 2, none⟩ = some (.bool bo)) w2 := ⟨z0, y1, y2, y3, y4, y5⟩
      refine Un.pick (i := 13) (v := ?_) rfl (by kernel_rfl) (by kernel_rfl) (by kernel_rfl) (by kernel_rfl) (fun _ _ _ h => h) (Or.inl ⟨by rfl, ?_⟩) (by assumption) ?_
      rotate_left
      · intro w _; go_simp
        try with_reducible rfl
      try simp only [Act.put, List.setIfInBounds_toArray, List.set_cons_zero, List.set_cons_succ]
      refine Un.one (i := 14) (by kernel_rfl) rfl (fun K hK => ?_)
      rw [if_pos (by rfl)]
      go_simp
      refine hK.out _ _ (fun h => absurd h (by decide)) ?_
      clear hK K hHeld y1 y2 y3 y4 y5 z0 z1
      refine Un.done (by kernel_rfl) ?_ _
      try simp only [Act.put, List.setIfInBounds_toArray, List.set_cons_zero, List.set_cons_succ]
      clear HS1 HS2 HKV
      generalize w2.setCell ⟨w.heap.size + 3, 2, none⟩ (.slice (some ⟨g2, 0, none⟩) (k + 1) cap2) = W2 at *
      obtain ⟨⟨t0, t1⟩, ⟨o0, o1, o2⟩, -⟩ := HF.out.cells
      go_wp2_with fail
      go_roundw
      case rel => exact ⟨k + 1, _, _, HKL.out, by rw [HX.out]; go_num, by rw [List.map_append, HL.out, bandsP_succ, List.map_singleton]; simp [bandP, HN.out], HF.out⟩
      case measure => simp [intOf]; omega
    · have hkn : k = bandN rows.length bd := by
        have := fun h => hlt ((bandN_lt (show 0 < bd by omega) k (len := rows.length)).2 h)
        have h2 := HK.out
        exact Nat.le_antisymm h2 (Nat.le_of_not_lt this)
      obtain ⟨ko, kcap, rfl⟩ := own_form hS.bands.own
      generalize hbv : Value.slice ko L.length kcap = bv at hS
      obtain ⟨⟨t0, t1⟩, ⟨o0, o1, o2⟩, b0, b1, b2, b3⟩ := hS.cells
      have h1 := heap_setCell_same wr (w.heap.size + 2) 0 _ _ (.slice co cs.length ccap) hS.res
      have h2 := heap_setCell_same _ (w.heap.size + 2) 1 _ _ (.slice eo es.length ecap) h1
      have h3 := heap_setCell_same _ (w.heap.size + 2) 2 _ _ bv h2
      have HO : Hid (Bands (((wr.setCell ⟨w.heap.size + 2, 0, none⟩ (.slice co cs.length ccap)).setCell ⟨w.heap.size + 2, 1, none⟩ (.slice eo es.length ecap)).setCell ⟨w.heap.size + 2, 2, none⟩ bv) w.heap.size bv L) :=
        ((hS.bands.put hS.res (by decide) (by decide) _ _).put h1 (by decide) (by decide) _ _).put h2 (by decide) (by decide) _ _
      have HB2 : Hid (Below w.heap.size w (((wr.setCell ⟨w.heap.size + 2, 0, none⟩ (.slice co cs.length ccap)).setCell ⟨w.heap.size + 2, 1, none⟩ (.slice eo es.length ecap)).setCell ⟨w.heap.size + 2, 2, none⟩ bv)) :=
        below_put (below_put (below_put hS.bel (Nat.le_refl _) (by omega) _ _) (Nat.le_refl _) (by omega) _ _) (Nat.le_refl _) (by omega) _ _
      obtain ⟨s0, s1, s2⟩ := val_cells (show _ = some (Obj.cells #[.slice co cs.length ccap, .slice eo es.length ecap, bv] 110 (0, 0)) from h3)
      obtain ⟨r0, r1, r2⟩ := val_cells hS.res
      have f0 : wr.frozen? ⟨w.heap.size + 2, 0, none⟩ = false := by have := hS.res; simp [World.frozen?, this]
      have f1 : wr.frozen? ⟨w.heap.size + 2, 1, none⟩ = false := by have := hS.res; simp [World.frozen?, this]
      have f2 : wr.frozen? ⟨w.heap.size + 2, 2, none⟩ = false := by have := hS.res; simp [World.frozen?, this]
      have HL2 : Hid (L.map Prod.fst = bandsP rows cs es bo bd (bandN rows.length bd)) := by rw [← hkn]; exact HL.out
      clear h1 h2 h3 hS HS HBF HRR HL HK hkn
      subst hbv
      generalize k * bd = fr at *
      go_wp2
      simp [bodyPost, results, Try.results61, go_sem, s0, s1, s2]
      exact ⟨L, HL2.out, HO.out, HB2.out⟩
end Go.Proofs.Ytjidbonhhpkljaa.Ec

/- Lengths and bounds as bytes: the program's side. -/
set_option linter.unusedVariables false
namespace Go.Proofs.Ytjidbonhhpkljaa.Ec
open Go.RowKit Go.Proofs.Ytjidbonhhpkljaa.Pk Go.Proofs.Ytjidbonhhpkljaa.Pm

def lenF (j n : Nat) : List Nat := (List.range j).map fun i => n / 256 ^ i % 256
theorem lenF_succ (j n : Nat) : lenF (j + 1) n = lenF j n ++ [n / 256 ^ j % 256] := by
  unfold lenF
  rw [List.range_succ, List.map_append, List.map_singleton]
theorem lenF_four (n : Nat) : lenF 4 n = lenB n := by
  unfold lenF lenB
  simp [List.range_succ]
theorem div_pow_succ (n j : Nat) : n / 256 ^ j / 256 = n / 256 ^ (j + 1) := by
  rw [Nat.div_div_eq_div_mul, Nat.pow_succ]

set_option maxRecDepth 100000 in
set_option maxHeartbeats 4000000 in
theorem appendLength_any (u : Value) (pre : List Nat) (n base : Nat) (w : World) (hn : n < 4294967296) (hl : pre.length ≤ 100000000000) (hb : base ≤ w.heap.size)
    (hown : w.ownsRow base 5 1 u pre.length (bcells pre)) :
    Calls Try.prog 93 #[u, .int .i64 (n : Int)] w fun e w' => ∃ u', e = .returned u' ∧ w'.ownsRow base 5 1 u' (pre ++ lenB n).length (bcells (pre ++ lenB n)) ∧ Grew w w' u u' := by
  obtain ⟨i0, hi, hz0, hz1, hz2⟩ := info_parts Try.info5
  rw [← lenF_four]
  go_enter Try.func93, Try.ntmps93
  go_wp2_with fail
  go_loopw [0, 1, 5] (fun bv nv i wr => ∃ (j m : Nat) (pb : List Nat), j ≤ 4 ∧ i = .int .i64 (j : Int) ∧ nv = .int .i64 (m : Int) ∧ m < 4294967296 ∧ m = n / 256 ^ j ∧ pb = pre ++ lenF j n ∧ wr.ownsRow base 5 1 bv pb.length (bcells pb) ∧ Grew w wr u bv ∧ w.heap.size ≤ wr.heap.size) (fun _ _ i _ => 4 - (intOf i).toNat)
  case atStart => exact ⟨0, n, pre, by omega, rfl, rfl, hn, by simp, by simp [lenF], hown, Grew.refl _ _, Nat.le_refl _⟩
  case round =>
    obtain ⟨j, m, pb, hj, rfl, rfl, hm, hmn, hpb, hown, hgr, hsz⟩ := hrel
    have HM : Hid (m = n / 256 ^ j) := hmn
    have HP : Hid (pb = pre ++ lenF j n) := hpb
    have hpl : pb.length ≤ 100000000004 := by rw [hpb]; simp [lenF]; omega
    have HG : Hid (Grew w wr u u0) := hgr
    clear hmn hpb hgr
    by_cases hlt : j < 4
    · obtain ⟨y, hy⟩ : ∃ y, y = m % 256 := ⟨_, rfl⟩
      have hwm : IntKind.u8.wrap (m : Int) = (y : Int) := by rw [hy]; simp [IntKind.wrap, IntKind.bits, IntKind.signed]
      have HY : Hid (y = m % 256) := hy
      clear hy
      go_wp2_with (at_builtin; refine wpList_append_keep _ rfl _ _ 44 rfl base 5 i0 (.int .u8 0) 1 1 Try.underlying44 hi hz0 hz1 hz2 rfl (by decide) _ pb.length _ rfl (hown.alloc _) ⟨wr.heap.size, 0, none⟩ 1 1 [.int .u8 (y : Int)] rfl (by decide) rfl (one_at _ _ _) (one_oneB _) (by unfold maxLen; omega) (by omega) (by simp; omega) ?_; intro v1 w1 hown1 hgr1)
      have hgr2 := HG.out.trans (Grew.append hgr1)
      have hsz2 : w.heap.size ≤ w1.heap.size := hgr2.by_.size
      rw [bcells_snoc] at hown1
      refine ⟨⟨j + 1, m / 256, pb ++ [y], by omega, by go_num, by go_num, by omega, ?_, ?_, by simpa using hown1, hgr2, hsz2⟩, by simp [intOf]; omega⟩
      · rw [HM.out]; exact div_pow_succ n j
      · rw [HP.out, HY.out, HM.out, lenF_succ, List.append_assoc]
    · obtain rfl : j = 4 := by omega
      have HO : Hid (wr.ownsRow base 5 1 u0 (pre ++ lenF 4 n).length (bcells (pre ++ lenF 4 n))) := by show World.ownsRow _ _ _ _ _ _ _; rw [← HP.out]; exact hown
      clear hown
      go_wp2
      go_ret
      exact ⟨_, rfl, HO.out, HG.out⟩

theorem box_grew {w w1 : World} {u u1 : Value} {cs : Array Value} {t : TypeId} (hub : u.ownBlock ≠ some w.heap.size) (h : Grew (w.alloc (.cells cs t)) w1 u u1) : w1.heap[w.heap.size]? = some (.cells cs t (0, 0)) := by
  rw [h.by_.block w.heap.size (by simp) (fun e => hub e.symm)]
  exact alloc_at _ _

set_option maxRecDepth 100000 in
set_option maxHeartbeats 4000000 in
theorem appendBounds_any (u : Value) (pre : List Nat) (b : Bnd) (k : Int) (base : Nat) (w : World) (hk : k = 1 ∨ k = 2 ∨ k = 3) (hv1 : VOk b.least) (hv2 : VOk b.most) (hl : pre.length ≤ 3000000) (hb : base ≤ w.heap.size)
    (hown : w.ownsRow base 5 1 u pre.length (bcells pre)) :
    Calls Try.prog 122 #[u, bval b, .int .i64 k] w fun e w' => ∃ u', e = .returned u' ∧ w'.ownsRow base 5 1 u' (pre ++ boundB k b).length (bcells (pre ++ boundB k b)) ∧ Grew w w' u u' := by
  obtain ⟨i0, hi, hz0, hz1, hz2⟩ := info_parts Try.info5
  have hub : u.ownBlock ≠ some w.heap.size := fun h => by have := (hown.lt _ h).2; omega
  obtain ⟨bt, bl, bm⟩ := b
  unfold bval
  cases bt
  · rw [show boundB k ⟨false, bl, bm⟩ = [0] from rfl]
    go_enter Try.func122, Try.ntmps122
    go_wp2_with (at_builtin; refine wpList_append_keep _ rfl _ _ 44 rfl base 5 i0 (.int .u8 0) 1 1 Try.underlying44 hi hz0 hz1 hz2 rfl (by decide) _ pre.length _ rfl ((hown.alloc _).alloc _) ⟨w.heap.size + 1, 0, none⟩ 1 1 [.int .u8 ((0 : Nat) : Int)] rfl (by decide) rfl (by simpa using one_at (w.alloc _) _ _) (one_oneB _) (by unfold maxLen; omega) (by omega) (by simp; omega) ?_; intro v2 w2 hown2 hgr2)
    go_ret
    have hg3 : Grew w w2 u v2 := Grew.box (Grew.append hgr2)
    rw [bcells_snoc] at hown2
    exact ⟨_, rfl, by simpa using hown2, hg3⟩
  · rw [show boundB k ⟨true, bl, bm⟩ = [1] ++ (plainB k bl ++ plainB k bm) from rfl, ← List.append_assoc, ← List.append_assoc]
    have hp1 := plainB_length k bl hv1.sz
    have HA1 : Hid (∀ W v, W.ownsRow base 5 1 v (pre ++ [1]).length (bcells (pre ++ [1])) → base ≤ W.heap.size → Calls Try.prog 106 #[v, .agg #[.bool bl.null, .int .i64 bl.n, .string bl.s], .int .i64 k] W fun e w' => ∃ u', e = .returned u' ∧ w'.ownsRow base 5 1 u' (pre ++ [1] ++ plainB k bl).length (bcells (pre ++ [1] ++ plainB k bl)) ∧ Grew W w' v u') := fun W v ho hb =>
      appendPlain1_any v (pre ++ [1]) bl k base W hk hv1 (by simp; omega) hb ho
    have HA2 : Hid (∀ W v, W.ownsRow base 5 1 v (pre ++ [1] ++ plainB k bl).length (bcells (pre ++ [1] ++ plainB k bl)) → base ≤ W.heap.size → Calls Try.prog 106 #[v, .agg #[.bool bm.null, .int .i64 bm.n, .string bm.s], .int .i64 k] W fun e w' => ∃ u', e = .returned u' ∧ w'.ownsRow base 5 1 u' (pre ++ [1] ++ plainB k bl ++ plainB k bm).length (bcells (pre ++ [1] ++ plainB k bl ++ plainB k bm)) ∧ Grew W w' v u') := fun W v ho hb =>
      appendPlain1_any v (pre ++ [1] ++ plainB k bl) bm k base W hk hv2 (by simp; omega) hb ho
    have hbn : base ≤ (w.alloc (.cells (bcell ⟨true, bl, bm⟩) 154)).heap.size := by simp; omega
    generalize hP2 : pre ++ [1] ++ plainB k bl ++ plainB k bm = P2 at *
    generalize hP1 : pre ++ [1] ++ plainB k bl = P1 at *
    clear hP1 hP2 hp1
    go_enter Try.func122, Try.ntmps122
    go_upto_region 1 with fail
    have hown0 := hown.alloc (.cells (bcell ⟨true, bl, bm⟩) 154)
    have hbox : (w.alloc (.cells (bcell ⟨true, bl, bm⟩) 154)).heap[w.heap.size]? = some (.cells (bcell ⟨true, bl, bm⟩) 154 (0, 0)) := alloc_at _ _
    have hgr0 : Grew w (w.alloc (.cells (bcell ⟨true, bl, bm⟩) 154)) u u := (Grew.refl w u).alloc _
    unfold bcell at hown0 hbox hgr0 hbn
    generalize w.alloc (.cells #[.bool true, .bool bl.null, .int .i64 bl.n, .string bl.s, .bool bm.null, .int .i64 bm.n, .string bm.s] 154) = W0 at *
    have HG0 : Hid (Grew w W0 u u) := hgr0
    have hbox0 : W0.heap[w.heap.size]? = some (.cells (bcell ⟨true, bl, bm⟩) 154 (0, 0)) := hbox
    generalize w.heap.size = g at *
    obtain ⟨⟨c0, c1, c2, c3, c4, c5, c6⟩, -⟩ := bnd_cells hbox0
    have HBX : Hid (W0.heap[g]? = some (.cells (bcell ⟨true, bl, bm⟩) 154 (0, 0))) := hbox0
    clear hbox hbox0 hown hgr0
    go_upto_region 4 with (at_builtin; refine wpList_append_keep _ rfl _ _ 44 rfl base 5 i0 (.int .u8 0) 1 1 Try.underlying44 hi hz0 hz1 hz2 rfl (by decide) _ pre.length _ rfl (hown0.alloc _) ⟨W0.heap.size, 0, none⟩ 1 1 [.int .u8 ((1 : Nat) : Int)] rfl (by decide) rfl (one_at _ _ _) (one_oneB _) (by unfold maxLen; omega) (by omega) (by simp; omega) ?_; intro v1 w1 hown1 hgr1)
    have hg1 : Grew W0 w1 u v1 := Grew.append hgr1
    rw [bcells_snoc] at hown1
    have ho1 : w1.ownsRow base 5 1 v1 (pre ++ [1]).length (bcells (pre ++ [1])) := by simpa using hown1
    have hbx1 : w1.heap[g]? = some (.cells (bcell ⟨true, bl, bm⟩) 154 (0, 0)) := (hg1.by_.block g (lt_of_block HBX.out) (fun e => hub e.symm)).trans HBX.out
    have hs1 := hg1.by_.size
    have hub1 : v1.ownBlock ≠ some g := fun e => by
      rcases hg1.at_ g e with h | h
      · exact hub h
      · have := lt_of_block HBX.out; omega
    have HG1 : Hid (Grew w w1 u v1) := HG0.out.trans hg1
    clear c0 c1 c2 c3 c4 c5 c6 hown1 hgr1 hg1 HBX HG0 hown0
    obtain ⟨⟨c0, c1, c2, c3, c4, c5, c6⟩, -⟩ := bnd_cells hbx1
    go_upto_region 5 with (go_at_call 106; refine (HA1.out _ _ ho1 (by omega)).mono ?_; rintro e w2 ⟨v2, rfl, ho2, hg2⟩)
    have hbx2 : w2.heap[g]? = some (.cells (bcell ⟨true, bl, bm⟩) 154 (0, 0)) := (hg2.by_.block g (lt_of_block hbx1) (fun e => hub1 e.symm)).trans hbx1
    have hs2 := hg2.by_.size
    have HG2 : Hid (Grew w w2 u v2) := HG1.out.trans hg2
    clear c0 c1 c2 c3 c4 c5 c6 HG1 hg2 ho1 hbx1
    obtain ⟨⟨c0, c1, c2, c3, c4, c5, c6⟩, -⟩ := bnd_cells hbx2
    go_wp2_with (go_at_call 106; refine (HA2.out _ _ ho2 (by omega)).mono ?_; rintro e w3 ⟨v3, rfl, ho3, hg3⟩)
    go_ret
    exact ⟨_, rfl, ho3, HG2.out.trans hg3⟩
end Go.Proofs.Ytjidbonhhpkljaa.Ec

/- The footer as bytes: the program's side. -/
set_option linter.unusedVariables false
namespace Go.Proofs.Ytjidbonhhpkljaa.Ec
open Go.RowKit Go.Proofs.Ytjidbonhhpkljaa.Pk Go.Proofs.Ytjidbonhhpkljaa.Pm

theorem vint_len (n : Nat) : (vint n).length ≤ 10 := by unfold vint; exact vintF_length 10 n
theorem boundB_len (k : Int) (b : Bnd) (h1 : b.least.s.size ≤ 32) (h2 : b.most.s.size ≤ 32) : (boundB k b).length ≤ 85 := by
  have a1 := plainB_length k b.least h1
  have a2 := plainB_length k b.most h2
  unfold boundB
  split
  · simp only [List.length_append, List.length_cons, List.length_nil]; omega
  · simp
theorem flat_le {α : Type} (f : α → List Nat) (m : Nat) (l : List α) (h : ∀ x ∈ l, (f x).length ≤ m) : (l.flatMap f).length ≤ l.length * m := by
  induction l with
  | nil => simp
  | cons x r ih =>
    rw [List.flatMap_cons, List.length_append, List.length_cons, Nat.succ_mul]
    have h1 := h x (by simp)
    have h2 := ih (fun y hy => h y (by simp [hy]))
    omega
/-- What is asked of bands ahead of being written. -/
structure BdOk (n : Nat) (b : Bd) : Prop where
  rows : b.rows < 2147483648
  len : b.chunks.length = n
  size : ∀ c ∈ b.chunks, c.text.size < 2147483648
  least : ∀ c ∈ b.chunks, VOk c.bnd.least
  most : ∀ c ∈ b.chunks, VOk c.bnd.most
theorem chk_mem {l : List Chk} {i : Nat} (h : i < l.length) : l.getD i ⟨⟨#[]⟩, noBnd⟩ ∈ l := by
  rw [List.getD_eq_getElem?_getD, List.getElem?_eq_getElem h]
  exact List.getElem_mem h
theorem partB_len {n : Nat} {b : Bd} (h : BdOk n b) (cs : List Col) {i : Nat} (hi : i < b.chunks.length) : (partB cs b.chunks i).length ≤ 95 := by
  have hm := chk_mem hi
  have h1 := vint_len (b.chunks.getD i ⟨⟨#[]⟩, noBnd⟩).text.size
  have h2 := boundB_len (cs.getD i ⟨⟨#[]⟩, 0⟩).kind (b.chunks.getD i ⟨⟨#[]⟩, noBnd⟩).bnd (h.least _ hm).sz (h.most _ hm).sz
  unfold partB
  rw [List.length_append]
  omega
theorem partsB_len {n : Nat} {b : Bd} (h : BdOk n b) (cs : List Col) (k : Nat) (hk : k ≤ b.chunks.length) : (partsB cs b.chunks k).length ≤ k * 95 := by
  have := flat_le (partB cs b.chunks) 95 (List.range k) (fun i hi => partB_len h cs (by have := List.mem_range.1 hi; omega))
  simpa [partsB] using this
theorem bandB_len {n : Nat} {b : Bd} (h : BdOk n b) (hn : n ≤ 8) (cs : List Col) : (bandB cs b).length ≤ 770 := by
  have h1 := partsB_len h cs b.chunks.length (Nat.le_refl _)
  have h2 := vint_len b.rows
  have h3 := h.len
  unfold bandB
  rw [List.length_append]
  omega
theorem bandsB_len {n : Nat} {bs : List Bd} (h : ∀ b ∈ bs, BdOk n b) (hn : n ≤ 8) (cs : List Col) : (bandsB cs bs).length ≤ bs.length * 770 :=
  flat_le (bandB cs) 770 bs (fun b hb => bandB_len (h b hb) hn cs)
theorem colB_len {cs : List Col} {es : List Int} (h : ∀ c ∈ cs, c.name.size ≤ 16) {i : Nat} (hi : i < cs.length) : (colB cs es i).length ≤ 28 := by
  have h1 := vint_len (cs.getD i ⟨⟨#[]⟩, 0⟩).name.size
  have h2 := h _ (by rw [List.getD_eq_getElem?_getD, List.getElem?_eq_getElem hi]; exact List.getElem_mem hi : cs.getD i ⟨⟨#[]⟩, 0⟩ ∈ cs)
  unfold colB
  rw [List.length_append, List.length_append, bytesOf_length]
  simp only [List.length_cons, List.length_nil]
  omega
theorem colsB_len {cs : List Col} {es : List Int} (h : ∀ c ∈ cs, c.name.size ≤ 16) (k : Nat) (hk : k ≤ cs.length) : (colsB cs es k).length ≤ k * 28 := by
  have := flat_le (colB cs es) 28 (List.range k) (fun i hi => colB_len h (by have := List.mem_range.1 hi; omega))
  simpa [colsB] using this

/-- Where appendFooter stands. -/
structure FtSt (w W : World) (cv ev bv u : Value) (pre : List Nat) : Prop where
  box : W.heap[w.heap.size]? = some (.cells #[cv, ev, bv] 110 (0, 0))
  own : W.ownsRow w.heap.size 5 1 u pre.length (bcells pre)
  bel : Below w.heap.size w W
theorem FtSt.alloc {w W : World} {cv ev bv u : Value} {pre : List Nat} (h : FtSt w W cv ev bv u pre) (o : Obj) : FtSt w (W.alloc o) cv ev bv u pre :=
  ⟨alloc_old o (lt_of_block h.box) h.box, h.own.alloc o, h.bel.alloc h.bel.size o⟩
theorem FtSt.drew {w W : World} {cv ev bv u : Value} {pre : List Nat} (h : FtSt w W cv ev bv u pre) : FtSt w W.drew cv ev bv u pre :=
  ⟨h.box, ownsRow_below h.own (Below.refl _ _).drew, h.bel.drew⟩
theorem FtSt.grew {w W W1 : World} {cv ev bv u u' : Value} {pre pre' : List Nat} (h : FtSt w W cv ev bv u pre) (hg : Grew W W1 u u') (ho : W1.ownsRow w.heap.size 5 1 u' pre'.length (bcells pre')) : FtSt w W1 cv ev bv u' pre' :=
  ⟨(hg.by_.block _ (lt_of_block h.box) (own_far h.own h.box (by decide))).trans h.box, ho, h.bel.trans (hg.below (fun g hg => (h.own.lt g hg).1) h.bel.size)⟩
theorem FtSt.cells {w W : World} {cv ev bv u : Value} {pre : List Nat} (h : FtSt w W cv ev bv u pre) : W.cell? ⟨w.heap.size, 0, none⟩ = some cv ∧ W.cell? ⟨w.heap.size, 1, none⟩ = some ev ∧ W.cell? ⟨w.heap.size, 2, none⟩ = some bv := val_cells h.box
/-- A box beside. -/
theorem FtSt.far {w W W1 : World} {cv ev bv u u' : Value} {pre : List Nat} (h : FtSt w W cv ev bv u pre) (hg : Grew W W1 u u') {g : Nat} {cs : Array Value} {t : TypeId} (hb : W.heap[g]? = some (.cells cs t (0, 0))) (ht : t ≠ 5) : W1.heap[g]? = some (.cells cs t (0, 0)) :=
  (hg.by_.block _ (lt_of_block hb) (own_far h.own hb ht)).trans hb
theorem two_of {w : World} {g : Nat} {a b : Value} {t : TypeId} (h : w.heap[g]? = some (.cells #[a, b] t (0, 0))) : w.cell? ⟨g, 0, none⟩ = some a ∧ w.cell? ⟨g, 1, none⟩ = some b := by
  refine ⟨?_, ?_⟩ <;> simp [World.cell?, h]

theorem two_atC (w : World) (a b : Value) (t : TypeId) : ∀ (j : Nat) (u : Value), [a, b][j]? = some u → (w.alloc (.cells #[a, b] t)).cell? ((⟨w.heap.size, 0, none⟩ : Addr).add j) = some u :=
  World.news_of_block (alloc_at w _)
theorem bcells_append (a b : List Nat) : bcells (a ++ b) = bcells a ++ bcells b := by simp [bcells]

set_option maxRecDepth 100000 in
set_option maxHeartbeats 8000000 in
theorem appendFooter_any (cs : List Col) (es : List Int) (bs : List Bd) (cv ev bv : Value) (w : World) (hcl : cs.length ≤ 8) (hel : es.length = cs.length) (hnm : ∀ c ∈ cs, c.name.size ≤ 16) (hkd : ∀ c ∈ cs, c.kind = 1 ∨ c.kind = 2 ∨ c.kind = 3) (hbn : bs.length ≤ 2000) (hbs : ∀ b ∈ bs, BdOk cs.length b)
    (hcs : CSl w cv cs) (hes : ISl w ev es) (hbb : ∃ base L, L.map Prod.fst = bs ∧ Bands w base bv L) :
    Calls Try.prog 92 #[.slice none 0 0, .agg #[cv, ev, bv]] w fun e w' => ∃ u', e = .returned u' ∧ w'.ownsRow w.heap.size 5 1 u' (footB cs es bs).length (bcells (footB cs es bs)) ∧ Below w.heap.size w w' := by
  obtain ⟨i0, hi, hz0, hz1, hz2⟩ := info_parts Try.info5
  obtain ⟨base, L, hL, hB⟩ := hbb
  have hg := GSl.of_owns dcell_len hB.own
  obtain ⟨bo, bb, boff, bcap, rfl, hgr⟩ := hg
  obtain ⟨co, cb, coff, ccap, rfl, hccap, hcr⟩ := hcs
  obtain ⟨eo, eb, eoff, ecap, rfl, he1, he2, he3⟩ := hes
  have HCR : Hid (CRow w co cb coff cs) := hcr
  have HE1 : Hid (0 < es.length → eo = some ⟨eb, eoff, none⟩) := he1
  have HE2 : Hid (0 < es.length → eb < w.heap.size) := he2
  have HE3 : Hid (∀ j, j < es.length → w.cell? ⟨eb, eoff + j, none⟩ = some (.int .i64 (es.getD j 0))) := he3
  have HEL : Hid (es.length = cs.length) := hel
  have HNM : Hid (∀ c ∈ cs, c.name.size ≤ 16) := hnm
  have HKD : Hid (∀ c ∈ cs, c.kind = 1 ∨ c.kind = 2 ∨ c.kind = 3) := hkd
  have HBS : Hid (∀ b ∈ bs, BdOk cs.length b) := hbs
  have HL : Hid (L.map Prod.fst = bs) := hL
  have HLN : Hid (L.length = bs.length) := by show _ = _; rw [← hL, List.length_map]
  have HGR : Hid (GRow w dcell 2 bo bb boff L) := hgr
  have HEA : Hid (∀ p ∈ L, w.ownsRow base 156 8 p.2 p.1.chunks.length (kcells p.1.chunks)) := hB.each
  have hln : L.length ≤ 2000 := by have := HLN.out; omega
  clear hcr he1 he2 he3 hel hnm hkd hbs hL hgr hB
  go_enter Try.func92, Try.ntmps92
  go_upto_region 1 with fail
  have hS0 : FtSt w (w.alloc (.cells #[.slice co cs.length ccap, .slice eo es.length ecap, .slice bo L.length bcap] 110)) (.slice co cs.length ccap) (.slice eo es.length ecap) (.slice bo L.length bcap) (.slice none 0 0) [] :=
    ⟨alloc_at _ _, World.ownsRow_nil _ _ _ _, (Below.refl _ _).alloc (Nat.le_refl _) _⟩
  generalize w.alloc (.cells #[.slice co cs.length ccap, .slice eo es.length ecap, .slice bo L.length bcap] 110) = W0 at *
  obtain ⟨t0, t1, t2⟩ := hS0.cells
  have HN1 : Hid (Calls Try.prog 105 #[.slice none 0 0, .int .i64 (cs.length : Int)] W0 fun e w' => ∃ v', e = .returned v' ∧ w'.ownsRow w.heap.size 5 1 v' ([] ++ vint cs.length).length (bcells ([] ++ vint cs.length)) ∧ Grew W0 w' (.slice none 0 0) v') := appendNumber_any _ [] cs.length w.heap.size W0 (by omega) (by simp) hS0.bel.size hS0.own
  go_upto_region 2 with (go_at_call 105; refine HN1.out.mono ?_; rintro e w1 ⟨v1, rfl, ho1, hg1⟩)
  have HS1 : Hid (FtSt w w1 (.slice co cs.length ccap) (.slice eo es.length ecap) (.slice bo L.length bcap) v1 (vint cs.length ++ colsB cs es 0)) := by
    have h := hS0.grew hg1 ho1
    rw [List.nil_append] at h
    show FtSt _ _ _ _ _ _ _
    rw [show colsB cs es 0 = [] from rfl, List.append_nil]
    exact h
  clear hS0 t0 t1 t2 HN1 ho1 hg1
  obtain ⟨t0, t1, t2⟩ := HS1.out.cells
  go_wp2_with fail
  clear t0 t1 t2
  go_loopw [0, 19] (fun u i wr => ∃ k : Nat, k ≤ cs.length ∧ i = .int .i64 (k : Int) ∧ FtSt w wr (.slice co cs.length ccap) (.slice eo es.length ecap) (.slice bo L.length bcap) u (vint cs.length ++ colsB cs es k)) (fun _ i _ => cs.length - (intOf i).toNat)
  case atStart => exact ⟨0, Nat.zero_le _, rfl, HS1.out⟩
  case round =>
    rename World => wr
    clear HS1
    obtain ⟨k, hk, rfl, hS⟩ := hrel
    have HS : Hid (FtSt w wr (.slice co cs.length ccap) (.slice eo es.length ecap) (.slice bo L.length bcap) u0 (vint cs.length ++ colsB cs es k)) := hS
    have hsz : w.heap.size ≤ wr.heap.size := hS.bel.size
    by_cases hlt : k < cs.length
    · have hle : k < es.length := by rw [HEL.out]; exact hlt
      have hcr := HCR.out.below hS.bel
      obtain rfl := hcr.addr (by omega)
      obtain rfl := HE1.out (by omega)
      have p0 := hcr.c0 k hlt
      have p1 := hcr.c1 k hlt
      have HLB : Hid (eb < w.heap.size) := HE2.out (by omega)
      have HE0 : Hid (w.cell? ⟨eb, eoff + k, none⟩ = some (.int .i64 (es.getD k 0))) := HE3.out k hle
      have HP : Hid (vint cs.length ++ colsB cs es (k + 1) = vint cs.length ++ colsB cs es k ++ vint cs[k].name.size ++ bytesOf cs[k].name ++ [byteOf cs[k].kind, byteOf (es.getD k 0)]) := by
        show _ = _
        rw [colsB_succ]
        unfold colB
        rw [List.getD_eq_getElem?_getD (l := cs), List.getElem?_eq_getElem hlt]
        simp
      have hnm := HNM.out cs[k] (List.getElem_mem hlt)
      have hpl : (vint cs.length ++ colsB cs es k).length ≤ 300 := by
        have h1 := vint_len cs.length
        have h2 := colsB_len (es := es) HNM.out k hk
        rw [List.length_append]
        omega
      have hki : (k : Int) < (es.length : Int) := by omega
      generalize hc : cs[k] = c at *
      generalize he : es.getD k 0 = en at *
      generalize hpp : vint cs.length ++ colsB cs es k = pre at *
      clear hcr hc he hpp hS
      go_upto_region 5 with fail
      have hS1 := HS.out.alloc (.cells #[.string c.name, .int .i64 c.kind] 104)
      have hcx : (wr.alloc (.cells #[.string c.name, .int .i64 c.kind] 104)).heap[wr.heap.size]? = some (.cells #[.string c.name, .int .i64 c.kind] 104 (0, 0)) := alloc_at _ _
      generalize wr.alloc (.cells #[.string c.name, .int .i64 c.kind] 104) = W1 at *
      have HS1 : Hid (FtSt w W1 (.slice (some ⟨cb, coff, none⟩) cs.length ccap) (.slice (some ⟨eb, eoff, none⟩) es.length ecap) (.slice bo L.length bcap) u0 pre) := hS1
      generalize wr.heap.size = gc at *
      obtain ⟨q0, q1⟩ := two_of hcx
      have HN1 : Hid (Calls Try.prog 105 #[u0, .int .i64 (c.name.size : Int)] W1 fun e w' => ∃ v', e = .returned v' ∧ w'.ownsRow w.heap.size 5 1 v' (pre ++ vint c.name.size).length (bcells (pre ++ vint c.name.size)) ∧ Grew W1 w' u0 v') := appendNumber_any _ pre c.name.size w.heap.size W1 (by omega) (by omega) hS1.bel.size hS1.own
      clear hS1 p0 p1 HS
      go_upto_region 6 with (go_at_call 105; refine HN1.out.mono ?_; rintro e w2 ⟨v2, rfl, ho2, hg2⟩)
      have hcx2 := HS1.out.far hg2 hcx (by decide)
      have HS2 : Hid (FtSt w w2 (.slice (some ⟨cb, coff, none⟩) cs.length ccap) (.slice (some ⟨eb, eoff, none⟩) es.length ecap) (.slice bo L.length bcap) v2 (pre ++ vint c.name.size)) := HS1.out.grew hg2 ho2
      clear ho2 hg2 HS1 HN1 hcx q0 q1
      obtain ⟨q0, q1⟩ := two_of hcx2
      have hvl := vint_len c.name.size
      have hp2 : (pre ++ vint c.name.size).length ≤ 310 := by rw [List.length_append]; omega
      generalize hpp : pre ++ vint c.name.size = pre2 at *
      have ho := HS2.out.own
      have hz2' : w.heap.size ≤ w2.heap.size := HS2.out.bel.size
      go_upto_region 7 with (at_builtin; refine wpList_append_str_keep _ rfl _ _ 44 9 rfl w.heap.size 5 i0 Try.underlying44 Try.underlying9 hi hz0 hz1 hz2 _ pre2.length _ rfl ho c.name rfl (by unfold maxLen; omega) (by omega) hz2' ?_; intro v3 w3 ho3 hg3)
      have hcx3 := HS2.out.far hg3 hcx2 (by decide)
      have HS3 : Hid (FtSt w w3 (.slice (some ⟨cb, coff, none⟩) cs.length ccap) (.slice (some ⟨eb, eoff, none⟩) es.length ecap) (.slice bo L.length bcap) v3 (pre2 ++ bytesOf c.name)) := HS2.out.grew hg3 (by
        rw [strCells_bytes] at ho3
        rw [List.length_append, bytesOf_length, bcells_append]
        exact ho3)
      clear ho3 hg3 HS2 hcx2 q0 q1 ho hz2'
      obtain ⟨q0, q1⟩ := two_of hcx3
      obtain ⟨t0, t1, t2⟩ := HS3.out.cells
      have e3 : w3.cell? ⟨eb, eoff + k, none⟩ = some (.int .i64 en) := (HS3.out.bel.cell (p := ⟨eb, eoff + k, none⟩) HLB.out).trans HE0.out
      have g1 : gc < w3.heap.size := lt_of_block hcx3
      have g2 : w.heap.size < w3.heap.size := lt_of_block HS3.out.box
      have g3 : eb < w3.heap.size := by have := HLB.out; omega
      have hp3 : (pre2 ++ bytesOf c.name).length ≤ 330 := by rw [List.length_append, bytesOf_length]; omega
      have HP3 : Hid (vint cs.length ++ colsB cs es (k + 1) = pre2 ++ bytesOf c.name ++ [byteOf c.kind, byteOf en]) := by show _ = _; rw [HP.out]
      have hw1 : IntKind.u8.wrap c.kind = (byteOf c.kind : Int) := byteOf_int c.kind
      have hw2 : IntKind.u8.wrap en = (byteOf en : Int) := byteOf_int en
      clear hpp HP
      generalize pre2 ++ bytesOf c.name = pre3 at *
      have ho := HS3.out.own
      go_region_held3 (fun W => W.cell? ⟨gc, 1, none⟩ = some (.int .i64 c.kind) ∧ W.cell? ⟨w.heap.size, 1, none⟩ = some (.slice (some ⟨eb, eoff, none⟩) es.length ecap) ∧ W.cell? ⟨eb, eoff + k, none⟩ = some (.int .i64 en)) (first | go_keep | exact ⟨s0, s1, s2⟩)
        ((refine step_append_lies _ (by rfl) _ _ 44 (by rfl) w.heap.size 5 i0 _ 1 1 Try.underlying44 hi hz0 hz1 hz2 rfl (by decide) v3 pre3.length _ (by rfl) ((ownsRow_below ho (Below.refl _ _).drew).alloc _) ⟨w3.heap.size, 0, none⟩ 2 2 [.int .u8 (byteOf c.kind : Int), .int .u8 (byteOf en : Int)] (by rfl) rfl (two_atC w3.drew _ _ _) (by intro u hu; simp at hu; rcases hu with rfl | rfl <;> rfl) (by decide) (by unfold maxLen; omega) (by omega) (by simp; omega) _ rfl ?_; intro g4 cap4 w4 ho4 hgr4 hat4 hlt4; have hg4 : Grew w3 w4 v3 (.slice (some ⟨g4, 0, none⟩) (pre3.length + 2) cap4) := ((Grew.refl w3 v3).drewN 1).trans (Grew.lies hgr4 hat4); have hcx4 := HS3.out.far hg4 hcx3 (by decide); have HS4 : Hid (FtSt w w4 (.slice (some ⟨cb, coff, none⟩) cs.length ccap) (.slice (some ⟨eb, eoff, none⟩) es.length ecap) (.slice bo L.length bcap) (.slice (some ⟨g4, 0, none⟩) (pre3.length + 2) cap4) (pre3 ++ [byteOf c.kind, byteOf en])) := HS3.out.grew hg4 (by rw [List.length_append, bcells_append]; exact ho4); have s0 := (two_of hcx4).2; have s1 := HS4.out.cells.2.1; have s2 : w4.cell? ⟨eb, eoff + k, none⟩ = some (.int .i64 en) := (HS4.out.bel.cell (p := ⟨eb, eoff + k, none⟩) HLB.out).trans HE0.out))
      clear ho4 hgr4 hat4 hlt4 hg4 hcx4 s0 s1 s2 ho hw1 hw2 q0 q1 t0 t1 t2 e3
      go_wp2_with fail
      go_roundw
      case rel => exact ⟨k + 1, by omega, by go_num, by rw [HP3.out]; exact HS4.out⟩
      case measure => simp [intOf]; omega
    · obtain rfl : k = cs.length := by omega
      have hpl : (vint cs.length ++ colsB cs es cs.length).length ≤ 300 := by
        have h1 := vint_len cs.length
        have h2 := colsB_len (es := es) HNM.out cs.length (Nat.le_refl _)
        rw [List.length_append]
        omega
      have HFB : Hid (footB cs es bs = vint cs.length ++ colsB cs es cs.length ++ vint bs.length ++ bandsB cs (bs.take L.length)) := by
        show _ = _
        rw [HLN.out, List.take_length]
        unfold footB
        simp
      have HF0 : Hid (vint cs.length ++ colsB cs es cs.length ++ vint bs.length = vint cs.length ++ colsB cs es cs.length ++ vint bs.length ++ bandsB cs (bs.take 0)) := by
        show _ = _
        simp [bandsB]
      generalize vint cs.length ++ colsB cs es cs.length = pre at *
      obtain ⟨t0, t1, t2⟩ := hS.cells
      have HN1 : Hid (Calls Try.prog 105 #[u0, .int .i64 (L.length : Int)] wr fun e w' => ∃ v', e = .returned v' ∧ w'.ownsRow w.heap.size 5 1 v' (pre ++ vint L.length).length (bcells (pre ++ vint L.length)) ∧ Grew wr w' u0 v') := appendNumber_any _ pre L.length w.heap.size wr (by omega) (by omega) hS.bel.size hS.own
      clear hS
      go_upto_region 10 with (go_at_call 105; refine HN1.out.mono ?_; rintro e w2 ⟨v2, rfl, ho2, hg2⟩)
      have HS2 : Hid (FtSt w w2 (.slice co cs.length ccap) (.slice eo es.length ecap) (.slice bo L.length bcap) v2 (pre ++ vint bs.length ++ bandsB cs (bs.take 0))) := by
        have h := HS.out.grew hg2 ho2
        rw [HLN.out] at h
        show FtSt _ _ _ _ _ _ _
        rw [← HF0.out]
        rw [HLN.out]
        exact h
      have hp2 : (pre ++ vint bs.length).length ≤ 310 := by have := vint_len bs.length; rw [List.length_append]; omega
      clear ho2 hg2 HS HN1 t0 t1 t2 HF0 HE1 HE2 HE3
      generalize pre ++ vint bs.length = pre2 at *
      obtain ⟨t0, t1, t2⟩ := HS2.out.cells
      go_wp2_with fail
      clear t0 t1 t2
      go_loopw [0, 54] (fun u i wr => ∃ k : Nat, k ≤ L.length ∧ i = .int .i64 (k : Int) ∧ FtSt w wr (.slice co cs.length ccap) (.slice eo es.length ecap) (.slice bo L.length bcap) u (pre2 ++ bandsB cs (bs.take k))) (fun _ i _ => L.length - (intOf i).toNat)
      case atStart => exact ⟨0, Nat.zero_le _, rfl, HS2.out⟩
      case round =>
        rename World => wq
        clear HS2
        obtain ⟨k, hk, rfl, hS⟩ := hrel
        have HS : Hid (FtSt w wq (.slice co cs.length ccap) (.slice eo es.length ecap) (.slice bo L.length bcap) u0 (pre2 ++ bandsB cs (bs.take k))) := hS
        have hsz : w.heap.size ≤ wq.heap.size := hS.bel.size
        by_cases hlt : k < L.length
        · have hlb : k < bs.length := by rw [← HLN.out]; exact hlt
          have hgr := HGR.out.below hS.bel
          obtain rfl := hgr.addr (by omega)
          have p0 : wq.cell? ⟨bb, boff + k * 2, none⟩ = some (.int .i64 (L[k].1.rows : Int)) := hgr.c k hlt 0 _ rfl
          have p1 : wq.cell? ⟨bb, boff + k * 2 + 1, none⟩ = some L[k].2 := hgr.c k hlt 1 _ rfl
          have hbk : L[k].1 = bs[k] := by
            have := HL.out
            have h2 : (L.map Prod.fst)[k]'(by simpa using hlt) = bs[k] := by simp only [this]
            simpa using h2
          have HOW : Hid (w.ownsRow base 156 8 L[k].2 bs[k].chunks.length (kcells bs[k].chunks)) := by have := HEA.out L[k] (List.getElem_mem hlt); rw [hbk] at this; exact this
          have HBK : Hid (BdOk cs.length bs[k]) := HBS.out bs[k] (List.getElem_mem hlb)
          have HP : Hid (pre2 ++ bandsB cs (bs.take (k + 1)) = pre2 ++ bandsB cs (bs.take k) ++ vint bs[k].rows ++ partsB cs bs[k].chunks bs[k].chunks.length) := by
            show _ = _
            rw [bandsB_take cs bs k hlb]
            unfold bandB
            simp
          have hpl : (pre2 ++ bandsB cs (bs.take k)).length ≤ 1540310 := by
            have h1 := bandsB_len (bs := bs.take k) (fun b hb => HBS.out b (List.mem_of_mem_take hb)) hcl cs
            rw [List.length_append]
            rw [List.length_take] at h1
            omega
          rw [hbk] at p0
          obtain ⟨ko, kb, koff, kcap, hkv, hkr⟩ := GSl.of_owns kcell_len HOW.out
          rw [hkv] at p1
          have HKR : Hid (GRow w kcell 8 ko kb koff bs[k].chunks) := hkr
          have hcl2 : bs[k].chunks.length ≤ 8 := by have := HBK.out.len; omega
          have hrw := HBK.out.rows
          generalize hb : bs[k] = b at *
          generalize hpp : pre2 ++ bandsB cs (bs.take k) = pre at *
          clear hgr hbk hb hpp hS HOW hkr hkv
          go_upto_region 13 with fail
          have hS1 := HS.out.alloc (.cells #[.int .i64 (b.rows : Int), .slice ko b.chunks.length kcap] 152)
          have hcx : (wq.alloc (.cells #[.int .i64 (b.rows : Int), .slice ko b.chunks.length kcap] 152)).heap[wq.heap.size]? = some (.cells #[.int .i64 (b.rows : Int), .slice ko b.chunks.length kcap] 152 (0, 0)) := alloc_at _ _
          generalize wq.alloc (.cells #[.int .i64 (b.rows : Int), .slice ko b.chunks.length kcap] 152) = W1 at *
          have HS1 : Hid (FtSt w W1 (.slice co cs.length ccap) (.slice eo es.length ecap) (.slice (some ⟨bb, boff, none⟩) L.length bcap) u0 pre) := hS1
          generalize wq.heap.size = gc at *
          obtain ⟨q0, q1⟩ := two_of hcx
          have HN1 : Hid (Calls Try.prog 105 #[u0, .int .i64 (b.rows : Int)] W1 fun e w' => ∃ v', e = .returned v' ∧ w'.ownsRow w.heap.size 5 1 v' (pre ++ vint b.rows).length (bcells (pre ++ vint b.rows)) ∧ Grew W1 w' u0 v') := appendNumber_any _ pre b.rows w.heap.size W1 hrw (by omega) hS1.bel.size hS1.own
          clear hS1 p0 p1 HS hrw
          go_upto_region 14 with (go_at_call 105; refine HN1.out.mono ?_; rintro e w2 ⟨v2, rfl, ho2, hg2⟩)
          have hcx2 := HS1.out.far hg2 hcx (by decide)
          have HS2 : Hid (FtSt w w2 (.slice co cs.length ccap) (.slice eo es.length ecap) (.slice (some ⟨bb, boff, none⟩) L.length bcap) v2 (pre ++ vint b.rows ++ partsB cs b.chunks 0)) := by
            have h := HS1.out.grew hg2 ho2
            show FtSt _ _ _ _ _ _ _
            rw [show partsB cs b.chunks 0 = [] from rfl, List.append_nil]
            exact h
          clear ho2 hg2 HS1 HN1 hcx q0 q1
          obtain ⟨q0, q1⟩ := two_of hcx2
          have hp3 : (pre ++ vint b.rows).length ≤ 1540320 := by have := vint_len b.rows; rw [List.length_append]; omega
          generalize pre ++ vint b.rows = pre3 at *
          go_wp2_with fail
          clear q0 q1 hcx2
          go_loopw [0, 65] (fun u i wr => ∃ i' : Nat, i' ≤ b.chunks.length ∧ i = .int .i64 (i' : Int) ∧ FtSt w wr (.slice co cs.length ccap) (.slice eo es.length ecap) (.slice (some ⟨bb, boff, none⟩) L.length bcap) u (pre3 ++ partsB cs b.chunks i')) (fun _ i _ => b.chunks.length - (intOf i).toNat)
          case atStart => exact ⟨0, Nat.zero_le _, rfl, HS2.out⟩
          case round =>
            rename World => wx
            clear HS2
            obtain ⟨i, hi', rfl, hS⟩ := hrel
            have HS : Hid (FtSt w wx (.slice co cs.length ccap) (.slice eo es.length ecap) (.slice (some ⟨bb, boff, none⟩) L.length bcap) u0 (pre3 ++ partsB cs b.chunks i)) := hS
            have hsz : w.heap.size ≤ wx.heap.size := hS.bel.size
            by_cases hli : i < b.chunks.length
            · have hlc : i < cs.length := by have := HBK.out.len; omega
              have hcr := HCR.out.below hS.bel
              obtain rfl := hcr.addr (by omega)
              have p5 := hcr.c1 i hlc
              have hkr := HKR.out.below hS.bel
              obtain rfl := hkr.addr (by omega)
              have p0 : wx.cell? ⟨kb, koff + i * 8, none⟩ = some (.string b.chunks[i].text) := hkr.c i hli 0 _ rfl
              have y1 : wx.cell? ⟨kb, koff + i * 8 + 1, none⟩ = some (.bool b.chunks[i].bnd.there) := hkr.c i hli 1 _ rfl
              have y2 : wx.cell? ⟨kb, koff + i * 8 + 2, none⟩ = some (.bool b.chunks[i].bnd.least.null) := hkr.c i hli 2 _ rfl
              have y3 : wx.cell? ⟨kb, koff + i * 8 + 3, none⟩ = some (.int .i64 b.chunks[i].bnd.least.n) := hkr.c i hli 3 _ rfl
              have y4 : wx.cell? ⟨kb, koff + i * 8 + 4, none⟩ = some (.string b.chunks[i].bnd.least.s) := hkr.c i hli 4 _ rfl
              have y5 : wx.cell? ⟨kb, koff + i * 8 + 5, none⟩ = some (.bool b.chunks[i].bnd.most.null) := hkr.c i hli 5 _ rfl
              have y6 : wx.cell? ⟨kb, koff + i * 8 + 6, none⟩ = some (.int .i64 b.chunks[i].bnd.most.n) := hkr.c i hli 6 _ rfl
              have y7 : wx.cell? ⟨kb, koff + i * 8 + 7, none⟩ = some (.string b.chunks[i].bnd.most.s) := hkr.c i hli 7 _ rfl
              have HPP : Hid (pre3 ++ partsB cs b.chunks (i + 1) = pre3 ++ partsB cs b.chunks i ++ vint b.chunks[i].text.size ++ boundB cs[i].kind b.chunks[i].bnd) := by
                show _ = _
                rw [partsB_succ]
                unfold partB
                rw [List.getD_eq_getElem?_getD (l := cs), List.getElem?_eq_getElem hlc, List.getD_eq_getElem?_getD (l := b.chunks), List.getElem?_eq_getElem hli]
                simp
              have hpl2 : (pre3 ++ partsB cs b.chunks i).length ≤ 1542000 := by
                have h1 := partsB_len HBK.out cs i hi'
                rw [List.length_append]
                omega
              have hts := HBK.out.size _ (List.getElem_mem hli)
              have HV1 : Hid (VOk b.chunks[i].bnd.least) := HBK.out.least _ (List.getElem_mem hli)
              have HV2 : Hid (VOk b.chunks[i].bnd.most) := HBK.out.most _ (List.getElem_mem hli)
              have HK1 : Hid (cs[i].kind = 1 ∨ cs[i].kind = 2 ∨ cs[i].kind = 3) := HKD.out _ (List.getElem_mem hlc)
              have HC5 : Hid (cb < w.heap.size) := HCR.out.lt (by omega)
              have HP5 : Hid (w.cell? ⟨cb, coff + i * 2 + 1, none⟩ = some (.int .i64 cs[i].kind)) := HCR.out.c1 i hlc
              have hil : (i : Int) < (cs.length : Int) := by omega
              generalize b.chunks[i] = ch at *
              generalize cs[i].kind = kd at *
              generalize pre3 ++ partsB cs b.chunks i = pre4 at *
              clear hcr hkr hS p5
              go_upto_region 17 with fail
              have hS1 := HS.out.alloc (.cells (kcell ch).toArray 156)
              have hcx : (wx.alloc (.cells (kcell ch).toArray 156)).heap[wx.heap.size]? = some (.cells (kcell ch).toArray 156 (0, 0)) := alloc_at _ _
              rw [show (kcell ch).toArray = #[.string ch.text, .bool ch.bnd.there, .bool ch.bnd.least.null, .int .i64 ch.bnd.least.n, .string ch.bnd.least.s, .bool ch.bnd.most.null, .int .i64 ch.bnd.most.n, .string ch.bnd.most.s] from rfl] at hS1 hcx
              generalize wx.alloc (.cells #[.string ch.text, .bool ch.bnd.there, .bool ch.bnd.least.null, .int .i64 ch.bnd.least.n, .string ch.bnd.least.s, .bool ch.bnd.most.null, .int .i64 ch.bnd.most.n, .string ch.bnd.most.s] 156) = W5 at *
              have HS5 : Hid (FtSt w W5 (.slice (some ⟨cb, coff, none⟩) cs.length ccap) (.slice eo es.length ecap) (.slice (some ⟨bb, boff, none⟩) L.length bcap) u0 pre4) := hS1
              have hcx5 : W5.heap[wx.heap.size]? = some (.cells (kcell ch).toArray 156 (0, 0)) := hcx
              generalize wx.heap.size = gx at *
              have HN1 : Hid (Calls Try.prog 105 #[u0, .int .i64 (ch.text.size : Int)] W5 fun e w' => ∃ v', e = .returned v' ∧ w'.ownsRow w.heap.size 5 1 v' (pre4 ++ vint ch.text.size).length (bcells (pre4 ++ vint ch.text.size)) ∧ Grew W5 w' u0 v') := appendNumber_any _ pre4 ch.text.size w.heap.size W5 hts (by omega) hS1.bel.size hS1.own
              clear hS1 p0 y1 y2 y3 y4 y5 y6 y7 HS hts hcx
              obtain ⟨⟨c0, -⟩, -⟩ := chk_cells hcx5
              go_upto_region 18 with (go_at_call 105; refine HN1.out.mono ?_; rintro e w6 ⟨v6, rfl, ho6, hg6⟩)
              have hcx6 := HS5.out.far hg6 hcx5 (by decide)
              have HS6 : Hid (FtSt w w6 (.slice (some ⟨cb, coff, none⟩) cs.length ccap) (.slice eo es.length ecap) (.slice (some ⟨bb, boff, none⟩) L.length bcap) v6 (pre4 ++ vint ch.text.size)) := HS5.out.grew hg6 ho6
              have HP6 : Hid (pre3 ++ partsB cs b.chunks (i + 1) = pre4 ++ vint ch.text.size ++ boundB kd ch.bnd) := HPP.out
              have hp6 : (pre4 ++ vint ch.text.size).length ≤ 1542010 := by have := vint_len ch.text.size; rw [List.length_append]; omega
              clear ho6 hg6 HS5 HN1 hcx5 c0 HPP
              generalize pre4 ++ vint ch.text.size = pre6 at *
              have HAB : Hid (Calls Try.prog 122 #[v6, .agg #[.bool ch.bnd.there, .bool ch.bnd.least.null, .int .i64 ch.bnd.least.n, .string ch.bnd.least.s, .bool ch.bnd.most.null, .int .i64 ch.bnd.most.n, .string ch.bnd.most.s], .int .i64 kd] w6.drew fun e w' => ∃ u', e = .returned u' ∧ w'.ownsRow w.heap.size 5 1 u' (pre6 ++ boundB kd ch.bnd).length (bcells (pre6 ++ boundB kd ch.bnd)) ∧ Grew w6.drew w' v6 u') :=
                appendBounds_any v6 pre6 ch.bnd kd w.heap.size w6.drew HK1.out HV1.out HV2.out (by omega) HS6.out.bel.size HS6.out.drew.own
              obtain ⟨⟨-, c1, c2, c3, c4, c5, c6, c7⟩, -⟩ := chk_cells hcx6
              obtain ⟨t0, t1, t2⟩ := HS6.out.cells
              have e6 : w6.cell? ⟨cb, coff + i * 2 + 1, none⟩ = some (.int .i64 kd) := (HS6.out.bel.cell (p := ⟨cb, coff + i * 2 + 1, none⟩) HC5.out).trans HP5.out
              go_region_held3 (fun W => W.cell? ⟨gx, 1, none⟩ = some (.bool ch.bnd.there) ∧ W.cell? ⟨gx, 2, none⟩ = some (.bool ch.bnd.least.null) ∧ W.cell? ⟨gx, 3, none⟩ = some (.int .i64 ch.bnd.least.n) ∧ W.cell? ⟨gx, 4, none⟩ = some (.string ch.bnd.least.s) ∧ W.cell? ⟨gx, 5, none⟩ = some (.bool ch.bnd.most.null) ∧ W.cell? ⟨gx, 6, none⟩ = some (.int .i64 ch.bnd.most.n) ∧ W.cell? ⟨gx, 7, none⟩ = some (.string ch.bnd.most.s) ∧ W.cell? ⟨w.heap.size, 0, none⟩ = some (.slice (some ⟨cb, coff, none⟩) cs.length ccap) ∧ W.cell? ⟨cb, coff + i * 2 + 1, none⟩ = some (.int .i64 kd)) (first | go_keep | exact ⟨s1, s2, s3, s4, s5, s6, s7, s8, s9⟩)
                ((go_at_call 122; refine HAB.out.mono ?_; rintro e w7 ⟨v7, rfl, ho7, hg7⟩; have hg7' : Grew w6 w7 v6 v7 := ((Grew.refl w6 v6).drewN 1).trans hg7; have hcx7 := HS6.out.far hg7' hcx6 (by decide); have HS7 : Hid (FtSt w w7 (.slice (some ⟨cb, coff, none⟩) cs.length ccap) (.slice eo es.length ecap) (.slice (some ⟨bb, boff, none⟩) L.length bcap) v7 (pre6 ++ boundB kd ch.bnd)) := HS6.out.grew hg7' ho7; obtain ⟨⟨-, s1, s2, s3, s4, s5, s6, s7⟩, -⟩ := chk_cells hcx7; have s8 := HS7.out.cells.1; have s9 : w7.cell? ⟨cb, coff + i * 2 + 1, none⟩ = some (.int .i64 kd) := (HS7.out.bel.cell (p := ⟨cb, coff + i * 2 + 1, none⟩) HC5.out).trans HP5.out))
              clear ho7 hg7 hg7' hcx7 s1 s2 s3 s4 s5 s6 s7 s8 s9 c1 c2 c3 c4 c5 c6 c7 t0 t1 t2 e6 hcx6
              go_wp2_with fail
              go_roundw
              case rel => exact ⟨i + 1, by omega, by go_num, by rw [HP6.out]; exact HS7.out⟩
              case measure => simp [intOf]; omega
            · obtain rfl : i = b.chunks.length := by omega
              have HS7 : Hid (FtSt w wx (.slice co cs.length ccap) (.slice eo es.length ecap) (.slice (some ⟨bb, boff, none⟩) L.length bcap) u0 (pre2 ++ bandsB cs (bs.take (k + 1)))) := by show FtSt _ _ _ _ _ _ _; rw [HP.out]; exact hS
              clear hS HS
              go_wp2_with fail
              go_roundw
              case rel => exact ⟨k + 1, by omega, by go_num, HS7.out⟩
              case measure => simp [intOf]; omega
        · obtain rfl : k = L.length := by omega
          have HS7 : Hid (FtSt w wq (.slice co cs.length ccap) (.slice eo es.length ecap) (.slice bo L.length bcap) u0 (footB cs es bs)) := by show FtSt _ _ _ _ _ _ _; rw [HFB.out]; exact hS
          clear hS HS
          go_wp2_with fail
          go_ret
          exact ⟨_, rfl, HS7.out.own, HS7.out.bel⟩
end Go.Proofs.Ytjidbonhhpkljaa.Ec
