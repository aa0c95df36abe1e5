/- What the proof stands on: DvBook, DvOwn, DvLooks, DvDecodes, DcBack, DvDecodesW. -/
import Derived.Test.YtjidbonhhpkljaaMf
import Derived.Deep.CutBlock

/- The statement's book of lists of values that came out: what stays true of it while lists are written over and grow. -/
set_option linter.unusedVariables false
namespace Go.Proofs.Ytjidbonhhpkljaa.Ec
open Go.RowKit Go.Proofs.Ytjidbonhhpkljaa.Pk Go.Proofs.Ytjidbonhhpkljaa.Pm

/-- The mark's text. -/
def mk4 : ByteArray := ⟨#[109, 97, 114, 107]⟩
/-- A mark. -/
def mkV (k : Int) : Val := ⟨false, -1 - k, mk4⟩

theorem full_cells {cur : Array Value} {n : Nat} {k : Int} (h : cur.toList.take (n * 3) = vcells (List.replicate n (mkV k))) {j : Nat} (hj : j < n) : cur[j * 3]? = some (.bool false) ∧ cur[j * 3 + 1]? = some (.int .i64 (-1 - k)) ∧ cur[j * 3 + 2]? = some (.string mk4) := by
  obtain ⟨h1, h2, h3⟩ := vcells_at (List.replicate n (mkV k)) j (by simpa using hj)
  rw [← h, List.getElem?_take, if_pos (by omega)] at h1 h2 h3
  simp only [List.getElem_replicate, Array.getElem?_toList] at h1 h2 h3
  exact ⟨h1, h2, h3⟩

theorem Try.infoVOut : (Try.prog.info? 123).map (fun i => (i.zero, i.size, i.bytes)) = some (some (.agg #[.slice none 0 0, .int .i64 0]), 2, 32) := by kernel_rfl

/-- A list of numbers that reads as its mark says. -/
def VFull (w : World) (v : Value) (m : Int) : Prop :=
  ∃ ao n cap, v = .slice ao n cap ∧ n ≤ 1000 ∧ (0 < n → ∃ g cur, ao = some ⟨g, 0, none⟩ ∧ w.heap[g]? = some (.cells cur 39 (0, 0)) ∧ ∀ j, j < n → cur[j * 3]? = some (.bool false) ∧ cur[j * 3 + 1]? = some (.int .i64 (-1 - m)) ∧ cur[j * 3 + 2]? = some (.string mk4))

/-- The book, with its entries. -/
structure VkInv (w : World) (base B : Nat) (iv : Value) (es : List (Value × Int)) : Prop where
  blk : w.heap[B]? = some (.cells #[.slice none 0 0, iv, .slice none 0 0, .slice none 0 0] 70 (0, 0))
  own : w.ownsRow base 123 2 iv es.length (ecells es)
  full : ∀ e ∈ es, VFull w e.1 e.2

theorem VFull.other {w w' : World} {v : Value} {m : Int} {row : Option Nat} (h : VFull w v m) (hg : w.grownBy w' row)
    (hne : ∀ g cur, v.ownBlock = some g → w.heap[g]? = some (.cells cur 39 (0, 0)) → row ≠ some g) : VFull w' v m := by
  obtain ⟨ao, n, cap, rfl, hn, hf⟩ := h
  refine ⟨ao, n, cap, rfl, hn, fun h0 => ?_⟩
  obtain ⟨g, cur, rfl, hb, hc⟩ := hf h0
  exact ⟨g, cur, rfl, by rw [hg.block g (lt_of_block hb) (fun h => hne g cur rfl hb h.symm)]; exact hb, hc⟩

theorem VkInv.other {w w' : World} {base B : Nat} {iv : Value} {es : List (Value × Int)} {row : Option Nat} (h : VkInv w base B iv es) (hg : w.grownBy w' row)
    (h3 : ∀ g, row = some g → (∃ cur, w.heap[g]? = some (.cells cur 39 (0, 0))) ∧ ∀ e ∈ es, ∀ ao n cap, e.1 = .slice ao n cap → 0 < n → e.1.ownBlock ≠ some g) : VkInv w' base B iv es := by
  refine ⟨?_, ?_, ?_⟩
  · rw [hg.block B (lt_of_block h.blk) (fun hr => ?_)]
    · exact h.blk
    · obtain ⟨⟨cur, hc⟩, _⟩ := h3 B hr.symm
      exact blk_ne hc h.blk (by decide) rfl
  · refine h.own.kept hg ?_
    by_cases hi : iv.ownBlock = none
    · exact .inl hi
    · refine .inr fun hr => ?_
      obtain ⟨g, hgi⟩ := Option.ne_none_iff_exists'.1 hi
      obtain ⟨cur, hc⟩ := owns_blk h.own hgi
      obtain ⟨⟨cur2, hc2⟩, _⟩ := h3 g (by rw [← hr, hgi])
      exact blk_ne hc hc2 (by decide) rfl
  · intro e he
    obtain ⟨ao, n, cap, h1, hn, hf⟩ := h.full e he
    rw [h1]
    refine ⟨ao, n, cap, rfl, hn, fun h0 => ?_⟩
    obtain ⟨g, cur, rfl, hb, hc⟩ := hf h0
    refine ⟨g, cur, rfl, ?_, hc⟩
    rw [hg.block g (lt_of_block hb) (fun hr => ?_)]
    · exact hb
    · exact (h3 g hr.symm).2 e he _ _ _ h1 h0 (by rw [h1]; rfl)

/-- An entry more: behind 'append' on the book's row and the store. -/
theorem VkInv.push {w w1 : World} {base B : Nat} {iv iv' v : Value} {k : Int} {es : List (Value × Int)} {n : Nat} {xs : List Value} (o : Obj) (h : VkInv w base B iv es) (hv : VFull w v k)
    (hl : w.ownsRow base 39 3 v n xs) (hB : base ≤ B) (hown : w1.ownsRow base 123 2 iv' (es.length + 1) (ecells es ++ [v, .int .i64 k])) (hg : (w.alloc o).grownBy w1 iv.ownBlock) :
    VkInv (w1.setCell ⟨B, 1, none⟩ iv') base B iv' (es ++ [(v, k)]) ∧ (w1.setCell ⟨B, 1, none⟩ iv').ownsRow base 39 3 v n xs := by
  have ha : w.grownBy (w.alloc o) none := World.grownBy_alloc w o none
  have hne : ∀ (b : Nat) (c : Array Value) (t : TypeId), w.heap[b]? = some (.cells c t (0, 0)) → t ≠ 123 → w1.heap[b]? = w.heap[b]? := by
    intro b c t hb ht
    rw [hg.block b (by have := lt_of_block hb; simp; omega) (fun hr => ?_), ha.block b (lt_of_block hb) (by simp)]
    obtain ⟨cur, hc⟩ := owns_blk h.own hr.symm
    exact blk_ne hb hc ht rfl
  have hB1 := hne B _ _ h.blk (by decide)
  rw [h.blk] at hB1
  have hB2 := heap_setCell_same w1 B 1 _ _ iv' hB1
  have hne2 : ∀ (b : Nat) (c : Array Value) (t : TypeId), w.heap[b]? = some (.cells c t (0, 0)) → t ≠ 123 → t ≠ 70 → (w1.setCell ⟨B, 1, none⟩ iv').heap[b]? = w.heap[b]? := by
    intro b c t hb ht ht2
    rw [heap_setCell_other w1 ⟨B, 1, none⟩ b iv' (fun hr => ?_), hne b c t hb ht]
    exact blk_ne hb h.blk ht2 hr
  have hfil : ∀ u m, VFull w u m → VFull (w1.setCell ⟨B, 1, none⟩ iv') u m := by
    rintro u m ⟨ao, n', cap, rfl, hn, hf⟩
    refine ⟨ao, n', cap, rfl, hn, fun h0 => ?_⟩
    obtain ⟨g, cur, rfl, hb, hc⟩ := hf h0
    exact ⟨g, cur, rfl, by rw [hne2 g _ _ hb (by decide) (by decide)]; exact hb, hc⟩
  refine ⟨⟨?_, ?_, ?_⟩, ?_⟩
  · rw [hB2]; rfl
  · rw [List.length_append, List.length_singleton, ← ecells_snoc]
    refine ownsRow_setCell_other hown (fun hr => ?_) _
    obtain ⟨cur, hc⟩ := owns_blk hown hr
    exact blk_ne hc hB1 (by decide) rfl
  · intro e he
    rcases List.mem_append.1 he with h1 | h1
    · exact hfil _ _ (h.full e h1)
    · simp at h1
      subst h1
      exact hfil _ _ hv
  · refine ⟨hl.1, ?_⟩
    rcases hl.2 with h1 | ⟨g, cap, cur, h1, h2, h3, h4⟩
    · exact .inl h1
    · exact .inr ⟨g, cap, cur, h1, h2, by rw [hne2 g _ _ h3 (by decide) (by decide)]; exact h3, h4⟩

theorem VFull.mk {w : World} {base : Nat} {v : Value} {n : Nat} {x : Int} (h : w.ownsRow base 39 3 v n (vcells (List.replicate n (mkV x)))) (hn : n ≤ 1000) : VFull w v x := by
  rcases h.2 with ⟨rfl, rfl⟩ | ⟨g, cap, cur, rfl, _, h3, _, _, _, h7⟩
  · exact ⟨none, 0, 0, rfl, by omega, by omega⟩
  · refine ⟨_, n, cap, rfl, hn, fun h0 => ⟨g, cur, rfl, h3, fun j hj => ?_⟩⟩
    exact full_cells h7 hj

/-- Of the entries those that stand in the row of v are no longer than n, and bear the mark k. -/
def VShares (v : Value) (n : Nat) (k : Int) (es : List (Value × Int)) : Prop := ∀ e ∈ es, ∀ g n' cap', e.1 = .slice (some ⟨g, 0, none⟩) n' cap' → 0 < n' → v.ownBlock = some g → e.2 = k ∧ n' ≤ n

/-- The list grows by one more mark. -/
theorem VkInv.grow {w w1 : World} {base B : Nat} {iv v v' : Value} {k : Int} {es : List (Value × Int)} {n : Nat} (o : Obj) (h : VkInv w base B iv es) (hs : VShares v n k es)
    (hl : w.ownsRow base 39 3 v n (vcells (List.replicate n (mkV k)))) (hown : w1.ownsRow base 39 3 v' (n + 1) (vcells (List.replicate (n + 1) (mkV k))))
    (hg : ((w.alloc o).grownBy w1 none ∧ w1.ownsRow (w.alloc o).heap.size 39 3 v' (n + 1) (vcells (List.replicate (n + 1) (mkV k)))) ∨ (v'.ownBlock = v.ownBlock ∧ (w.alloc o).grownBy w1 v.ownBlock)) :
    VkInv w1 base B iv es ∧ VShares v' (n + 1) k es := by
  have ha := h.other (World.grownBy_alloc w o none) (fun g hg => by cases hg)
  rcases hg with ⟨hg, hnew⟩ | ⟨hv, hg⟩
  · refine ⟨ha.other hg (fun g hg => by cases hg), ?_⟩
    intro e he g n' cap' h1 h0 hvg
    exfalso
    obtain ⟨ao, n2, cap2, h2, _, hf⟩ := ha.full e he
    rw [h1] at h2
    simp only [Value.slice.injEq] at h2
    obtain ⟨rfl, rfl, rfl⟩ := h2
    obtain ⟨g2, cur, hg2, hb, _⟩ := hf h0
    simp only [Option.some.injEq, Addr.mk.injEq, and_true] at hg2
    subst hg2
    have := lt_of_block hb
    have := (hnew.lt g hvg).1
    omega
  · rcases hown.2 with ⟨_, h0⟩ | ⟨g0, cap0, cur0, rfl, _, hb0, _, _, _, ht0⟩
    · omega
    have hv0 : v.ownBlock = some g0 := by rw [← hv]; rfl
    rw [hv0] at hg
    obtain ⟨curA, hcA⟩ := owns_blk (hl.alloc o) hv0
    have hcell : ∀ j, j < n + 1 → cur0[j * 3]? = some (.bool false) ∧ cur0[j * 3 + 1]? = some (.int .i64 (-1 - k)) ∧ cur0[j * 3 + 2]? = some (.string mk4) := fun j hj => full_cells ht0 hj
    refine ⟨⟨?_, ?_, ?_⟩, ?_⟩
    · rw [hg.block B (lt_of_block ha.blk) (fun hr => ?_)]
      · exact ha.blk
      · simp at hr
        subst hr
        exact blk_ne hcA ha.blk (by decide) rfl
    · refine ha.own.kept hg ?_
      by_cases hi : iv.ownBlock = none
      · exact .inl hi
      · refine .inr fun hr => ?_
        obtain ⟨cur, hc⟩ := owns_blk ha.own hr
        exact blk_ne hc hcA (by decide) rfl
    · intro e he
      obtain ⟨ao, n2, cap2, h2, hn2, hf⟩ := ha.full e he
      rw [h2]
      refine ⟨ao, n2, cap2, rfl, hn2, fun hp => ?_⟩
      obtain ⟨g, cur, rfl, hb, hc⟩ := hf hp
      by_cases hgg : g = g0
      · subst hgg
        obtain ⟨hm, hle⟩ := hs e he g n2 cap2 h2 hp hv0
        exact ⟨g, cur0, rfl, hb0, fun j hj => by rw [hm]; exact hcell j (by omega)⟩
      · exact ⟨g, cur, rfl, by rw [hg.block g (lt_of_block hb) (by simp; exact hgg)]; exact hb, hc⟩
    · intro e he g n' cap' h1 hp hvg
      obtain ⟨hm, hle⟩ := hs e he g n' cap' h1 hp (by rw [hv0]; exact hvg)
      exact ⟨hm, by omega⟩
end Go.Proofs.Ytjidbonhhpkljaa.Ec

/- The contract of the book's ownValues: a list is written full of its mark, three more are put behind it, and all four stand in the book. -/
set_option linter.unusedVariables false
namespace Go.Proofs.Ytjidbonhhpkljaa.Ec
open Go.RowKit Go.Proofs.Ytjidbonhhpkljaa.Pk Go.Proofs.Ytjidbonhhpkljaa.Pm

theorem VkInv.cells {w : World} {base B : Nat} {iv : Value} {es : List (Value × Int)} (h : VkInv w base B iv es) : w.cell? ⟨B, 1, none⟩ = some iv ∧ w.frozen? ⟨B, 1, none⟩ = false := by
  have := h.blk
  exact ⟨by simp [World.cell?, this], by simp [World.frozen?, this]⟩

theorem VkInv.cells1 {w w1 : World} {base B : Nat} {iv : Value} {es : List (Value × Int)} (o : Obj) (h : VkInv w base B iv es) (hg : (w.alloc o).grownBy w1 iv.ownBlock) : w1.cell? ⟨B, 1, none⟩ = some iv ∧ w1.frozen? ⟨B, 1, none⟩ = false := by
  have hb : w1.heap[B]? = some (.cells #[.slice none 0 0, iv, .slice none 0 0, .slice none 0 0] 70 (0, 0)) := by
    rw [hg.block B (by have := lt_of_block h.blk; simp; omega) (fun hr => ?_), (World.grownBy_alloc w o none).block B (lt_of_block h.blk) (by simp)]
    · exact h.blk
    · obtain ⟨cur, hc⟩ := owns_blk h.own hr.symm
      exact blk_ne h.blk hc (by decide) rfl
  exact ⟨by simp [World.cell?, hb], by simp [World.frozen?, hb]⟩

theorem set_grown (w : World) (g o : Nat) (v : Value) : w.grownBy (w.setCell ⟨g, o, none⟩ v) (some g) :=
  ⟨rfl, rfl, rfl, by simp, fun k _ hne => heap_setCell_other _ _ _ _ (fun e => hne (by cases e; rfl))⟩
theorem set3_grown (w : World) (g j : Nat) (a b c : Value) : w.grownBy (((w.setCell ⟨g, j * 3, none⟩ a).setCell ⟨g, j * 3 + 1, none⟩ b).setCell ⟨g, j * 3 + 2, none⟩ c) (some g) :=
  ((set_grown w g _ a).trans (set_grown _ g _ b)).trans (set_grown _ g _ c)

/-- What the statement's lists have kept of others. -/
def KeepVals (v : Value) (w w' : World) : Prop := ∀ (g : Nat) (cur : Array Value), w.heap[g]? = some (.cells cur 39 (0, 0)) → v.ownBlock ≠ some g → w'.heap[g]? = some (.cells cur 39 (0, 0))

theorem KeepVals.step {v : Value} {w wr w1 : World} {row : Option Nat} (h : KeepVals v w wr) (hg : wr.grownBy w1 row)
    (hne : ∀ (g : Nat) (cur : Array Value), row = some g → wr.heap[g]? = some (.cells cur 39 (0, 0)) → v.ownBlock = some g ∨ w.heap.size ≤ g) : KeepVals v w w1 := by
  intro g cur hb hv
  have h1 := h g cur hb hv
  rw [hg.block g (lt_of_block h1) (fun hr => ?_)]
  · exact h1
  · rcases hne g cur hr.symm h1 with h2 | h2
    · exact hv h2
    · have := lt_of_block hb
      omega

theorem KeepVals.push {v : Value} {w wr w1 : World} {base B : Nat} {iv : Value} {es : List (Value × Int)} {o : Obj} (h : KeepVals v w wr) (hI : VkInv wr base B iv es) (hg : (wr.alloc o).grownBy w1 iv.ownBlock) (u : Value) :
    KeepVals v w (w1.setCell ⟨B, 1, none⟩ u) := by
  have ha := h.step (World.grownBy_alloc wr o none) (fun g _ hg _ => by cases hg)
  have hIa := hI.other (World.grownBy_alloc wr o none) (fun g hg => by cases hg)
  intro g cur hb hv
  have h1 := ha g cur hb hv
  rw [heap_setCell_other w1 ⟨B, 1, none⟩ g u (fun hr => ?_), hg.block g (lt_of_block h1) (fun hr => ?_)]
  · exact h1
  · obtain ⟨c2, h2⟩ := owns_blk hIa.own hr.symm
    exact blk_ne h1 h2 (by decide) rfl
  · exact blk_ne h1 hIa.blk (by decide) hr

theorem vfill_step (l : List Val) (x : Val) (t : Nat) (h : t < l.length) : (List.replicate t x ++ l.drop t).set t x = List.replicate (t + 1) x ++ l.drop (t + 1) := by
  rw [List.set_append_right _ _ (by simp), List.length_replicate, Nat.sub_self, List.drop_eq_getElem_cons h, List.set_cons_zero, List.replicate_succ' (n := t)]
  simp
theorem vfill_snoc (n : Nat) (x : Val) : vcells (List.replicate n x) ++ [.bool x.null, .int .i64 x.n, .string x.s] = vcells (List.replicate (n + 1) x) := by rw [vcells_snoc, List.replicate_succ']

/-- A store into the list. -/
theorem VkInv.store {w : World} {base B : Nat} {iv : Value} {es : List (Value × Int)} {g n cap : Nat} {l : List Val} (h : VkInv w base B iv es) (hown : w.ownsRow base 39 3 (.slice (some ⟨g, 0, none⟩) n cap) n (vcells l))
    (hsh : ∀ e ∈ es, ∀ g' n' cap', e.1 = .slice (some ⟨g', 0, none⟩) n' cap' → 0 < n' → g ≠ g') (j : Nat) (x : Val) (hj : j < l.length) :
    VkInv (((w.setCell ⟨g, j * 3, none⟩ (.bool x.null)).setCell ⟨g, j * 3 + 1, none⟩ (.int .i64 x.n)).setCell ⟨g, j * 3 + 2, none⟩ (.string x.s)) base B iv es ∧
      (((w.setCell ⟨g, j * 3, none⟩ (.bool x.null)).setCell ⟨g, j * 3 + 1, none⟩ (.int .i64 x.n)).setCell ⟨g, j * 3 + 2, none⟩ (.string x.s)).ownsRow base 39 3 (.slice (some ⟨g, 0, none⟩) n cap) n (vcells (l.set j x)) := by
  refine ⟨h.other (set3_grown w g j _ _ _) ?_, ?_⟩
  · intro g' hg'
    simp at hg'
    subst hg'
    refine ⟨owns_blk hown rfl, ?_⟩
    intro e he ao n' cap' h1 h0 hob
    rw [h1] at hob
    cases ao with
    | none => simp [Value.ownBlock] at hob
    | some a =>
      obtain ⟨ao2, n2, cap2, h2, _, hf⟩ := h.full e he
      rw [h1] at h2
      simp only [Value.slice.injEq] at h2
      obtain ⟨rfl, rfl, rfl⟩ := h2
      obtain ⟨g2, cur, hg2, _⟩ := hf h0
      simp only [Option.some.injEq] at hg2
      subst hg2
      simp [Value.ownBlock] at hob
      exact hsh e he g2 n' cap' h1 h0 hob.symm
  · rw [← vcells_set l j x hj]
    exact ((((hown.stored (j * 3) (.bool x.null)).1).stored (j * 3 + 1) (.int .i64 x.n)).1.stored (j * 3 + 2) (.string x.s)).1

set_option maxRecDepth 100000 in
set_option maxHeartbeats 2000000 in
theorem ownValues_any (B base : Nat) (v iv : Value) (l : List Val) (es : List (Value × Int)) (w : World) (hl : l.length ≤ 100) (hk : es.length ≤ 10) (h : VkInv w base B iv es)
    (hown : w.ownsRow base 39 3 v l.length (vcells l)) (hB : base ≤ B) (hsh : ∀ e ∈ es, ∀ g' n' cap', e.1 = .slice (some ⟨g', 0, none⟩) n' cap' → 0 < n' → v.ownBlock ≠ some g') :
    Calls Try.prog 47 #[.pointer (some ⟨B, 0, none⟩), v] w fun e w' => e = .returned (.tuple #[]) ∧ ∃ iv' es', es'.length = 4 ∧ VkInv w' base B iv' (es ++ es') ∧ (∀ e ∈ es', e.2 = (es.length : Int)) ∧
      (∀ e ∈ es', ∀ g, e.1.ownBlock = some g → v.ownBlock = some g ∨ w.heap.size ≤ g) ∧ KeepVals v w w' ∧ Below base w w' := by
  obtain ⟨j0, hj, hy0, hy1, hy2⟩ := info_parts Try.info39
  obtain ⟨i1, hi, hz0, hz1, hz2⟩ := info_parts Try.infoVOut
  have hbs : base ≤ w.heap.size := by have := lt_of_block h.blk; omega
  obtain ⟨ao, cap, rfl⟩ := owns_slice hown
  obtain ⟨io, icap, rfl⟩ := owns_slice h.own
  obtain ⟨cB, fB⟩ := h.cells
  have HI : Hid (VkInv w base B (.slice io es.length icap) es) := h
  have HSH : Hid _ := hsh
  clear h hsh
  obtain ⟨mk, hmk⟩ : ∃ mk, mk = mkV (es.length : Int) := ⟨_, rfl⟩
  have hm0 : mk.null = false := by rw [hmk]; rfl
  have hm1 : mk.n = -1 - (es.length : Int) := by rw [hmk]; rfl
  have hm2 : mk.s = ⟨#[109, 97, 114, 107]⟩ := by rw [hmk]; rfl
  have HMKE : Hid (mk = mkV (es.length : Int)) := hmk
  have hIA := HI.out.other (World.grownBy_alloc w (.cells #[.bool mk.null, .int .i64 mk.n, .string mk.s] 39) none) (fun g hg => by cases hg)
  have hOA := hown.alloc (.cells #[.bool mk.null, .int .i64 mk.n, .string mk.s] 39)
  have hKA : KeepVals (.slice ao l.length cap) w (w.alloc (.cells #[.bool mk.null, .int .i64 mk.n, .string mk.s] 39)) := by
    intro g cur hg _
    rw [Below.heap_alloc _ _ g (lt_of_block hg)]; exact hg
  have hBA : Below base w (w.alloc (.cells #[.bool mk.null, .int .i64 mk.n, .string mk.s] 39)) := (Below.refl _ _).alloc hbs _
  have hXA : (w.alloc (.cells #[.bool mk.null, .int .i64 mk.n, .string mk.s] 39)).heap[w.heap.size]? = some (.cells #[.bool mk.null, .int .i64 mk.n, .string mk.s] 39 (0, 0)) := heap_alloc_new w _
  have hSA : w.heap.size + 1 ≤ (w.alloc (.cells #[.bool mk.null, .int .i64 mk.n, .string mk.s] 39)).heap.size := by simp
  rw [hm0, hm1, hm2] at hIA hOA hKA hBA hXA hSA
  have HIA : Hid _ := hIA
  have HOA : Hid _ := hOA
  have HKA : Hid _ := hKA
  have HBA : Hid _ := hBA
  have HXA : Hid _ := hXA
  have hgnb : ∀ g, (Value.slice ao l.length cap).ownBlock = some g → g ≠ w.heap.size := fun g hg => by have := (hown.lt g hg).2; omega
  have HGNB : Hid (∀ g, (Value.slice ao l.length cap).ownBlock = some g → g ≠ w.heap.size) := hgnb
  clear hIA hOA hKA hBA hXA hmk hgnb
  go_enter Try.func47, Try.ntmps47
  go_wp2_with fail
  clear cB fB
  have hSAA : Hid (w.heap.size + 1 ≤ (w.alloc (.cells #[.bool false, .int .i64 (-1 - (es.length : Int)), .string ⟨#[109, 97, 114, 107]⟩] 39)).heap.size) := hSA
  clear hSA
  generalize w.alloc (.cells #[.bool false, .int .i64 (-1 - (es.length : Int)), .string ⟨#[109, 97, 114, 107]⟩] 39) = WA at *
  go_loopw [6] (fun i wr => ∃ t : Nat, t ≤ l.length ∧ i = .int .i64 t ∧ wr.ownsRow base 39 3 (.slice ao l.length cap) l.length (vcells (List.replicate t mk ++ l.drop t)) ∧ VkInv wr base B (.slice io es.length icap) es ∧ KeepVals (.slice ao l.length cap) w wr ∧ Below base w wr ∧ wr.heap[w.heap.size]? = some (.cells #[.bool false, .int .i64 (-1 - (es.length : Int)), .string ⟨#[109, 97, 114, 107]⟩] 39 (0, 0)) ∧ w.heap.size + 1 ≤ wr.heap.size) (fun i _ => l.length - (intOf i).toNat)
  case atStart => exact ⟨0, Nat.zero_le _, rfl, by simp only [List.replicate_zero, List.nil_append, List.drop_zero]; exact HOA.out, HIA.out, HKA.out, HBA.out, HXA.out, hSAA.out⟩
  case round =>
    clear HI hown HOA HIA HKA HBA HXA hSAA
    obtain ⟨t, ht, rfl, hown, hI, hkp, hbel, hbx, hsz⟩ := hrel
    have HK : Hid (KeepVals (.slice ao l.length cap) w wr) := hkp
    have HI : Hid (VkInv wr base B (.slice io es.length icap) es) := hI
    have HBX : Hid (wr.heap[w.heap.size]? = some (.cells #[.bool false, .int .i64 (-1 - (es.length : Int)), .string ⟨#[109, 97, 114, 107]⟩] 39 (0, 0))) := hbx
    obtain ⟨x0, x1, x2, _⟩ := box_cells hbx
    clear hkp hI hbx
    by_cases hlt : t < l.length
    · obtain ⟨g, hge⟩ := owns_addr hown (by omega)
      subst hge
      have hLl : (List.replicate t mk ++ l.drop t).length = l.length := by simp; omega
      obtain ⟨v0, v1, v2⟩ := vcells_at (List.replicate t mk ++ l.drop t) t (by rw [hLl]; exact hlt)
      have hc0 := hown.cellAt (t * 3) (by omega)
      have hc1 := hown.cellAt (t * 3 + 1) (by omega)
      have hc2 := hown.cellAt (t * 3 + 2) (by omega)
      rw [v0] at hc0
      rw [v1] at hc1
      rw [v2] at hc2
      obtain ⟨u0, hd0⟩ : ∃ u, wr.cell? ⟨g, t * 3, none⟩ = some u := ⟨_, hc0⟩
      obtain ⟨u1, hd1⟩ : ∃ u, wr.cell? ⟨g, t * 3 + 1, none⟩ = some u := ⟨_, hc1⟩
      obtain ⟨u2, hd2⟩ : ∃ u, wr.cell? ⟨g, t * 3 + 2, none⟩ = some u := ⟨_, hc2⟩
      clear hc0 hc1 hc2
      have hf0 := hown.frozenAt (t * 3)
      have hf1 := hown.frozenAt (t * 3 + 1)
      have hf2 := hown.frozenAt (t * 3 + 2)
      obtain ⟨s1, s2⟩ := HI.out.store hown (fun e he g' n' cap' h1 h0 hg => HSH.out e he g' n' cap' h1 h0 (by rw [← hg]; rfl)) t mk (by rw [hLl]; exact hlt)
      rw [vfill_step l _ t hlt] at s2
      have hk1 := HK.out.step (set3_grown wr g t (.bool mk.null) (.int .i64 mk.n) (.string mk.s)) (fun g' _ hg' _ => .inl (by simp at hg'; subst hg'; rfl))
      have hgb : g ≠ w.heap.size := HGNB.out g rfl
      have hbx1 : (((wr.setCell ⟨g, t * 3, none⟩ (.bool mk.null)).setCell ⟨g, t * 3 + 1, none⟩ (.int .i64 mk.n)).setCell ⟨g, t * 3 + 2, none⟩ (.string mk.s)).heap[w.heap.size]? = some (.cells #[.bool false, .int .i64 (-1 - (es.length : Int)), .string ⟨#[109, 97, 114, 107]⟩] 39 (0, 0)) := by
        rw [(set3_grown wr g t (.bool mk.null) (.int .i64 mk.n) (.string mk.s)).block w.heap.size (by omega) (fun e => hgb (by cases e; rfl))]
        exact HBX.out
      have hbg : base ≤ g := (hown.lt g rfl).1
      have hbl1 : Below base w (((wr.setCell ⟨g, t * 3, none⟩ (.bool mk.null)).setCell ⟨g, t * 3 + 1, none⟩ (.int .i64 mk.n)).setCell ⟨g, t * 3 + 2, none⟩ (.string mk.s)) := ((hbel.setCell hbg _).setCell hbg _).setCell hbg _
      rw [hm0, hm1, hm2] at s1 s2 hk1 hbx1 hbl1
      have HS1 : Hid _ := s1
      have HS2 : Hid _ := s2
      have HK1 : Hid _ := hk1
      have HBX1 : Hid _ := hbx1
      have HBL1 : Hid _ := hbl1
      clear s1 s2 hown hk1 hbx1 hbl1 v0 v1 v2 hLl
      go_wp2
      go_roundw
      case rel => exact ⟨t + 1, by omega, by go_num, HS2.out, HS1.out, HK1.out, HBL1.out, HBX1.out, by simpa using hsz⟩
      case measure => simp [intOf]; omega
    · have htl : t = l.length := by omega
      subst htl
      rw [List.drop_of_length_le (Nat.le_refl _), List.append_nil] at hown
      obtain ⟨cB, fB⟩ := HI.out.cells
      rw [HMKE.out] at hown
      go_wp2_with (at_builtin; refine wpList_append_own _ rfl _ _ 66 rfl base 123 i1 (.agg #[.slice none 0 0, .int .i64 0]) 2 32 Try.underlying66 hi hz0 hz1 hz2 rfl (by decide) _ _ _ rfl (HI.out.own.alloc _) ⟨wr.heap.size, 0, none⟩ 1 1 [.slice ao l.length cap, .int .i64 (es.length : Int)] rfl rfl (pair_at _ _ _ _) (pair_one _ _ _ _) (by unfold maxLen; omega) (by omega) (by simp; omega) ?_; intro iv1 w1 hown1 hgrow1 _; obtain ⟨cB1, fB1⟩ := HI.out.cells1 _ hgrow1; obtain ⟨io1, icap1, rfl⟩ := owns_slice hown1)
      obtain ⟨p1, p2⟩ := HI.out.push _ (VFull.mk hown (by omega)) hown hB hown1 hgrow1
      have hbel1 : Below base w (w1.setCell ⟨B, 1, none⟩ (.slice io1 (es.length + 1) icap1)) := ((hbel.alloc (by omega) _).grown hgrow1 (by simp; omega) (fun j hj => (HI.out.own.lt j hj).1)).setCell hB _
      have hsz1 : w.heap.size + 1 ≤ (w1.setCell ⟨B, 1, none⟩ (.slice io1 (es.length + 1) icap1)).heap.size := by have := hgrow1.size; simp at this ⊢; omega
      have HK1 : Hid _ := HK.out.push (o := .cells #[.slice ao l.length cap, .int .i64 (es.length : Int)] 123) HI.out hgrow1 (.slice io1 (es.length + 1) icap1)
      have HX1 : Hid ((w1.setCell ⟨B, 1, none⟩ (.slice io1 (es.length + 1) icap1)).heap[w.heap.size]? = some (.cells #[.bool false, .int .i64 (-1 - (es.length : Int)), .string ⟨#[109, 97, 114, 107]⟩] 39 (0, 0))) := by
        show _ = _
        have hbo := HI.out.blk
        rw [heap_setCell_other w1 ⟨B, 1, none⟩ w.heap.size _ (fun e => blk_ne HBX.out hbo (by decide) e), hgrow1.block w.heap.size (by simp; omega) (fun e => by
          obtain ⟨cur, hc⟩ := owns_blk HI.out.own e.symm
          exact blk_ne HBX.out hc (by decide) rfl), Below.heap_alloc wr _ w.heap.size (by omega)]
        exact HBX.out
      have HP1 : Hid _ := p1
      have HP2 : Hid _ := p2
      clear p1 p2 hown1 hgrow1 hown HI HK hbel cB fB cB1 fB1 hsz HBX x0 x1 x2
      go_loopw [1, 7] (fun lv i wr => ∃ (t n : Nat) (iv : Value) (es' : List (Value × Int)), t ≤ 3 ∧ i = .int .i64 t ∧ n ≤ 100 + t ∧ es'.length = t + 1 ∧ (∀ e ∈ es', e.2 = (es.length : Int)) ∧ VkInv wr base B iv (es ++ es') ∧ wr.ownsRow base 39 3 lv n (vcells (List.replicate n (mkV (es.length : Int)))) ∧
          VShares lv n (es.length : Int) (es ++ es') ∧ (∀ e ∈ es', ∀ g, e.1.ownBlock = some g → (Value.slice ao l.length cap).ownBlock = some g ∨ w.heap.size ≤ g) ∧ (∀ g, lv.ownBlock = some g → ((Value.slice ao l.length cap).ownBlock = some g ∨ w.heap.size ≤ g) ∧ g ≠ w.heap.size) ∧ KeepVals (.slice ao l.length cap) w wr ∧ Below base w wr ∧ wr.heap[w.heap.size]? = some (.cells #[.bool false, .int .i64 (-1 - (es.length : Int)), .string ⟨#[109, 97, 114, 107]⟩] 39 (0, 0)) ∧ w.heap.size + 1 ≤ wr.heap.size) (fun _ i _ => 3 - (intOf i).toNat)
      case atStart =>
        refine ⟨0, l.length, _, [(.slice ao l.length cap, (es.length : Int))], by omega, rfl, by omega, rfl, by simp, HP1.out, HP2.out, ?_, ?_, fun g hg => ⟨.inl hg, HGNB.out g hg⟩, HK1.out, hbel1, HX1.out, hsz1⟩
        · intro e he g n' cap' h1 h0 hvg
          rcases List.mem_append.1 he with h2 | h2
          · exact absurd hvg (HSH.out e h2 g n' cap' h1 h0)
          · simp at h2
            subst h2
            simp only [Value.slice.injEq] at h1
            exact ⟨rfl, by omega⟩
        · intro e he g hg
          simp at he
          subst he
          exact .inl hg
      case round =>
        clear HP1 HP2 hbel1 hsz1 HK1 HX1
        clear w1
        obtain ⟨t, n, iv, es', ht, rfl, hn, hel, hmk, hI, hown, hshr, hblk, hlvb, hkp, hbel, hbx, hsz⟩ := hrel
        have HK : Hid (KeepVals (.slice ao l.length cap) w wr) := hkp
        have HBX : Hid (wr.heap[w.heap.size]? = some (.cells #[.bool false, .int .i64 (-1 - (es.length : Int)), .string ⟨#[109, 97, 114, 107]⟩] 39 (0, 0))) := hbx
        obtain ⟨x0, x1, x2, _⟩ := box_cells hbx
        clear hkp hbx
        have HI : Hid (VkInv wr base B iv (es ++ es')) := hI
        have HEL : Hid (es'.length = t + 1) := hel
        have HMK : Hid (∀ e ∈ es', e.2 = (es.length : Int)) := hmk
        clear hI hel hmk
        have hne : (es ++ es').length ≤ 14 := by rw [List.length_append, HEL.out]; omega
        generalize hfs : es ++ es' = fs at *
        have HFS : Hid (es ++ es' = fs) := hfs
        clear hfs
        obtain ⟨io, icap, rfl⟩ := owns_slice HI.out.own
        by_cases h3 : t < 3
        · obtain ⟨lo, lcap, rfl⟩ := owns_slice hown
          go_wp2_with (first
            | (at_builtin; refine wpList_append_keep _ rfl (.tmp 42) (.tmp 44) 30 rfl base 39 j0 _ 3 32 Try.underlying30 hj hy0 hy1 hy2 rfl (by decide) _ n _ rfl (hown.alloc _) ⟨wr.heap.size, 0, none⟩ 1 1 [.bool false, .int .i64 (-1 - (es.length : Int)), .string ⟨#[109, 97, 114, 107]⟩] rfl (by decide) rfl (three_at _ _ _ _ _) (three_one (mkV (es.length : Int))) (by unfold maxLen; omega) (by omega) (by simp; omega) ?_; intro lv1 w1 hown1 hgr1; rw [show [Value.bool false, .int .i64 (-1 - (es.length : Int)), .string ⟨#[109, 97, 114, 107]⟩] = [.bool (mkV (es.length : Int)).null, .int .i64 (mkV (es.length : Int)).n, .string (mkV (es.length : Int)).s] from rfl, vfill_snoc] at hown1 hgr1; obtain ⟨hI1, hshr1⟩ := HI.out.grow _ hshr hown hown1 hgr1; have HI1 : Hid _ := hI1; obtain ⟨cB, fB⟩ := hI1.cells; obtain ⟨lo1, lcap1, rfl⟩ := owns_slice hown1; clear hI1)
            | (at_builtin; refine wpList_append_own _ rfl (.tmp 50) (.tmp 54) 66 rfl base 123 i1 (.agg #[.slice none 0 0, .int .i64 0]) 2 32 Try.underlying66 hi hz0 hz1 hz2 rfl (by decide) _ _ _ rfl (HI1.out.own.alloc _) ⟨w1.heap.size, 0, none⟩ 1 1 [.slice lo1 (n + 1) lcap1, .int .i64 (es.length : Int)] rfl rfl (pair_at _ _ _ _) (pair_one _ _ _ _) (by unfold maxLen; omega) (by omega) (by have := lt_of_block HI1.out.blk; simp; omega) ?_; intro iv2 w2 hown2 hgrow2 _; obtain ⟨cB2, fB2⟩ := HI1.out.cells1 _ hgrow2; obtain ⟨io2, icap2, rfl⟩ := owns_slice hown2))
          obtain ⟨q1, q2⟩ := HI1.out.push _ (VFull.mk hown1 (by omega)) hown1 hB hown2 hgrow2
          have hw1 : Below base w w1 ∧ wr.heap.size ≤ w1.heap.size := by
            rcases hgr1 with ⟨g1, _⟩ | ⟨_, g1⟩
            · exact ⟨(hbel.alloc (by omega) _).grown g1 (by simp; omega) (by simp), by have := g1.size; simp at this; omega⟩
            · exact ⟨(hbel.alloc (by omega) _).grown g1 (by simp; omega) (fun j hj => (hown.lt j hj).1), by have := g1.size; simp at this; omega⟩
          have hw2 : Below base w w2 := (hw1.1.alloc (by omega) _).grown hgrow2 (by simp; omega) (fun j hj => (HI1.out.own.lt j hj).1)
          have hs2 : w1.heap.size ≤ w2.heap.size := by have := hgrow2.size; simp at this; omega
          have hlv1 : ∀ g, (Value.slice lo1 (n + 1) lcap1).ownBlock = some g → ((Value.slice ao l.length cap).ownBlock = some g ∨ w.heap.size ≤ g) ∧ g ≠ w.heap.size := by
            intro g hg
            rcases hgr1 with ⟨_, g2⟩ | ⟨g1, _⟩
            · have := (g2.lt g hg).1
              simp at this
              exact ⟨.inr (by omega), by omega⟩
            · exact hlvb g (Eq.trans (Eq.symm g1) hg)
          have hx1 : w1.heap[w.heap.size]? = some (.cells #[.bool false, .int .i64 (-1 - (es.length : Int)), .string ⟨#[109, 97, 114, 107]⟩] 39 (0, 0)) := by
            rcases hgr1 with ⟨g1, _⟩ | ⟨_, g1⟩
            · rw [g1.block w.heap.size (by simp; omega) (by simp), Below.heap_alloc wr _ w.heap.size (by omega)]; exact HBX.out
            · rw [g1.block w.heap.size (by simp; omega) (fun e => (hlvb _ e.symm).2 rfl), Below.heap_alloc wr _ w.heap.size (by omega)]; exact HBX.out
          have hx2 : (w2.setCell ⟨B, 1, none⟩ (.slice io2 (fs.length + 1) icap2)).heap[w.heap.size]? = some (.cells #[.bool false, .int .i64 (-1 - (es.length : Int)), .string ⟨#[109, 97, 114, 107]⟩] 39 (0, 0)) := by
            have hbo := HI1.out.blk
            rw [heap_setCell_other w2 ⟨B, 1, none⟩ w.heap.size _ (fun e => blk_ne hx1 hbo (by decide) e), hgrow2.block w.heap.size (by simp; omega) (fun e => by
              obtain ⟨cur, hc⟩ := owns_blk HI1.out.own e.symm
              exact blk_ne hx1 hc (by decide) rfl), Below.heap_alloc w1 _ w.heap.size (by omega)]
            exact hx1
          have hk1 : KeepVals (.slice ao l.length cap) w w1 := by
            have hka := HK.out.step (World.grownBy_alloc wr (.cells #[.bool false, .int .i64 (-1 - (es.length : Int)), .string ⟨#[109, 97, 114, 107]⟩] 39) none) (fun g _ hg _ => by cases hg)
            rcases hgr1 with ⟨g1, _⟩ | ⟨_, g1⟩
            · exact hka.step g1 (fun g _ hg _ => by cases hg)
            · exact hka.step g1 (fun g _ hg _ => (hlvb g hg).1)
          have hk2 := hk1.push (o := .cells #[.slice lo1 (n + 1) lcap1, .int .i64 (es.length : Int)] 123) HI1.out hgrow2 (.slice io2 (fs.length + 1) icap2)
          refine ⟨⟨t + 1, n + 1, _, es' ++ [(.slice lo1 (n + 1) lcap1, (es.length : Int))], by omega, by go_num, by omega, by rw [List.length_append, HEL.out]; rfl, marks_snoc HMK.out, by rw [← List.append_assoc, HFS.out]; exact q1, q2, ?_, ?_, hlv1, hk2, hw2.setCell hB _, hx2, by simp; omega⟩, by simp [intOf]; omega⟩
          · rw [← List.append_assoc, HFS.out]
            intro e he g n' cap' h1 h0 hvg
            rcases List.mem_append.1 he with h2 | h2
            · exact hshr1 e h2 g n' cap' h1 h0 hvg
            · simp at h2
              subst h2
              simp only [Value.slice.injEq] at h1
              exact ⟨rfl, by omega⟩
          · intro e he g hg
            rcases List.mem_append.1 he with h2 | h2
            · exact hblk e h2 g hg
            · simp at h2
              subst h2
              exact (hlv1 g hg).1
        · go_wp2
          go_end0
          exact ⟨rfl, _, es', by rw [HEL.out]; omega, by rw [HFS.out]; exact HI.out, HMK.out, hblk, HK.out, hbel⟩
end Go.Proofs.Ytjidbonhhpkljaa.Ec

/- The contract of the book's looks: where only lists of values stand in it, and each reads as its mark says, it answers true. -/
set_option linter.unusedVariables false
namespace Go.Proofs.Ytjidbonhhpkljaa.Ec
open Go.RowKit Go.Proofs.Ytjidbonhhpkljaa.Pk Go.Proofs.Ytjidbonhhpkljaa.Pm

theorem vbook_cells {w : World} {base B : Nat} {iv : Value} {es : List (Value × Int)} (h : VkInv w base B iv es) :
    w.cell? ⟨B, 0, none⟩ = some (.slice none 0 0) ∧ w.cell? ⟨B, 1, none⟩ = some iv ∧ w.cell? ⟨B, 2, none⟩ = some (.slice none 0 0) ∧ w.cell? ⟨B, 3, none⟩ = some (.slice none 0 0) := by
  have := h.blk
  exact ⟨by simp [World.cell?, this], by simp [World.cell?, this], by simp [World.cell?, this], by simp [World.cell?, this]⟩

theorem neq_mark (w : World) (m : Int) : (binOp .neq 39 (.agg #[.bool false, .int .i64 (-1 - m), .string ⟨#[109, 97, 114, 107]⟩]) (.agg #[.bool false, .int .i64 (-1 - m), .string ⟨#[109, 97, 114, 107]⟩])).run Try.prog w = .ok (.bool false) w := by
  have := run_neq_val w (mkV m) (mkV m)
  rw [veq_iff.2 rfl] at this
  exact this

set_option maxRecDepth 100000 in
set_option maxHeartbeats 4000000 in
theorem vlooks_any (B base : Nat) (iv : Value) (es : List (Value × Int)) (w : World) (hk : es.length ≤ 100) (h : VkInv w base B iv es) (hmk : ∀ e ∈ es, 0 ≤ e.2 ∧ e.2 ≤ 100) :
    Calls Try.prog 33 #[.pointer (some ⟨B, 0, none⟩)] w fun e w' => e = .returned (.bool true) ∧ Below w.heap.size w w' := by
  obtain ⟨io, icap, rfl⟩ := owns_slice h.own
  obtain ⟨c0, c1, c2, c3⟩ := vbook_cells h
  have HBL : Hid (B < w.heap.size) := lt_of_block h.blk
  have HI : Hid (VkInv w base B (.slice io es.length icap) es) := h
  have HMK : Hid (∀ e ∈ es, 0 ≤ e.2 ∧ e.2 ≤ 100) := hmk
  clear h hmk
  go_enter Try.func33, Try.ntmps33
  go_wp2_with fail
  refine wp_loop_rounds 1 ?_
  rw [rounds_succ]
  go_wp2_with fail
  have C0 : Hid _ := c0
  have C1 : Hid _ := c1
  have C2 : Hid _ := c2
  have C3 : Hid _ := c3
  clear c0 c1 c2 c3
  go_loopw [5] (fun i wr => ∃ t : Nat, t ≤ es.length ∧ i = .int .i64 t ∧ Below w.heap.size w wr) (fun i _ => es.length - (intOf i).toNat)
  case atStart => exact ⟨0, Nat.zero_le _, rfl, Below.refl _ _⟩
  case round =>
    obtain ⟨t, ht, rfl, hb⟩ := hrel
    have hbl := HBL.out
    have d1 : wr.cell? ⟨B, 1, none⟩ = some (.slice io es.length icap) := (hb.cell (p := ⟨B, 1, none⟩) hbl).trans C1.out
    have d2 : wr.cell? ⟨B, 2, none⟩ = some (.slice none 0 0) := (hb.cell (p := ⟨B, 2, none⟩) hbl).trans C2.out
    have d3 : wr.cell? ⟨B, 3, none⟩ = some (.slice none 0 0) := (hb.cell (p := ⟨B, 3, none⟩) hbl).trans C3.out
    have HB : Hid (Below w.heap.size w wr) := hb
    have hsz := hb.size
    clear hb
    by_cases hlt : t < es.length
    · obtain ⟨gi, hgi⟩ := owns_addr HI.out.own (by omega)
      subst hgi
      have hgl : gi < w.heap.size := (HI.out.own.lt gi rfl).2
      have hx := ecells_get es t hlt
      have e0 := HI.out.own.cellAt (t * 2) (by omega)
      rw [show t * 2 = 2 * t by omega, hx.1] at e0
      have e1 := HI.out.own.cellAt (t * 2 + 1) (by omega)
      rw [show t * 2 + 1 = 2 * t + 1 by omega, hx.2] at e1
      obtain ⟨ao, n', cap', hv, hn', hf⟩ := HI.out.full es[t] (List.getElem_mem hlt)
      obtain ⟨m0, m1⟩ := HMK.out es[t] (List.getElem_mem hlt)
      rw [hv] at e0
      have HF : Hid (0 < n' → ∃ g cur, ao = some ⟨g, 0, none⟩ ∧ w.heap[g]? = some (.cells cur 39 (0, 0)) ∧ ∀ j, j < n' → cur[j * 3]? = some (.bool false) ∧ cur[j * 3 + 1]? = some (.int .i64 (-1 - es[t].2)) ∧ cur[j * 3 + 2]? = some (.string mk4)) := hf
      clear hf hv hx
      generalize es[t].2 = m at *
      have E0 : wr.cell? ⟨gi, t * 2, none⟩ = some (.slice ao n' cap') := (HB.out.cell (p := ⟨gi, t * 2, none⟩) hgl).trans (by rw [show t * 2 = 2 * t by omega]; exact e0)
      have E1 : wr.cell? ⟨gi, t * 2 + 1, none⟩ = some (.int .i64 m) := (HB.out.cell (p := ⟨gi, t * 2 + 1, none⟩) hgl).trans (by rw [show t * 2 + 1 = 2 * t + 1 by omega]; exact e1)
      have HE0 : Hid (w.cell? ⟨gi, t * 2, none⟩ = some (.slice ao n' cap')) := by show _ = _; rw [show t * 2 = 2 * t by omega]; exact e0
      have hqn := fun w => neq_mark w m
      clear e0 e1
      go_wp2_with fail
      clear E0 E1 d1 d2 d3
      have hbx := heap_alloc_new wr (.cells #[.bool false, .int .i64 (-1 - m), .string ⟨#[109, 97, 114, 107]⟩] 39 (0, 0))
      have HB1 : Hid (Below w.heap.size w (wr.alloc (.cells #[.bool false, .int .i64 (-1 - m), .string ⟨#[109, 97, 114, 107]⟩] 39))) := HB.out.alloc hsz _
      have HBX : Hid _ := hbx
      clear hbx
      generalize hgW : wr.heap.size = gW at *
      generalize wr.alloc (.cells #[.bool false, .int .i64 (-1 - m), .string ⟨#[109, 97, 114, 107]⟩] 39) = w1 at *
      go_loopw [7] (fun i wq => ∃ u : Nat, u ≤ n' ∧ i = .int .i64 u ∧ ∃ n, wq = w1.drewN n) (fun i _ => n' - (intOf i).toNat)
      case atStart => exact ⟨0, Nat.zero_le _, rfl, 0, rfl⟩
      case round =>
        obtain ⟨u, hu, rfl, n, hwr⟩ := hrel
        rename World => wq
        have d1 : wq.cell? ⟨B, 1, none⟩ = some (.slice (some ⟨gi, 0, none⟩) es.length icap) := by rw [hwr]; exact (HB1.out.cell (p := ⟨B, 1, none⟩) hbl).trans C1.out
        have E0 : wq.cell? ⟨gi, t * 2, none⟩ = some (.slice ao n' cap') := by rw [hwr]; exact (HB1.out.cell (p := ⟨gi, t * 2, none⟩) hgl).trans HE0.out
        have hbq : wq.heap[gW]? = some (.cells #[.bool false, .int .i64 (-1 - m), .string ⟨#[109, 97, 114, 107]⟩] 39 (0, 0)) := by rw [hwr]; exact HBX.out
        obtain ⟨x0, x1, x2, _⟩ := box_cells hbq
        have HW : Hid (wq = w1.drewN n) := hwr
        clear hbq
        by_cases hul : u < n'
        · obtain ⟨g, cur, hgo, hb, hc⟩ := HF.out (by omega)
          subst hgo
          obtain ⟨v0, v1, v2⟩ := hc u hul
          have hb1 : w1.heap[g]? = some (.cells cur 39 (0, 0)) := by rw [HB1.out.block g (lt_of_block hb)]; exact hb
          have E2 : wq.cell? ⟨g, u * 3, none⟩ = some (.bool false) := by
            rw [hwr, show (w1.drewN n).cell? ⟨g, u * 3, none⟩ = w1.cell? ⟨g, u * 3, none⟩ from rfl, cell_of_row w1 g (u * 3) cur 39 (0, 0) hb1]
            exact v0
          have E3 : wq.cell? ⟨g, u * 3 + 1, none⟩ = some (.int .i64 (-1 - m)) := by
            rw [hwr, show (w1.drewN n).cell? ⟨g, u * 3 + 1, none⟩ = w1.cell? ⟨g, u * 3 + 1, none⟩ from rfl, cell_of_row w1 g (u * 3 + 1) cur 39 (0, 0) hb1]
            exact v1
          have E4 : wq.cell? ⟨g, u * 3 + 2, none⟩ = some (.string ⟨#[109, 97, 114, 107]⟩) := by
            rw [hwr, show (w1.drewN n).cell? ⟨g, u * 3 + 2, none⟩ = w1.cell? ⟨g, u * 3 + 2, none⟩ from rfl, cell_of_row w1 g (u * 3 + 2) cur 39 (0, 0) hb1]
            exact v2
          clear hwr hb hc hb1 v0 v1 v2
          go_wp2_with fail
          go_quiet (fail)
          go_wp2
          go_roundw
          case rel => exact ⟨u + 1, by omega, by go_num, n + nq, by rw [HW.out]; exact World.drewN_drewN _ _ _⟩
          case measure => simp [intOf]; omega
        · have HBQ : Hid (Below w.heap.size w wq) := by rw [hwr]; exact below_drewN HB1.out n
          clear hwr
          go_wp2
          go_roundw
          case rel => exact ⟨t + 1, by omega, by go_num, HBQ.out⟩
          case measure => simp [intOf]; omega
    · go_wp2_with fail
      refine wp_loop_rounds 1 ?_
      rw [rounds_succ]
      go_wp2_with fail
      refine wp_loop_rounds 1 ?_
      rw [rounds_succ]
      go_wp2
      go_ret
      exact ⟨rfl, HB.out⟩
end Go.Proofs.Ytjidbonhhpkljaa.Ec

/- The contract of the statement's own decodes: Decode on both sides, and what came out is the caller's: true. -/
set_option linter.unusedVariables false
namespace Go.Proofs.Ytjidbonhhpkljaa.Ec
open Go.RowKit Go.Proofs.Ytjidbonhhpkljaa.Pk Go.Proofs.Ytjidbonhhpkljaa.Pm

theorem vowns_keep {v u : Value} {w w' : World} {base n : Nat} {xs : List Value} (h : w.ownsRow base 39 3 u n xs) (hk : KeepVals v w w') (hne : ∀ g, u.ownBlock = some g → v.ownBlock ≠ some g) : w'.ownsRow base 39 3 u n xs := by
  refine ⟨h.1, ?_⟩
  rcases h.2 with h1 | ⟨g, cap, cur, h1, h2, h3, h4⟩
  · exact .inl h1
  · exact .inr ⟨g, cap, cur, h1, h2, hk g cur h3 (hne g (by rw [h1]; rfl)), h4⟩

/-- Both sides answer alike. -/
theorem dec_both (s : ByteArray) (k e cn : Int) (w0 : World) (hm : s.size ≤ maxLen) : ∃ (f : Int) (l : List Val), l.length ≤ 100 ∧
    (∀ w, Calls Try.prog 46 #[.string s, .int .i64 k, .int .i64 e, .int .i64 cn] w fun x w' => ∃ v, x = .returned (.tuple #[v, .int .i64 f]) ∧ w'.ownsRow w.heap.size 39 3 v l.length (vcells l) ∧ Below w.heap.size w w') ∧
    (∀ w, Calls Try.prog 23 #[.string s, .int .i64 k, .int .i64 e, .int .i64 cn] w fun x w' => ∃ v, x = .returned (.tuple #[v, .int .i64 f]) ∧ w'.ownsRow w.heap.size 39 3 v l.length (vcells l) ∧ (f ≠ 0 → v = .slice none 0 0) ∧ Below w.heap.size w w') := by
  obtain ⟨x0, w0', fr, ⟨_, hpost⟩, _⟩ := cDecode_any s k e cn w0 hm []
  rcases hpost with ⟨hne, _⟩ | ⟨c, rfl, hc, h0, he, ⟨v, l, _, _, hd⟩ | ⟨_, hno⟩⟩
  · refine ⟨colE cn k e, [], by simp, fun w => (rDecode_any s k e cn w hm).mono ?_, fun w => (cDecode_any s k e cn w hm).mono ?_⟩
    · rintro x w' ⟨hb, ⟨_, rfl⟩ | ⟨c, _, _, h0, _⟩⟩
      · exact ⟨_, rfl, World.ownsRow_nil _ _ _ _, hb⟩
      · exact absurd h0 hne
    · rintro x w' ⟨hb, ⟨_, rfl⟩ | ⟨c, _, _, h0, _⟩⟩
      · exact ⟨_, rfl, World.ownsRow_nil _ _ _ _, fun _ => rfl, hb⟩
      · exact absurd h0 hne
  · refine ⟨0, l, by rw [hd.len]; exact hc, fun w => (rDecode_any s k e c w hm).mono ?_, fun w => (cDecode_any s k e c w hm).mono ?_⟩
    · rintro x w' ⟨hb, ⟨hne, _⟩ | ⟨c', hcc, _, _, _, ⟨v', l', rfl, hown, hl', hok', hcol'⟩ | ⟨_, hno⟩⟩⟩
      · exact absurd h0 hne
      · have hce : c' = c := by omega
        subst hce
        have := hd.uni l' hl' hok' (starts_of_eq hcol')
        subst this
        exact ⟨v', rfl, hown, hb⟩
      · have hce : c' = c := by omega
        subst hce
        exact absurd hd.eq (hno l hd.len hd.ok)
    · rintro x w' ⟨hb, ⟨hne, _⟩ | ⟨c', hcc, _, _, _, ⟨v', l', rfl, hown, hd'⟩ | ⟨_, hno⟩⟩⟩
      · exact absurd h0 hne
      · have hce : c' = c := by omega
        subst hce
        have := hd.uni l' hd'.len hd'.ok (starts_of_eq hd'.eq)
        subst this
        exact ⟨v', rfl, hown, fun h => absurd rfl h, hb⟩
      · have hce : c' = c := by omega
        subst hce
        exact absurd hd.eq (hno l hd.len hd.ok)
  · refine ⟨3, [], by simp, fun w => (rDecode_any s k e c w hm).mono ?_, fun w => (cDecode_any s k e c w hm).mono ?_⟩
    · rintro x w' ⟨hb, ⟨hne, _⟩ | ⟨c', hcc, _, _, _, ⟨v', l', rfl, hown, hl', hok', hcol'⟩ | ⟨rfl, _⟩⟩⟩
      · exact absurd h0 hne
      · have hce : c' = c := by omega
        subst hce
        exact absurd hcol' (hno l' hl' hok')
      · exact ⟨_, rfl, World.ownsRow_nil _ _ _ _, hb⟩
    · rintro x w' ⟨hb, ⟨hne, _⟩ | ⟨c', hcc, _, _, _, ⟨v', l', rfl, hown, hd'⟩ | ⟨rfl, _⟩⟩⟩
      · exact absurd h0 hne
      · have hce : c' = c := by omega
        subst hce
        exact absurd hd'.eq (hno l' hd'.len hd'.ok)
      · exact ⟨_, rfl, World.ownsRow_nil _ _ _ _, fun _ => rfl, hb⟩

set_option maxRecDepth 100000 in
set_option maxHeartbeats 4000000 in
theorem decodes_any (s : ByteArray) (k e cn : Int) (w : World) (hm : s.size ≤ maxLen) :
    Calls Try.prog 19 #[.string s, .int .i64 k, .int .i64 e, .int .i64 cn] w fun e w' => e = .returned (.bool true) ∧ Below w.heap.size w w' := by
  obtain ⟨f, l, hlen, H1, H2⟩ := dec_both s k e cn w hm
  have HH1 : Hid (∀ w, Calls Try.prog 46 #[.string s, .int .i64 k, .int .i64 e, .int .i64 cn] w fun x w' => ∃ v, x = .returned (.tuple #[v, .int .i64 f]) ∧ w'.ownsRow w.heap.size 39 3 v l.length (vcells l) ∧ Below w.heap.size w w') := H1
  have HH2 : Hid (∀ w, Calls Try.prog 23 #[.string s, .int .i64 k, .int .i64 e, .int .i64 cn] w fun x w' => ∃ v, x = .returned (.tuple #[v, .int .i64 f]) ∧ w'.ownsRow w.heap.size 39 3 v l.length (vcells l) ∧ (f ≠ 0 → v = .slice none 0 0) ∧ Below w.heap.size w w') := H2
  clear H1 H2
  go_enter Try.func19, Try.ntmps19
  go_wp2_with fail
  refine (HH1.out _).mono ?_
  rintro e w1 ⟨v0, rfl, o0, b1⟩
  go_wp2_with fail
  refine (HH2.out _).mono ?_
  rintro e w2 ⟨v1, rfl, o1, n1, b2⟩
  have N1 : Hid (f ≠ 0 → v1 = .slice none 0 0) := n1
  clear n1
  go_wp2_with fail
  refine (HH2.out _).mono ?_
  rintro e w3 ⟨v2, rfl, o2, n2, b3⟩
  clear n2 HH1 HH2
  have p0 := ownsRow_below (ownsRow_below o0 b2) b3
  have p1 := ownsRow_below o1 b3
  have s1 := b1.size
  have s2 := b2.size
  have s3 := b3.size
  have bb : Below w.heap.size w w3 := (b1.trans (b2.mono s1)).trans (b3.mono (by omega))
  obtain ⟨a0, g0, y0, k0, rfl, hr0⟩ := VSl.of_owns p0
  obtain ⟨a1, g1, y1, k1, rfl, hr1⟩ := VSl.of_owns p1
  obtain ⟨a2, g2, y2, k2, rfl, hr2⟩ := VSl.of_owns o2
  have ml : l.length ≤ maxLen := by unfold maxLen; omega
  have HS1 : Hid (∀ w, (∃ n, w = w3.drewN n) → Calls Try.prog 18 #[.slice a1 l.length k1, .slice a0 l.length k0] w fun e w' => e = .returned (.bool true) ∧ ∃ n, w' = w.drewN n) := by
    rintro w ⟨n, rfl⟩
    refine (sameValues_any l l a1 a0 g1 y1 k1 g0 y0 k0 (w3.drewN n) ml ml (hr1.below (below_drewN (Below.refl _ _) n)) (hr0.below (below_drewN (Below.refl _ _) n))).mono ?_
    rintro e w' ⟨b, rfl, hb, hw⟩
    exact ⟨by rw [hb.2 rfl], hw⟩
  have HS2 : Hid (∀ w, (∃ n, w = w3.drewN n) → Calls Try.prog 18 #[.slice a2 l.length k2, .slice a0 l.length k0] w fun e w' => e = .returned (.bool true) ∧ ∃ n, w' = w.drewN n) := by
    rintro w ⟨n, rfl⟩
    refine (sameValues_any l l a2 a0 g2 y2 k2 g0 y0 k0 (w3.drewN n) ml ml (hr2.below (below_drewN (Below.refl _ _) n)) (hr0.below (below_drewN (Below.refl _ _) n))).mono ?_
    rintro e w' ⟨b, rfl, hb, hw⟩
    exact ⟨by rw [hb.2 rfl], hw⟩
  clear hr0 hr1 hr2 o0
  go_wp2_with fail
  refine (HS1.out _ ⟨0, rfl⟩).mono ?_
  rintro e w4 ⟨rfl, n4, rfl⟩
  go_wp2_with fail
  refine (HS2.out _ ⟨n4, rfl⟩).mono ?_
  rintro e w5 ⟨rfl, n5, rfl⟩
  clear HS1 HS2
  have q1 := ownsRow_drewN (ownsRow_drewN (ownsRow_base (B := w.heap.size) p1 s1) n4) n5
  have q2 := ownsRow_drewN (ownsRow_drewN (ownsRow_base (B := w.heap.size) o2 (by omega)) n4) n5
  have q3 := below_drewN (below_drewN bb n4) n5
  have L1 : Hid (∀ g, (Value.slice a1 l.length k1).ownBlock = some g → g < w2.heap.size) := fun g hg => (o1.lt g hg).2
  have L2 : Hid (∀ g, (Value.slice a2 l.length k2).ownBlock = some g → w2.heap.size ≤ g ∧ g < w3.heap.size) := fun g hg => o2.lt g hg
  have L3 : Hid (((w3.drewN n4).drewN n5).heap.size = w3.heap.size) := rfl
  generalize (w3.drewN n4).drewN n5 = W at *
  have hA : Hid (VkInv (W.alloc (.cells #[.slice none 0 0, .slice none 0 0, .slice none 0 0, .slice none 0 0] 70)) w.heap.size W.heap.size (.slice none 0 0) []) :=
    ⟨heap_alloc_new W _, World.ownsRow_nil _ _ _ _, by simp⟩
  have r1 := q1.alloc (.cells #[.slice none 0 0, .slice none 0 0, .slice none 0 0, .slice none 0 0] 70)
  have r2 := q2.alloc (.cells #[.slice none 0 0, .slice none 0 0, .slice none 0 0, .slice none 0 0] 70)
  have r3 : Below w.heap.size w (W.alloc (.cells #[.slice none 0 0, .slice none 0 0, .slice none 0 0, .slice none 0 0] 70)) := q3.alloc q3.size _
  have r4 : Hid ((W.alloc (.cells #[.slice none 0 0, .slice none 0 0, .slice none 0 0, .slice none 0 0] 70)).heap.size = w3.heap.size + 1) := by show _ = _; rw [← L3.out]; simp
  have hWB : w.heap.size ≤ W.heap.size := q3.size
  clear q1 q2 q3 p0 p1 o1 o2 bb b1 b2 b3
  by_cases hf : f = 0
  · subst hf
    clear N1
    go_wp2_with fail
    generalize W.alloc (.cells #[.slice none 0 0, .slice none 0 0, .slice none 0 0, .slice none 0 0] 70) = WA at *
    refine (ownValues_any _ w.heap.size _ _ l [] _ hlen (by simp) hA.out r1 hWB (by simp)).mono ?_
    rintro e w6 ⟨rfl, iv6, es6, hl6, hI6, hm6, hblk6, hk6, hb6⟩
    have o6 := vowns_keep r2 hk6 (fun g h2 h1 => by have := L1.out g h1; have := L2.out g h2; omega)
    have hs6 : Hid (∀ e ∈ es6, ∀ g' n' cap', e.1 = .slice (some ⟨g', 0, none⟩) n' cap' → 0 < n' → (Value.slice a2 l.length k2).ownBlock ≠ some g') := by
      intro e he g' n' cap' h1 h0 h2
      have h3 := L2.out g' h2
      have h5 := r4.out
      rcases hblk6 e he g' (by rw [h1]; rfl) with h4 | h4
      · have := L1.out g' h4
        omega
      · omega
    have HL6 : Hid (es6.length = 4) := hl6
    have HI6 : Hid (VkInv w6 w.heap.size W.heap.size iv6 es6) := show VkInv _ _ _ _ _ from hI6
    have HM6 : Hid (∀ e ∈ es6, 0 ≤ e.2 ∧ e.2 ≤ 100) := fun e he => by have := hm6 e he; simp at this; omega
    clear hA r1 r2 hI6 hm6 hblk6 hk6 L1 L2 L3 r4 hl6
    go_wp2_with fail
    refine (ownValues_any _ w.heap.size _ _ l es6 _ hlen (by have := HL6.out; omega) HI6.out o6 hWB hs6.out).mono ?_
    rintro e w7 ⟨rfl, iv7, es7, hl7, hI7, hm7, hblk7, hk7, hb7⟩
    have HL7 : Hid ((es6 ++ es7).length = 8) := by show _ = _; rw [List.length_append, HL6.out, hl7]
    have HI7 : Hid (VkInv w7 w.heap.size W.heap.size iv7 (es6 ++ es7)) := hI7
    have HM7 : Hid (∀ e ∈ es6 ++ es7, 0 ≤ e.2 ∧ e.2 ≤ 100) := by
      intro e he
      rcases List.mem_append.1 he with h1 | h1
      · exact HM6.out e h1
      · have := hm7 e h1
        have := HL6.out
        omega
    clear hI7 hm7 hblk7 hk7 hl7 o6 HI6
    go_wp2_with fail
    refine (vlooks_any _ w.heap.size _ (es6 ++ es7) _ (by rw [HL7.out]; omega) HI7.out HM7.out).mono ?_
    rintro e w8 ⟨rfl, hb8⟩
    have HB8 : Hid _ := hb8
    clear HI7 HM7 HL7
    go_wp2
    go_ret
    exact ⟨rfl, ((r3.trans hb6).trans hb7).trans (HB8.out.mono ((r3.trans hb6).trans hb7).size)⟩
  · have hf1 : (f != 0) = true := by simpa using hf
    have hnil := N1.out hf
    simp only [Value.slice.injEq] at hnil
    obtain ⟨rfl, hl0, rfl⟩ := hnil
    have HL0 : Hid (l.length = 0) := hl0
    clear hl0 N1
    go_wp2_with fail
    generalize W.alloc (.cells #[.slice none 0 0, .slice none 0 0, .slice none 0 0, .slice none 0 0] 70) = WA at *
    refine (ownValues_any _ w.heap.size _ _ l [] _ hlen (by simp) hA.out r1 hWB (by simp)).mono ?_
    rintro e w6 ⟨rfl, iv6, es6, hl6, hI6, hm6, hblk6, hk6, hb6⟩
    have o6 := vowns_keep r2 hk6 (fun g h2 h1 => by have := L1.out g h1; have := L2.out g h2; omega)
    have hs6 : Hid (∀ e ∈ es6, ∀ g' n' cap', e.1 = .slice (some ⟨g', 0, none⟩) n' cap' → 0 < n' → (Value.slice a2 l.length k2).ownBlock ≠ some g') := by
      intro e he g' n' cap' h1 h0 h2
      have h3 := L2.out g' h2
      have h5 := r4.out
      rcases hblk6 e he g' (by rw [h1]; rfl) with h4 | h4
      · have := L1.out g' h4
        omega
      · omega
    have HL6 : Hid (es6.length = 4) := hl6
    have HI6 : Hid (VkInv w6 w.heap.size W.heap.size iv6 es6) := show VkInv _ _ _ _ _ from hI6
    have HM6 : Hid (∀ e ∈ es6, 0 ≤ e.2 ∧ e.2 ≤ 100) := fun e he => by have := hm6 e he; simp at this; omega
    clear hA r1 r2 hI6 hm6 hblk6 hk6 L1 L2 L3 r4 hl6
    go_wp2_with fail
    refine (ownValues_any _ w.heap.size _ _ l es6 _ hlen (by have := HL6.out; omega) HI6.out o6 hWB hs6.out).mono ?_
    rintro e w7 ⟨rfl, iv7, es7, hl7, hI7, hm7, hblk7, hk7, hb7⟩
    have HL7 : Hid ((es6 ++ es7).length = 8) := by show _ = _; rw [List.length_append, HL6.out, hl7]
    have HI7 : Hid (VkInv w7 w.heap.size W.heap.size iv7 (es6 ++ es7)) := hI7
    have HM7 : Hid (∀ e ∈ es6 ++ es7, 0 ≤ e.2 ∧ e.2 ≤ 100) := by
      intro e he
      rcases List.mem_append.1 he with h1 | h1
      · exact HM6.out e h1
      · have := hm7 e h1
        have := HL6.out
        omega
    clear hI7 hm7 hblk7 hk7 hl7 o6 HI6
    go_wp2_with fail
    refine (vlooks_any _ w.heap.size _ (es6 ++ es7) _ (by rw [HL7.out]; omega) HI7.out HM7.out).mono ?_
    rintro e w8 ⟨rfl, hb8⟩
    have HB8 : Hid _ := hb8
    clear HI7 HM7 HL7
    go_wp2
    go_ret
    exact ⟨rfl, ((r3.trans hb6).trans hb7).trans (HB8.out.mono ((r3.trans hb6).trans hb7).size)⟩
end Go.Proofs.Ytjidbonhhpkljaa.Ec

/- Back: back and forth, in each encoding. -/
set_option linter.unusedVariables false
namespace Go.Proofs.Ytjidbonhhpkljaa.Ec
open Go.RowKit Go.Proofs.Ytjidbonhhpkljaa.Pk Go.Proofs.Ytjidbonhhpkljaa.Pm

theorem VC.vok {k : Int} {v : Val} (hk : k = 1 ∨ k = 2 ∨ k = 3) (h : VC k v) : VOk v := vok_of_may h.vin (h.may hk)
theorem column_len {k e : Int} {l : List Val} (hk : k = 1 ∨ k = 2 ∨ k = 3) (hl : l.length ≤ 100) (hok : ∀ x ∈ l, VC k x) : (columnB k e l).length ≤ 20000 := by
  have h1 := runsB_length (l.map lev) (by simpa using hl)
  have ht := there_length l
  have hv : ∀ x ∈ there l, VOk x := fun x hx => (hok x (there_mem hx)).vok hk
  unfold columnB
  rw [List.length_append]
  have h2 : (codedB k e (there l)).length ≤ 10000 := by
    unfold codedB
    split
    · have := deltaF_length 0 (there l); omega
    · split
      · unfold dictB
        obtain ⟨g1, g2, g3, g4⟩ := dfold_ok (there l) (there l).length (Nat.le_refl _)
        rw [List.take_length] at g1 g2 g3 g4
        have a1 := vintF_length 10 (dfold (there l)).1.length
        have a2 := plainsB_length k (dfold (there l)).1 (fun x hx => hv x (g4 x hx))
        have a3 := packBytes_length (wid (dfold (there l)).1.length) (dfold (there l)).2
        have a4 := wid_le (dfold (there l)).1.length
        have a5 : (dfold (there l)).2.length * wid (dfold (there l)).1.length ≤ 100 * 7 := Nat.mul_le_mul (by omega) a4
        rw [List.length_append, List.length_append, a3]
        unfold vint
        omega
      · split
        · have := runsB_length ((there l).map Val.n) (by rw [List.length_map]; omega)
          omega
        · have := plainsB_length k (there l) hv; omega
  omega

/-- Decode of what Encode gave. -/
theorem decode_back (k e : Int) (l : List Val) (w : World) (hk : k = 1 ∨ k = 2 ∨ k = 3) (he : hasEncB k e = true) (hl : l.length ≤ 100) (hok : ∀ x ∈ l, VC k x) :
    Calls Try.prog 23 #[.string (strOf (columnB k e l)), .int .i64 k, .int .i64 e, .int .i64 (l.length : Int)] w fun f w' => Below w.heap.size w w' ∧ ∃ v, f = .returned (.tuple #[v, .int .i64 0]) ∧ VSl w' v l ∧ DecOk (strOf (columnB k e l)) k e l.length l := by
  refine (cDecode_any _ k e _ w (by rw [strOf_size]; have := column_len (e := e) hk hl hok; unfold maxLen; omega)).mono ?_
  rintro f w' ⟨hb, ⟨hne, _⟩ | ⟨c, hc, hc2, h0, _, ⟨v, l', rfl, hown, hd⟩ | ⟨_, hno⟩⟩⟩
  · exfalso
    apply hne
    unfold colE
    rw [if_neg (by omega), he]
    rfl
  · have hcl : c = l.length := by omega
    subst hcl
    have e1 := dec_same hok hd
    subst e1
    exact ⟨hb, v, rfl, VSl.of_owns hown, hd⟩
  · have hcl : c = l.length := by omega
    subst hcl
    exact absurd hno (dec_there hok)

/-- Decode of what is longer. -/
theorem decode_longer (k e : Int) (l : List Val) (w : World) (hk : k = 1 ∨ k = 2 ∨ k = 3) (he : hasEncB k e = true) (hl : l.length ≤ 100) (hok : ∀ x ∈ l, VC k x) :
    Calls Try.prog 23 #[.string (strOf (columnB k e l) ++ strOf [0]), .int .i64 k, .int .i64 e, .int .i64 (l.length : Int)] w fun f w' => Below w.heap.size w w' ∧ f = .returned (.tuple #[.slice none 0 0, .int .i64 3]) := by
  refine (cDecode_any _ k e _ w (by rw [← strOf_append, strOf_size, List.length_append]; have := column_len (e := e) hk hl hok; unfold maxLen; simp; omega)).mono ?_
  rintro f w' ⟨hb, ⟨hne, _⟩ | ⟨c, hc, hc2, h0, _, ⟨v, l', rfl, hown, hd⟩ | ⟨rfl, hno⟩⟩⟩
  · exfalso
    apply hne
    unfold colE
    rw [if_neg (by omega), he]
    rfl
  · have hcl : c = l.length := by omega
    subst hcl
    exact absurd hd (dec_longer hok)
  · exact ⟨hb, rfl⟩

/-- Decode of what is shorter. -/
theorem decode_shorter (k e : Int) (l : List Val) (s : ByteArray) (w : World) (hk : k = 1 ∨ k = 2 ∨ k = 3) (he : hasEncB k e = true) (hl : l.length ≤ 100) (hok : ∀ x ∈ l, VC k x) (hsz : s.size ≤ maxLen) (hs : bytesOf s = (columnB k e l).take ((columnB k e l).length - 1)) (hne : columnB k e l ≠ [])
    (hd : DecOk (strOf (columnB k e l)) k e l.length l) :
    Calls Try.prog 23 #[.string s, .int .i64 k, .int .i64 e, .int .i64 (l.length : Int)] w fun f w' => Below w.heap.size w w' ∧ f = .returned (.tuple #[.slice none 0 0, .int .i64 3]) := by
  refine (cDecode_any _ k e _ w hsz).mono ?_
  rintro f w' ⟨hb, ⟨hn, _⟩ | ⟨c, hc, hc2, h0, _, ⟨v, l', rfl, hown, hd'⟩ | ⟨rfl, hno⟩⟩⟩
  · exfalso
    apply hn
    unfold colE
    rw [if_neg (by omega), he]
    rfl
  · have hcl : c = l.length := by omega
    subst hcl
    exact absurd hd' (dec_shorter hok hs hne hd)
  · exact ⟨hb, rfl⟩

theorem back_example : encOf [⟨false, 5, ⟨#[]⟩⟩, ⟨true, 0, ⟨#[]⟩⟩, ⟨false, 3, ⟨#[]⟩⟩] 1 1 = (⟨#[1, 1, 1, 0, 1, 1, 10, 3]⟩, 0) := by decide +kernel
end Go.Proofs.Ytjidbonhhpkljaa.Ec

/- Decodes: the walk. -/
set_option linter.unusedVariables false
namespace Go.Proofs.Ytjidbonhhpkljaa.Ec
open Go.RowKit Go.Proofs.Ytjidbonhhpkljaa.Pk Go.Proofs.Ytjidbonhhpkljaa.Pm

theorem enc_size (l : List Val) (k e : Int) (hin : ∀ x ∈ l, VIn x) : (encOf l k e).1.size ≤ maxLen := by
  by_cases h1 : 100 < l.length
  · rw [enc_long h1]; unfold maxLen; decide
  · cases h2 : hasEncB k e with
    | false => rw [enc_opt h1 h2]; unfold maxLen; decide
    | true =>
      by_cases h3 : ∀ j, (hj : j < l.length) → mayB l[j] k = true
      · rw [enc_ok h1 h2 h3, strOf_size]
        have hok : ∀ x ∈ l, VC k x := by
          intro x hx
          obtain ⟨j, hj, rfl⟩ := List.getElem_of_mem hx
          exact vc_of_may (enc_kinds h2).1 (hin _ hx) (h3 j hj)
        have := column_len (e := e) (enc_kinds h2).1 (by omega) hok
        unfold maxLen
        omega
      · have h4 : ∃ j, ∃ hj : j < l.length, mayB l[j] k = false := by
          apply Classical.byContradiction
          intro hn
          apply h3
          intro j hj
          cases hb : mayB l[j] k with
          | true => rfl
          | false => exact absurd ⟨j, hj, hb⟩ hn
        obtain ⟨j, hj, hb⟩ := h4
        rw [enc_bad h1 h2 j hj hb]; unfold maxLen; decide

set_option maxRecDepth 100000 in
set_option maxHeartbeats 2000000 in
theorem decodesLaw_any (s : ByteArray) (lv : Value) (l : List Val) (k e cn : Int) (w : World) (hm : s.size ≤ maxLen) (hl : l.length ≤ 4398046510976) (hin : ∀ x ∈ l, VIn x) (hvs : VSl w lv l) :
    Calls Try.prog 5 #[.string s, lv, .int .i64 k, .int .i64 e, .int .i64 cn] w fun r w' => r = .returned (.bool true) ∧ Below w.heap.size w w' := by
  have HE : Hid (Calls Try.prog 15 #[lv, .int .i64 k, .int .i64 e] w fun r w' => r = .returned (.tuple #[.string (encOf l k e).1, .int .i64 (encOf l k e).2]) ∧ Below w.heap.size w w') := rEncode_any lv l k e w (by unfold maxLen; omega) hin hvs
  have hsz := enc_size l k e hin
  obtain ⟨ao, b, off, cap, rfl, hr⟩ := hvs
  generalize (encOf l k e).1 = t at *
  generalize (encOf l k e).2 = f at *
  have HD1 : Hid (∀ w, Calls Try.prog 19 #[.string s, .int .i64 k, .int .i64 e, .int .i64 cn] w fun r w' => r = .returned (.bool true) ∧ Below w.heap.size w w') := fun w => decodes_any s k e cn w hm
  have HD2 : Hid (∀ w, Calls Try.prog 19 #[.string t, .int .i64 k, .int .i64 e, .int .i64 (l.length : Int)] w fun r w' => r = .returned (.bool true) ∧ Below w.heap.size w w') := fun w => decodes_any t k e l.length w hsz
  clear hr hin hsz hm
  go_enter Try.func5, Try.ntmps5
  go_wp2_with fail
  refine HE.out.mono ?_
  rintro r w1 ⟨rfl, hb1⟩
  go_wp2_with fail
  refine (HD1.out _).mono ?_
  rintro r w2 ⟨rfl, hb2⟩
  go_wp2_with fail
  refine (HD2.out _).mono ?_
  rintro r w3 ⟨rfl, hb3⟩
  have HB : Hid (Below w.heap.size w w3) := (hb1.trans (hb2.mono hb1.size)).trans (hb3.mono (by have := hb1.size; have := hb2.size; omega))
  clear hb1 hb2 hb3
  go_wp2
  go_ret
  exact ⟨rfl, HB.out⟩
end Go.Proofs.Ytjidbonhhpkljaa.Ec
