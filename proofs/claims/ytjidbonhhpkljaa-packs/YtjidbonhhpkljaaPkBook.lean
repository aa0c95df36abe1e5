/- The statement's book of lists of numbers that came out: what stays true of it while lists are written over and grow. -/
import Derived.Test.YtjidbonhhpkljaaPkUnpackC
import Derived.ArgAppend
set_option linter.unusedVariables false
namespace Go.Proofs.Ytjidbonhhpkljaa.Pk
open Go.RowKit Go.Proofs.Ytjidbonhhpkljaa.Pm

theorem Try.infoOut : (Try.prog.info? 121).map (fun i => (i.zero, i.size, i.bytes)) = some (some (.agg #[.slice none 0 0, .int .i64 0]), 2, 32) := by kernel_rfl

/-- A list of numbers that reads as its mark says. -/
def Filled (w : World) (v : Value) (m : Int) : Prop :=
  ∃ ao n cap, v = .slice ao n cap ∧ n ≤ 1000 ∧ (0 < n → ∃ g cur, ao = some ⟨g, 0, none⟩ ∧ w.heap[g]? = some (.cells cur 3 (0, 0)) ∧ ∀ j, j < n → cur[j]? = some (.int .i64 (-1 - m)))

/-- The cells of the book's entries. -/
def ecells (es : List (Value × Int)) : List Value := es.flatMap fun e => [e.1, .int .i64 e.2]

theorem ecells_snoc (es : List (Value × Int)) (e : Value × Int) : ecells es ++ [e.1, .int .i64 e.2] = ecells (es ++ [e]) := by simp [ecells]
theorem ecells_length (es : List (Value × Int)) : (ecells es).length = es.length * 2 := by
  induction es with
  | nil => rfl
  | cons e r ih => simp only [ecells, List.flatMap_cons, List.length_append, List.length_cons, List.length_nil] at *; omega
theorem ecells_get (es : List (Value × Int)) (i : Nat) (h : i < es.length) : (ecells es)[2 * i]? = some es[i].1 ∧ (ecells es)[2 * i + 1]? = some (.int .i64 es[i].2) := by
  induction es generalizing i with
  | nil => simp at h
  | cons e r ih =>
    cases i with
    | zero => simp [ecells]
    | succ k =>
      have := ih k (by simpa using h)
      simp only [ecells, List.flatMap_cons, List.getElem_cons_succ] at *
      rw [List.getElem?_append_right (by simp; omega), List.getElem?_append_right (by simp; omega)]
      simp only [List.length_cons, List.length_nil]
      rw [show 2 * (k + 1) - (0 + 1 + 1) = 2 * k by omega, show 2 * (k + 1) + 1 - (0 + 1 + 1) = 2 * k + 1 by omega]
      exact this

/-- The book, with its entries. -/
structure BkInv (w : World) (base B : Nat) (iv : Value) (es : List (Value × Int)) : Prop where
  blk : w.heap[B]? = some (.cells #[iv, .slice none 0 0, .slice none 0 0, .slice none 0 0] 70 (0, 0))
  own : w.ownsRow base 121 2 iv es.length (ecells es)
  full : ∀ e ∈ es, Filled w e.1 e.2

theorem blk_ne {w : World} {a b : Nat} {c1 c2 : Array Value} {e1 e2 : TypeId} {f1 f2 : Nat × Nat} (h1 : w.heap[a]? = some (.cells c1 e1 f1)) (h2 : w.heap[b]? = some (.cells c2 e2 f2)) (hne : e1 ≠ e2) : a ≠ b := by
  intro h
  subst h
  rw [h1] at h2
  simp at h2
  exact hne h2.2.1

theorem Filled.other {w w' : World} {v : Value} {m : Int} {row : Option Nat} (h : Filled w v m) (hg : w.grownBy w' row)
    (hne : ∀ g cur, v.ownBlock = some g → w.heap[g]? = some (.cells cur 3 (0, 0)) → row ≠ some g) : Filled w' v m := by
  obtain ⟨ao, n, cap, rfl, hn, hf⟩ := h
  refine ⟨ao, n, cap, rfl, hn, fun h0 => ?_⟩
  obtain ⟨g, cur, rfl, hb, hc⟩ := hf h0
  exact ⟨g, cur, rfl, by rw [hg.block g (lt_of_block hb) (fun h => hne g cur rfl hb h.symm)]; exact hb, hc⟩

/-- The block of an owned row bears its elements' type. -/
theorem owns_blk {w : World} {base : Nat} {e : TypeId} {size : Nat} {v : Value} {n : Nat} {xs : List Value} (h : w.ownsRow base e size v n xs) {g : Nat} (hg : v.ownBlock = some g) :
    ∃ cur, w.heap[g]? = some (.cells cur e (0, 0)) := by
  rcases h.2 with ⟨rfl, _⟩ | ⟨g', cap, cur, rfl, _, h3, _⟩
  · simp [Value.ownBlock] at hg
  · simp [Value.ownBlock] at hg
    subst hg
    exact ⟨cur, h3⟩

theorem BkInv.other {w w' : World} {base B : Nat} {iv : Value} {es : List (Value × Int)} {row : Option Nat} (h : BkInv w base B iv es) (hg : w.grownBy w' row)
    (h3 : ∀ g, row = some g → (∃ cur, w.heap[g]? = some (.cells cur 3 (0, 0))) ∧ ∀ e ∈ es, ∀ ao n cap, e.1 = .slice ao n cap → 0 < n → e.1.ownBlock ≠ some g) : BkInv w' base B iv es := by
  refine ⟨?_, ?_, ?_⟩
  · rw [hg.block B (lt_of_block h.blk) (fun hr => ?_)]
    · exact h.blk
    · obtain ⟨⟨cur, hc⟩, _⟩ := h3 B hr.symm
      exact blk_ne hc h.blk (by decide) rfl
  · refine h.own.kept hg ?_
    by_cases hi : iv.ownBlock = none
    · exact .inl hi
    · refine .inr fun hr => ?_
      obtain ⟨g, hgi⟩ := Option.ne_none_iff_exists'.1 hi
      obtain ⟨cur, hc⟩ := owns_blk h.own hgi
      obtain ⟨⟨cur2, hc2⟩, _⟩ := h3 g (by rw [← hr, hgi])
      exact blk_ne hc hc2 (by decide) rfl
  · intro e he
    obtain ⟨ao, n, cap, h1, hn, hf⟩ := h.full e he
    rw [h1]
    refine ⟨ao, n, cap, rfl, hn, fun h0 => ?_⟩
    obtain ⟨g, cur, rfl, hb, hc⟩ := hf h0
    refine ⟨g, cur, rfl, ?_, hc⟩
    rw [hg.block g (lt_of_block hb) (fun hr => ?_)]
    · exact hb
    · exact (h3 g hr.symm).2 e he _ _ _ h1 h0 (by rw [h1]; rfl)

/-- An entry more: behind 'append' on the book's row and the store. -/
theorem BkInv.push {w w1 : World} {base B : Nat} {iv iv' v : Value} {k : Int} {es : List (Value × Int)} {n : Nat} {xs : List Value} (o : Obj) (h : BkInv w base B iv es) (hv : Filled w v k)
    (hl : w.ownsRow base 3 1 v n xs) (hB : base ≤ B) (hown : w1.ownsRow base 121 2 iv' (es.length + 1) (ecells es ++ [v, .int .i64 k])) (hg : (w.alloc o).grownBy w1 iv.ownBlock) :
    BkInv (w1.setCell ⟨B, 0, none⟩ iv') base B iv' (es ++ [(v, k)]) ∧ (w1.setCell ⟨B, 0, none⟩ iv').ownsRow base 3 1 v n xs := by
  have ha : w.grownBy (w.alloc o) none := World.grownBy_alloc w o none
  have hne : ∀ (b : Nat) (c : Array Value) (t : TypeId), w.heap[b]? = some (.cells c t (0, 0)) → t ≠ 121 → w1.heap[b]? = w.heap[b]? := by
    intro b c t hb ht
    rw [hg.block b (by have := lt_of_block hb; simp; omega) (fun hr => ?_), ha.block b (lt_of_block hb) (by simp)]
    obtain ⟨cur, hc⟩ := owns_blk h.own hr.symm
    exact blk_ne hb hc ht rfl
  have hB1 := hne B _ _ h.blk (by decide)
  rw [h.blk] at hB1
  have hB2 := heap_setCell_same w1 B 0 _ _ iv' hB1
  have hne2 : ∀ (b : Nat) (c : Array Value) (t : TypeId), w.heap[b]? = some (.cells c t (0, 0)) → t ≠ 121 → t ≠ 70 → (w1.setCell ⟨B, 0, none⟩ iv').heap[b]? = w.heap[b]? := by
    intro b c t hb ht ht2
    rw [heap_setCell_other w1 ⟨B, 0, none⟩ b iv' (fun hr => ?_), hne b c t hb ht]
    exact blk_ne hb h.blk ht2 hr
  have hfil : ∀ u m, Filled w u m → Filled (w1.setCell ⟨B, 0, none⟩ iv') u m := by
    rintro u m ⟨ao, n', cap, rfl, hn, hf⟩
    refine ⟨ao, n', cap, rfl, hn, fun h0 => ?_⟩
    obtain ⟨g, cur, rfl, hb, hc⟩ := hf h0
    exact ⟨g, cur, rfl, by rw [hne2 g _ _ hb (by decide) (by decide)]; exact hb, hc⟩
  refine ⟨⟨?_, ?_, ?_⟩, ?_⟩
  · rw [hB2]; rfl
  · rw [List.length_append, List.length_singleton, ← ecells_snoc]
    refine ownsRow_setCell_other hown (fun hr => ?_) _
    obtain ⟨cur, hc⟩ := owns_blk hown hr
    exact blk_ne hc hB1 (by decide) rfl
  · intro e he
    rcases List.mem_append.1 he with h1 | h1
    · exact hfil _ _ (h.full e h1)
    · simp at h1
      subst h1
      exact hfil _ _ hv
  · refine ⟨hl.1, ?_⟩
    rcases hl.2 with h1 | ⟨g, cap, cur, h1, h2, h3, h4⟩
    · exact .inl h1
    · exact .inr ⟨g, cap, cur, h1, h2, by rw [hne2 g _ _ h3 (by decide) (by decide)]; exact h3, h4⟩

theorem Filled.mk {w : World} {base : Nat} {v : Value} {n : Nat} {x : Int} (h : w.ownsRow base 3 1 v n (icells (List.replicate n (-1 - x)))) (hn : n ≤ 1000) : Filled w v x := by
  rcases h.2 with ⟨rfl, rfl⟩ | ⟨g, cap, cur, rfl, _, h3, _, _, _, h7⟩
  · exact ⟨none, 0, 0, rfl, by omega, by omega⟩
  · refine ⟨_, n, cap, rfl, hn, fun h0 => ⟨g, cur, rfl, h3, fun j hj => ?_⟩⟩
    have := congrArg (fun l => l[j]?) h7
    simp only [Nat.mul_one] at this
    rw [List.getElem?_take, if_pos hj, icells_get _ _ (by simpa using hj)] at this
    simpa using this

/-- Of the entries those that stand in the row of v are no longer than n, and bear the mark k. -/
def Shares (v : Value) (n : Nat) (k : Int) (es : List (Value × Int)) : Prop := ∀ e ∈ es, ∀ g n' cap', e.1 = .slice (some ⟨g, 0, none⟩) n' cap' → 0 < n' → v.ownBlock = some g → e.2 = k ∧ n' ≤ n

/-- The list grows by one more mark. -/
theorem BkInv.grow {w w1 : World} {base B : Nat} {iv v v' : Value} {k : Int} {es : List (Value × Int)} {n : Nat} (o : Obj) (h : BkInv w base B iv es) (hs : Shares v n k es)
    (hl : w.ownsRow base 3 1 v n (icells (List.replicate n (-1 - k)))) (hown : w1.ownsRow base 3 1 v' (n + 1) (icells (List.replicate (n + 1) (-1 - k))))
    (hg : ((w.alloc o).grownBy w1 none ∧ w1.ownsRow (w.alloc o).heap.size 3 1 v' (n + 1) (icells (List.replicate (n + 1) (-1 - k)))) ∨ (v'.ownBlock = v.ownBlock ∧ (w.alloc o).grownBy w1 v.ownBlock)) :
    BkInv w1 base B iv es ∧ Shares v' (n + 1) k es := by
  have ha := h.other (World.grownBy_alloc w o none) (fun g hg => by cases hg)
  rcases hg with ⟨hg, hnew⟩ | ⟨hv, hg⟩
  · refine ⟨ha.other hg (fun g hg => by cases hg), ?_⟩
    intro e he g n' cap' h1 h0 hvg
    exfalso
    obtain ⟨ao, n2, cap2, h2, _, hf⟩ := ha.full e he
    rw [h1] at h2
    simp only [Value.slice.injEq] at h2
    obtain ⟨rfl, rfl, rfl⟩ := h2
    obtain ⟨g2, cur, hg2, hb, _⟩ := hf h0
    simp only [Option.some.injEq, Addr.mk.injEq, and_true] at hg2
    subst hg2
    have := lt_of_block hb
    have := (hnew.lt g hvg).1
    omega
  · rcases hown.2 with ⟨_, h0⟩ | ⟨g0, cap0, cur0, rfl, _, hb0, _, _, _, ht0⟩
    · omega
    have hv0 : v.ownBlock = some g0 := by rw [← hv]; rfl
    rw [hv0] at hg
    obtain ⟨curA, hcA⟩ := owns_blk (hl.alloc o) hv0
    have hcell : ∀ j, j < n + 1 → cur0[j]? = some (.int .i64 (-1 - k)) := by
      intro j hj
      have := congrArg (fun l => l[j]?) ht0
      simp only [Nat.mul_one] at this
      rw [List.getElem?_take, if_pos hj, icells_get _ _ (by simpa using hj)] at this
      simpa using this
    refine ⟨⟨?_, ?_, ?_⟩, ?_⟩
    · rw [hg.block B (lt_of_block ha.blk) (fun hr => ?_)]
      · exact ha.blk
      · simp at hr
        subst hr
        exact blk_ne hcA ha.blk (by decide) rfl
    · refine ha.own.kept hg ?_
      by_cases hi : iv.ownBlock = none
      · exact .inl hi
      · refine .inr fun hr => ?_
        obtain ⟨cur, hc⟩ := owns_blk ha.own hr
        exact blk_ne hc hcA (by decide) rfl
    · intro e he
      obtain ⟨ao, n2, cap2, h2, hn2, hf⟩ := ha.full e he
      rw [h2]
      refine ⟨ao, n2, cap2, rfl, hn2, fun hp => ?_⟩
      obtain ⟨g, cur, rfl, hb, hc⟩ := hf hp
      by_cases hgg : g = g0
      · subst hgg
        obtain ⟨hm, hle⟩ := hs e he g n2 cap2 h2 hp hv0
        exact ⟨g, cur0, rfl, hb0, fun j hj => by rw [hm]; exact hcell j (by omega)⟩
      · exact ⟨g, cur, rfl, by rw [hg.block g (lt_of_block hb) (by simp; exact hgg)]; exact hb, hc⟩
    · intro e he g n' cap' h1 hp hvg
      obtain ⟨hm, hle⟩ := hs e he g n' cap' h1 hp (by rw [hv0]; exact hvg)
      exact ⟨hm, by omega⟩
end Go.Proofs.Ytjidbonhhpkljaa.Pk
