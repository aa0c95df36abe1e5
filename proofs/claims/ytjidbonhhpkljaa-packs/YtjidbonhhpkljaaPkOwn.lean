/- The contract of the book's ownInts: a list is written full of its mark, three more are put behind it, and all four stand in the book. -/
import Derived.Test.YtjidbonhhpkljaaPkBook
set_option linter.unusedVariables false
namespace Go.Proofs.Ytjidbonhhpkljaa.Pk
open Go.RowKit Go.Proofs.Ytjidbonhhpkljaa.Pm

theorem owns_slice {w : World} {base : Nat} {e : TypeId} {size : Nat} {v : Value} {n : Nat} {xs : List Value} (h : w.ownsRow base e size v n xs) : ∃ ao cap, v = .slice ao n cap := by
  rcases h.2 with ⟨h1, h2⟩ | ⟨g, cap, cur, h1, _⟩
  · exact ⟨none, 0, by rw [h1, h2]⟩
  · exact ⟨_, cap, h1⟩

theorem BkInv.cells {w : World} {base B : Nat} {iv : Value} {es : List (Value × Int)} (h : BkInv w base B iv es) : w.cell? ⟨B, 0, none⟩ = some iv ∧ w.frozen? ⟨B, 0, none⟩ = false := by
  have := h.blk
  exact ⟨by simp [World.cell?, this], by simp [World.frozen?, this]⟩

theorem BkInv.cells1 {w w1 : World} {base B : Nat} {iv : Value} {es : List (Value × Int)} (o : Obj) (h : BkInv w base B iv es) (hg : (w.alloc o).grownBy w1 iv.ownBlock) : w1.cell? ⟨B, 0, none⟩ = some iv ∧ w1.frozen? ⟨B, 0, none⟩ = false := by
  have hb : w1.heap[B]? = some (.cells #[iv, .slice none 0 0, .slice none 0 0, .slice none 0 0] 70 (0, 0)) := by
    rw [hg.block B (by have := lt_of_block h.blk; simp; omega) (fun hr => ?_), (World.grownBy_alloc w o none).block B (lt_of_block h.blk) (by simp)]
    · exact h.blk
    · obtain ⟨cur, hc⟩ := owns_blk h.own hr.symm
      exact blk_ne h.blk hc (by decide) rfl
  exact ⟨by simp [World.cell?, hb], by simp [World.frozen?, hb]⟩

/-- A store into the list. -/
theorem BkInv.store {w : World} {base B : Nat} {iv : Value} {es : List (Value × Int)} {g n cap : Nat} {zs : List Int} (h : BkInv w base B iv es) (hown : w.ownsRow base 3 1 (.slice (some ⟨g, 0, none⟩) n cap) n (icells zs))
    (hsh : ∀ e ∈ es, ∀ g' n' cap', e.1 = .slice (some ⟨g', 0, none⟩) n' cap' → 0 < n' → g ≠ g') (j : Nat) (x : Int) :
    BkInv (w.setCell ⟨g, j, none⟩ (.int .i64 x)) base B iv es ∧ (w.setCell ⟨g, j, none⟩ (.int .i64 x)).ownsRow base 3 1 (.slice (some ⟨g, 0, none⟩) n cap) n (icells (zs.set j x)) := by
  obtain ⟨o1, o2⟩ := hown.stored j (.int .i64 x)
  refine ⟨h.other o2 ?_, ?_⟩
  · intro g' hg'
    simp at hg'
    subst hg'
    refine ⟨owns_blk hown rfl, ?_⟩
    intro e he ao n' cap' h1 h0 hob
    rw [h1] at hob
    cases ao with
    | none => simp [Value.ownBlock] at hob
    | some a =>
      obtain ⟨ao2, n2, cap2, h2, _, hf⟩ := h.full e he
      rw [h1] at h2
      simp only [Value.slice.injEq] at h2
      obtain ⟨rfl, rfl, rfl⟩ := h2
      obtain ⟨g2, cur, hg2, _⟩ := hf h0
      simp only [Option.some.injEq] at hg2
      subst hg2
      simp [Value.ownBlock] at hob
      exact hsh e he g2 n' cap' h1 h0 hob.symm
  · have : (icells zs).set j (.int .i64 x) = icells (zs.set j x) := by simp [icells, List.map_set]
    rw [← this]
    exact o1

theorem owns_addr {w : World} {base : Nat} {e : TypeId} {size : Nat} {ao : Option Addr} {n cap : Nat} {xs : List Value} (h : w.ownsRow base e size (.slice ao n cap) n xs) (hn : 0 < n) : ∃ g, ao = some ⟨g, 0, none⟩ := by
  rcases h.2 with ⟨h1, h2⟩ | ⟨g, cap, cur, h1, _⟩
  · omega
  · simp only [Value.slice.injEq] at h1
    exact ⟨g, h1.1⟩

theorem pair_at (w : World) (a b : Value) (t : TypeId) : ∀ (j : Nat) (u : Value), [a, b][j]? = some u → (w.alloc (.cells #[a, b] t)).cell? ((⟨w.heap.size, 0, none⟩ : Addr).add j) = some u := by
  intro j u hj
  match j, hj with
  | 0, hj => simp at hj; subst hj; simp [Addr.add]
  | 1, hj => simp at hj; subst hj; simp [Addr.add]
theorem pair_one (ao : Option Addr) (n cap : Nat) (k : Int) : ∀ u ∈ [Value.slice ao n cap, .int .i64 k], u.oneCell' = true := by
  intro u hu
  simp at hu
  rcases hu with rfl | rfl
  · rfl
  · rfl

theorem one_at (w : World) (a : Value) (t : TypeId) : ∀ (j : Nat) (u : Value), [a][j]? = some u → (w.alloc (.cells #[a] t)).cell? ((⟨w.heap.size, 0, none⟩ : Addr).add j) = some u := by
  intro j u hj
  match j, hj with
  | 0, hj => simp at hj; subst hj; simp [Addr.add]
theorem one_one (x : Int) : ∀ u ∈ [Value.int .i64 x], u.oneCell' = true := by
  intro u hu
  simp at hu
  subst hu
  rfl
theorem fill_snoc (n : Nat) (x : Int) : icells (List.replicate n x) ++ [.int .i64 x] = icells (List.replicate (n + 1) x) := by rw [icells_snoc, List.replicate_succ']

theorem marks_snoc {es : List (Value × Int)} {v : Value} {k : Int} (h : ∀ e ∈ es, e.2 = k) : ∀ e ∈ es ++ [(v, k)], e.2 = k := by
  intro e he
  rcases List.mem_append.1 he with h1 | h1
  · exact h e h1
  · simp at h1
    subst h1
    rfl

/-- Lists of numbers that lie in other rows stay. -/
def KeepInts (v : Value) (w w' : World) : Prop := ∀ (g : Nat) (cur : Array Value), w.heap[g]? = some (.cells cur 3 (0, 0)) → v.ownBlock ≠ some g → w'.heap[g]? = some (.cells cur 3 (0, 0))

theorem KeepInts.step {v : Value} {w wr w1 : World} {row : Option Nat} (h : KeepInts v w wr) (hg : wr.grownBy w1 row)
    (hne : ∀ (g : Nat) (cur : Array Value), row = some g → wr.heap[g]? = some (.cells cur 3 (0, 0)) → v.ownBlock = some g ∨ w.heap.size ≤ g) : KeepInts v w w1 := by
  intro g cur hb hv
  have h1 := h g cur hb hv
  rw [hg.block g (lt_of_block h1) (fun hr => ?_)]
  · exact h1
  · rcases hne g cur hr.symm h1 with h2 | h2
    · exact hv h2
    · have := lt_of_block hb
      omega

theorem KeepInts.push {v : Value} {w wr w1 : World} {base B : Nat} {iv : Value} {es : List (Value × Int)} {o : Obj} (h : KeepInts v w wr) (hI : BkInv wr base B iv es) (hg : (wr.alloc o).grownBy w1 iv.ownBlock) (u : Value) :
    KeepInts v w (w1.setCell ⟨B, 0, none⟩ u) := by
  have ha := h.step (World.grownBy_alloc wr o none) (fun g _ hg _ => by cases hg)
  have hIa := hI.other (World.grownBy_alloc wr o none) (fun g hg => by cases hg)
  intro g cur hb hv
  have h1 := ha g cur hb hv
  rw [heap_setCell_other w1 ⟨B, 0, none⟩ g u (fun hr => ?_), hg.block g (lt_of_block h1) (fun hr => ?_)]
  · exact h1
  · obtain ⟨c2, h2⟩ := owns_blk hIa.own hr.symm
    exact blk_ne h1 h2 (by decide) rfl
  · exact blk_ne h1 hIa.blk (by decide) hr

theorem fill_step (zs : List Int) (x : Int) (t : Nat) (h : t < zs.length) : (List.replicate t x ++ zs.drop t).set t x = List.replicate (t + 1) x ++ zs.drop (t + 1) := by
  rw [List.set_append_right _ _ (by simp), List.length_replicate, Nat.sub_self, List.drop_eq_getElem_cons h, List.set_cons_zero, List.replicate_succ' (n := t)]
  simp

set_option maxRecDepth 100000 in
set_option maxHeartbeats 2000000 in
theorem ownInts_any (B base : Nat) (v iv : Value) (zs : List Int) (es : List (Value × Int)) (w : World) (hl : zs.length ≤ 100) (hk : es.length ≤ 10) (h : BkInv w base B iv es)
    (hown : w.ownsRow base 3 1 v zs.length (icells zs)) (hB : base ≤ B) (hsh : ∀ e ∈ es, ∀ g' n' cap', e.1 = .slice (some ⟨g', 0, none⟩) n' cap' → 0 < n' → v.ownBlock ≠ some g') :
    Calls Try.prog 39 #[.pointer (some ⟨B, 0, none⟩), v] w fun e w' => e = .returned (.tuple #[]) ∧ ∃ iv' es', es'.length = 4 ∧ BkInv w' base B iv' (es ++ es') ∧ (∀ e ∈ es', e.2 = (es.length : Int)) ∧
      (∀ e ∈ es', ∀ g, e.1.ownBlock = some g → v.ownBlock = some g ∨ w.heap.size ≤ g) ∧ KeepInts v w w' ∧ Below base w w' := by
  obtain ⟨i0, hi, hz0, hz1, hz2⟩ := info_parts Try.info3
  obtain ⟨i1, hj, hy0, hy1, hy2⟩ := info_parts Try.infoOut
  have hbs : base ≤ w.heap.size := by have := lt_of_block h.blk; omega
  obtain ⟨ao, cap, rfl⟩ := owns_slice hown
  obtain ⟨io, icap, rfl⟩ := owns_slice h.own
  obtain ⟨cB, fB⟩ := h.cells
  have HI : Hid (BkInv w base B (.slice io es.length icap) es) := h
  clear h
  go_enter Try.func39, Try.ntmps39
  go_wp2_with fail
  clear cB fB
  go_loopw [5] (fun i wr => ∃ t : Nat, t ≤ zs.length ∧ i = .int .i64 t ∧ wr.ownsRow base 3 1 (.slice ao zs.length cap) zs.length (icells (List.replicate t (-1 - (es.length : Int)) ++ zs.drop t)) ∧ BkInv wr base B (.slice io es.length icap) es ∧ KeepInts (.slice ao zs.length cap) w wr ∧ Below base w wr ∧ w.heap.size ≤ wr.heap.size) (fun i _ => zs.length - (intOf i).toNat)
  case atStart => exact ⟨0, Nat.zero_le _, rfl, by simpa using hown, HI.out, fun g cur hg _ => hg, Below.refl _ _, Nat.le_refl _⟩
  case round =>
    clear HI hown
    obtain ⟨t, ht, rfl, hown, hI, hkp, hbel, hsz⟩ := hrel
    have HK : Hid (KeepInts (.slice ao zs.length cap) w wr) := hkp
    clear hkp
    have HI : Hid (BkInv wr base B (.slice io es.length icap) es) := hI
    clear hI
    by_cases hlt : t < zs.length
    · obtain ⟨g, rfl⟩ := owns_addr hown (by omega)
      have hce := hown.cellAt t (by omega)
      rw [icells_get _ _ (by simp; omega)] at hce
      obtain ⟨q, hce⟩ : ∃ q, wr.cell? ⟨g, t, none⟩ = some q := ⟨_, hce⟩
      have hfr := hown.frozenAt t
      obtain ⟨s1, s2⟩ := HI.out.store hown (fun e he g' n' cap' h1 h0 hg => hsh e he g' n' cap' h1 h0 (by rw [← hg]; rfl)) t (-1 - (es.length : Int))
      rw [fill_step zs _ t hlt] at s2
      have HK1 : Hid _ := HK.out.step ((hown.stored t (.int .i64 (-1 - (es.length : Int)))).2) (fun g' _ hg' _ => .inl (by simp at hg'; subst hg'; rfl))
      have HS1 : Hid _ := s1
      have HS2 : Hid _ := s2
      have hbg : base ≤ g := (hown.lt g rfl).1
      clear s1 s2 hown
      go_wp2
      go_roundw
      case rel => exact ⟨t + 1, by omega, by go_num, HS2.out, HS1.out, HK1.out, hbel.setCell hbg _, by simpa using hsz⟩
      case measure => simp [intOf]; omega
    · have htl : t = zs.length := by omega
      subst htl
      rw [List.drop_of_length_le (Nat.le_refl _), List.append_nil] at hown
      obtain ⟨cB, fB⟩ := HI.out.cells
      go_wp2_with (at_builtin; refine wpList_append_own _ rfl _ _ 65 rfl base 121 i1 (.agg #[.slice none 0 0, .int .i64 0]) 2 32 Try.underlying65 hj hy0 hy1 hy2 rfl (by decide) _ _ _ rfl (HI.out.own.alloc _) ⟨wr.heap.size, 0, none⟩ 1 1 [.slice ao zs.length cap, .int .i64 (es.length : Int)] rfl rfl (pair_at _ _ _ _) (pair_one _ _ _ _) (by unfold maxLen; omega) (by omega) (by simp; omega) ?_; intro iv1 w1 hown1 hgrow1 _; obtain ⟨cB1, fB1⟩ := HI.out.cells1 _ hgrow1; obtain ⟨io1, icap1, rfl⟩ := owns_slice hown1)
      obtain ⟨p1, p2⟩ := HI.out.push _ (Filled.mk hown (by omega)) hown hB hown1 hgrow1
      have hbel1 : Below base w (w1.setCell ⟨B, 0, none⟩ (.slice io1 (es.length + 1) icap1)) := ((hbel.alloc (by omega) _).grown hgrow1 (by simp; omega) (fun j hj => (HI.out.own.lt j hj).1)).setCell hB _
      have hsz1 : w.heap.size ≤ (w1.setCell ⟨B, 0, none⟩ (.slice io1 (es.length + 1) icap1)).heap.size := by have := hgrow1.size; simp at this ⊢; omega
      have HK1 : Hid _ := HK.out.push (o := .cells #[.slice ao zs.length cap, .int .i64 (es.length : Int)] 121) HI.out hgrow1 (.slice io1 (es.length + 1) icap1)
      have HP1 : Hid _ := p1
      have HP2 : Hid _ := p2
      clear p1 p2 hown1 hgrow1 hown HI HK hbel cB fB cB1 fB1 hsz
      go_loopw [1, 6] (fun lv i wr => ∃ (t n : Nat) (iv : Value) (es' : List (Value × Int)), t ≤ 3 ∧ i = .int .i64 t ∧ n ≤ 100 + t ∧ es'.length = t + 1 ∧ (∀ e ∈ es', e.2 = (es.length : Int)) ∧ BkInv wr base B iv (es ++ es') ∧ wr.ownsRow base 3 1 lv n (icells (List.replicate n (-1 - (es.length : Int)))) ∧
          Shares lv n (es.length : Int) (es ++ es') ∧ (∀ e ∈ es', ∀ g, e.1.ownBlock = some g → (Value.slice ao zs.length cap).ownBlock = some g ∨ w.heap.size ≤ g) ∧ (∀ g, lv.ownBlock = some g → (Value.slice ao zs.length cap).ownBlock = some g ∨ w.heap.size ≤ g) ∧ KeepInts (.slice ao zs.length cap) w wr ∧ Below base w wr ∧ w.heap.size ≤ wr.heap.size) (fun _ i _ => 3 - (intOf i).toNat)
      case atStart =>
        refine ⟨0, zs.length, _, [(.slice ao zs.length cap, (es.length : Int))], by omega, rfl, by omega, rfl, by simp, HP1.out, HP2.out, ?_, ?_, fun g hg => .inl hg, HK1.out, hbel1, hsz1⟩
        · intro e he g n' cap' h1 h0 hvg
          rcases List.mem_append.1 he with h2 | h2
          · exact absurd hvg (hsh e h2 g n' cap' h1 h0)
          · simp at h2
            subst h2
            simp only [Value.slice.injEq] at h1
            exact ⟨rfl, by omega⟩
        · intro e he g hg
          simp at he
          subst he
          exact .inl hg
      case round =>
        clear HP1 HP2 hbel1 hsz1 HK1
        clear w1
        obtain ⟨t, n, iv, es', ht, rfl, hn, hel, hmk, hI, hown, hshr, hblk, hlvb, hkp, hbel, hsz⟩ := hrel
        have HK : Hid (KeepInts (.slice ao zs.length cap) w wr) := hkp
        clear hkp
        have HI : Hid (BkInv wr base B iv (es ++ es')) := hI
        have HEL : Hid (es'.length = t + 1) := hel
        have HMK : Hid (∀ e ∈ es', e.2 = (es.length : Int)) := hmk
        clear hI hel hmk
        have hne : (es ++ es').length ≤ 14 := by rw [List.length_append, HEL.out]; omega
        generalize hfs : es ++ es' = fs at *
        have HFS : Hid (es ++ es' = fs) := hfs
        clear hfs
        obtain ⟨io, icap, rfl⟩ := owns_slice HI.out.own
        by_cases h3 : t < 3
        · obtain ⟨lo, lcap, rfl⟩ := owns_slice hown
          go_wp2_with (first
            | (at_builtin; refine wpList_append_keep _ rfl (.tmp 39) (.tmp 42) 22 rfl base 3 i0 (.int .i64 0) 1 8 Try.underlying22 hi hz0 hz1 hz2 rfl (by decide) _ n _ rfl (hown.alloc _) ⟨wr.heap.size, 0, none⟩ 1 1 [.int .i64 (-1 - (es.length : Int))] rfl (by decide) rfl (one_at _ _ _) (one_one _) (by unfold maxLen; omega) (by omega) (by simp; omega) ?_; intro lv1 w1 hown1 hgr1; rw [fill_snoc] at hown1 hgr1; obtain ⟨hI1, hshr1⟩ := HI.out.grow _ hshr hown hown1 hgr1; have HI1 : Hid _ := hI1; obtain ⟨cB, fB⟩ := hI1.cells; obtain ⟨lo1, lcap1, rfl⟩ := owns_slice hown1; clear hI1)
            | (at_builtin; refine wpList_append_own _ rfl (.tmp 48) (.tmp 52) 65 rfl base 121 i1 (.agg #[.slice none 0 0, .int .i64 0]) 2 32 Try.underlying65 hj hy0 hy1 hy2 rfl (by decide) _ _ _ rfl (HI1.out.own.alloc _) ⟨w1.heap.size, 0, none⟩ 1 1 [.slice lo1 (n + 1) lcap1, .int .i64 (es.length : Int)] rfl rfl (pair_at _ _ _ _) (pair_one _ _ _ _) (by unfold maxLen; omega) (by omega) (by have := lt_of_block HI1.out.blk; simp; omega) ?_; intro iv2 w2 hown2 hgrow2 _; obtain ⟨cB2, fB2⟩ := HI1.out.cells1 _ hgrow2; obtain ⟨io2, icap2, rfl⟩ := owns_slice hown2))
          obtain ⟨q1, q2⟩ := HI1.out.push _ (Filled.mk hown1 (by omega)) hown1 hB hown2 hgrow2
          have hw1 : Below base w w1 ∧ wr.heap.size ≤ w1.heap.size := by
            rcases hgr1 with ⟨g1, _⟩ | ⟨_, g1⟩
            · exact ⟨(hbel.alloc (by omega) _).grown g1 (by simp; omega) (by simp), by have := g1.size; simp at this; omega⟩
            · exact ⟨(hbel.alloc (by omega) _).grown g1 (by simp; omega) (fun j hj => (hown.lt j hj).1), by have := g1.size; simp at this; omega⟩
          have hw2 : Below base w w2 := (hw1.1.alloc (by omega) _).grown hgrow2 (by simp; omega) (fun j hj => (HI1.out.own.lt j hj).1)
          have hs2 : w1.heap.size ≤ w2.heap.size := by have := hgrow2.size; simp at this; omega
          have hlv1 : ∀ g, (Value.slice lo1 (n + 1) lcap1).ownBlock = some g → (Value.slice ao zs.length cap).ownBlock = some g ∨ w.heap.size ≤ g := by
            intro g hg
            rcases hgr1 with ⟨_, g2⟩ | ⟨g1, _⟩
            · have := (g2.lt g hg).1
              simp at this
              exact .inr (by omega)
            · exact hlvb g (Eq.trans (Eq.symm g1) hg)
          have hk1 : KeepInts (.slice ao zs.length cap) w w1 := by
            have hka := HK.out.step (World.grownBy_alloc wr (.cells #[.int .i64 (-1 - (es.length : Int))] 3) none) (fun g _ hg _ => by cases hg)
            rcases hgr1 with ⟨g1, _⟩ | ⟨_, g1⟩
            · exact hka.step g1 (fun g _ hg _ => by cases hg)
            · exact hka.step g1 (fun g _ hg _ => hlvb g hg)
          have hk2 := hk1.push (o := .cells #[.slice lo1 (n + 1) lcap1, .int .i64 (es.length : Int)] 121) HI1.out hgrow2 (.slice io2 (fs.length + 1) icap2)
          refine ⟨⟨t + 1, n + 1, _, es' ++ [(.slice lo1 (n + 1) lcap1, (es.length : Int))], by omega, by go_num, by omega, by rw [List.length_append, HEL.out]; rfl, marks_snoc HMK.out, by rw [← List.append_assoc, HFS.out]; exact q1, q2, ?_, ?_, hlv1, hk2, hw2.setCell hB _, by simp; omega⟩, by simp [intOf]; omega⟩
          · rw [← List.append_assoc, HFS.out]
            intro e he g n' cap' h1 h0 hvg
            rcases List.mem_append.1 he with h2 | h2
            · exact hshr1 e h2 g n' cap' h1 h0 hvg
            · simp at h2
              subst h2
              simp only [Value.slice.injEq] at h1
              exact ⟨rfl, by omega⟩
          · intro e he g hg
            rcases List.mem_append.1 he with h2 | h2
            · exact hblk e h2 g hg
            · simp at h2
              subst h2
              exact hlv1 g hg
        · go_wp2
          go_end0
          exact ⟨rfl, _, es', by rw [HEL.out]; omega, by rw [HFS.out]; exact HI.out, HMK.out, hblk, HK.out, hbel⟩
end Go.Proofs.Ytjidbonhhpkljaa.Pk
