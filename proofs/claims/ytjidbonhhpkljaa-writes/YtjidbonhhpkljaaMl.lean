/- What the proof stands on: PkOwn, PkLooks, PkUnpacks, PkPacks, WrWrites. -/
import Derived.Test.YtjidbonhhpkljaaMk
import Derived.WalkSpells

/- The contract of the book's ownInts: a list is written full of its mark, three more are put behind it, and all four stand in the book. -/
set_option linter.unusedVariables false
namespace Go.Proofs.Ytjidbonhhpkljaa.Pk
open Go.RowKit Go.Proofs.Ytjidbonhhpkljaa.Pm

theorem owns_slice {w : World} {base : Nat} {e : TypeId} {size : Nat} {v : Value} {n : Nat} {xs : List Value} (h : w.ownsRow base e size v n xs) : ∃ ao cap, v = .slice ao n cap := by
  rcases h.2 with ⟨h1, h2⟩ | ⟨g, cap, cur, h1, _⟩
  · exact ⟨none, 0, by rw [h1, h2]⟩
  · exact ⟨_, cap, h1⟩

theorem BkInv.cells {w : World} {base B : Nat} {iv : Value} {es : List (Value × Int)} (h : BkInv w base B iv es) : w.cell? ⟨B, 0, none⟩ = some iv ∧ w.frozen? ⟨B, 0, none⟩ = false := by
  have := h.blk
  exact ⟨by simp [World.cell?, this], by simp [World.frozen?, this]⟩

theorem BkInv.cells1 {w w1 : World} {base B : Nat} {iv : Value} {es : List (Value × Int)} (o : Obj) (h : BkInv w base B iv es) (hg : (w.alloc o).grownBy w1 iv.ownBlock) : w1.cell? ⟨B, 0, none⟩ = some iv ∧ w1.frozen? ⟨B, 0, none⟩ = false := by
  have hb : w1.heap[B]? = some (.cells #[iv, .slice none 0 0, .slice none 0 0, .slice none 0 0] 70 (0, 0)) := by
    rw [hg.block B (by have := lt_of_block h.blk; simp; omega) (fun hr => ?_), (World.grownBy_alloc w o none).block B (lt_of_block h.blk) (by simp)]
    · exact h.blk
    · obtain ⟨cur, hc⟩ := owns_blk h.own hr.symm
      exact blk_ne h.blk hc (by decide) rfl
  exact ⟨by simp [World.cell?, hb], by simp [World.frozen?, hb]⟩

/-- A store into the list. -/
theorem BkInv.store {w : World} {base B : Nat} {iv : Value} {es : List (Value × Int)} {g n cap : Nat} {zs : List Int} (h : BkInv w base B iv es) (hown : w.ownsRow base 3 1 (.slice (some ⟨g, 0, none⟩) n cap) n (icells zs))
    (hsh : ∀ e ∈ es, ∀ g' n' cap', e.1 = .slice (some ⟨g', 0, none⟩) n' cap' → 0 < n' → g ≠ g') (j : Nat) (x : Int) :
    BkInv (w.setCell ⟨g, j, none⟩ (.int .i64 x)) base B iv es ∧ (w.setCell ⟨g, j, none⟩ (.int .i64 x)).ownsRow base 3 1 (.slice (some ⟨g, 0, none⟩) n cap) n (icells (zs.set j x)) := by
  obtain ⟨o1, o2⟩ := hown.stored j (.int .i64 x)
  refine ⟨h.other o2 ?_, ?_⟩
  · intro g' hg'
    simp at hg'
    subst hg'
    refine ⟨owns_blk hown rfl, ?_⟩
    intro e he ao n' cap' h1 h0 hob
    rw [h1] at hob
    cases ao with
    | none => simp [Value.ownBlock] at hob
    | some a =>
      obtain ⟨ao2, n2, cap2, h2, _, hf⟩ := h.full e he
      rw [h1] at h2
      simp only [Value.slice.injEq] at h2
      obtain ⟨rfl, rfl, rfl⟩ := h2
      obtain ⟨g2, cur, hg2, _⟩ := hf h0
      simp only [Option.some.injEq] at hg2
      subst hg2
      simp [Value.ownBlock] at hob
      exact hsh e he g2 n' cap' h1 h0 hob.symm
  · have : (icells zs).set j (.int .i64 x) = icells (zs.set j x) := by simp [icells, List.map_set]
    rw [← this]
    exact o1

theorem owns_addr {w : World} {base : Nat} {e : TypeId} {size : Nat} {ao : Option Addr} {n cap : Nat} {xs : List Value} (h : w.ownsRow base e size (.slice ao n cap) n xs) (hn : 0 < n) : ∃ g, ao = some ⟨g, 0, none⟩ := by
  rcases h.2 with ⟨h1, h2⟩ | ⟨g, cap, cur, h1, _⟩
  · omega
  · simp only [Value.slice.injEq] at h1
    exact ⟨g, h1.1⟩

theorem pair_at (w : World) (a b : Value) (t : TypeId) : ∀ (j : Nat) (u : Value), [a, b][j]? = some u → (w.alloc (.cells #[a, b] t)).cell? ((⟨w.heap.size, 0, none⟩ : Addr).add j) = some u := by
  intro j u hj
  match j, hj with
  | 0, hj => simp at hj; subst hj; simp [Addr.add]
  | 1, hj => simp at hj; subst hj; simp [Addr.add]
theorem pair_one (ao : Option Addr) (n cap : Nat) (k : Int) : ∀ u ∈ [Value.slice ao n cap, .int .i64 k], u.oneCell' = true := by
  intro u hu
  simp at hu
  rcases hu with rfl | rfl
  · rfl
  · rfl

theorem one_at (w : World) (a : Value) (t : TypeId) : ∀ (j : Nat) (u : Value), [a][j]? = some u → (w.alloc (.cells #[a] t)).cell? ((⟨w.heap.size, 0, none⟩ : Addr).add j) = some u := by
  intro j u hj
  match j, hj with
  | 0, hj => simp at hj; subst hj; simp [Addr.add]
theorem one_one (x : Int) : ∀ u ∈ [Value.int .i64 x], u.oneCell' = true := by
  intro u hu
  simp at hu
  subst hu
  rfl
theorem fill_snoc (n : Nat) (x : Int) : icells (List.replicate n x) ++ [.int .i64 x] = icells (List.replicate (n + 1) x) := by rw [icells_snoc, List.replicate_succ']

theorem marks_snoc {es : List (Value × Int)} {v : Value} {k : Int} (h : ∀ e ∈ es, e.2 = k) : ∀ e ∈ es ++ [(v, k)], e.2 = k := by
  intro e he
  rcases List.mem_append.1 he with h1 | h1
  · exact h e h1
  · simp at h1
    subst h1
    rfl

/-- Lists of numbers that lie in other rows stay. -/
def KeepInts (v : Value) (w w' : World) : Prop := ∀ (g : Nat) (cur : Array Value), w.heap[g]? = some (.cells cur 3 (0, 0)) → v.ownBlock ≠ some g → w'.heap[g]? = some (.cells cur 3 (0, 0))

theorem KeepInts.step {v : Value} {w wr w1 : World} {row : Option Nat} (h : KeepInts v w wr) (hg : wr.grownBy w1 row)
    (hne : ∀ (g : Nat) (cur : Array Value), row = some g → wr.heap[g]? = some (.cells cur 3 (0, 0)) → v.ownBlock = some g ∨ w.heap.size ≤ g) : KeepInts v w w1 := by
  intro g cur hb hv
  have h1 := h g cur hb hv
  rw [hg.block g (lt_of_block h1) (fun hr => ?_)]
  · exact h1
  · rcases hne g cur hr.symm h1 with h2 | h2
    · exact hv h2
    · have := lt_of_block hb
      omega

theorem KeepInts.push {v : Value} {w wr w1 : World} {base B : Nat} {iv : Value} {es : List (Value × Int)} {o : Obj} (h : KeepInts v w wr) (hI : BkInv wr base B iv es) (hg : (wr.alloc o).grownBy w1 iv.ownBlock) (u : Value) :
    KeepInts v w (w1.setCell ⟨B, 0, none⟩ u) := by
  have ha := h.step (World.grownBy_alloc wr o none) (fun g _ hg _ => by cases hg)
  have hIa := hI.other (World.grownBy_alloc wr o none) (fun g hg => by cases hg)
  intro g cur hb hv
  have h1 := ha g cur hb hv
  rw [heap_setCell_other w1 ⟨B, 0, none⟩ g u (fun hr => ?_), hg.block g (lt_of_block h1) (fun hr => ?_)]
  · exact h1
  · obtain ⟨c2, h2⟩ := owns_blk hIa.own hr.symm
    exact blk_ne h1 h2 (by decide) rfl
  · exact blk_ne h1 hIa.blk (by decide) hr

theorem fill_step (zs : List Int) (x : Int) (t : Nat) (h : t < zs.length) : (List.replicate t x ++ zs.drop t).set t x = List.replicate (t + 1) x ++ zs.drop (t + 1) := by
  rw [List.set_append_right _ _ (by simp), List.length_replicate, Nat.sub_self, List.drop_eq_getElem_cons h, List.set_cons_zero, List.replicate_succ' (n := t)]
  simp

set_option maxRecDepth 100000 in
set_option maxHeartbeats 2000000 in
theorem ownInts_any (B base : Nat) (v iv : Value) (zs : List Int) (es : List (Value × Int)) (w : World) (hl : zs.length ≤ 100) (hk : es.length ≤ 10) (h : BkInv w base B iv es)
    (hown : w.ownsRow base 3 1 v zs.length (icells zs)) (hB : base ≤ B) (hsh : ∀ e ∈ es, ∀ g' n' cap', e.1 = .slice (some ⟨g', 0, none⟩) n' cap' → 0 < n' → v.ownBlock ≠ some g') :
    Calls Try.prog 39 #[.pointer (some ⟨B, 0, none⟩), v] w fun e w' => e = .returned (.tuple #[]) ∧ ∃ iv' es', es'.length = 4 ∧ BkInv w' base B iv' (es ++ es') ∧ (∀ e ∈ es', e.2 = (es.length : Int)) ∧
      (∀ e ∈ es', ∀ g, e.1.ownBlock = some g → v.ownBlock = some g ∨ w.heap.size ≤ g) ∧ KeepInts v w w' ∧ Below base w w' := by
  obtain ⟨i0, hi, hz0, hz1, hz2⟩ := info_parts Try.info3
  obtain ⟨i1, hj, hy0, hy1, hy2⟩ := info_parts Try.infoOut
  have hbs : base ≤ w.heap.size := by have := lt_of_block h.blk; omega
  obtain ⟨ao, cap, rfl⟩ := owns_slice hown
  obtain ⟨io, icap, rfl⟩ := owns_slice h.own
  obtain ⟨cB, fB⟩ := h.cells
  have HI : Hid (BkInv w base B (.slice io es.length icap) es) := h
  clear h
  go_enter Try.func39, Try.ntmps39
  go_wp2_with fail
  clear cB fB
  go_loopw [5] (fun i wr => ∃ t : Nat, t ≤ zs.length ∧ i = .int .i64 t ∧ wr.ownsRow base 3 1 (.slice ao zs.length cap) zs.length (icells (List.replicate t (-1 - (es.length : Int)) ++ zs.drop t)) ∧ BkInv wr base B (.slice io es.length icap) es ∧ KeepInts (.slice ao zs.length cap) w wr ∧ Below base w wr ∧ w.heap.size ≤ wr.heap.size) (fun i _ => zs.length - (intOf i).toNat)
  case atStart => exact ⟨0, Nat.zero_le _, rfl, by simpa using hown, HI.out, fun g cur hg _ => hg, Below.refl _ _, Nat.le_refl _⟩
  case round =>
    clear HI hown
    obtain ⟨t, ht, rfl, hown, hI, hkp, hbel, hsz⟩ := hrel
    have HK : Hid (KeepInts (.slice ao zs.length cap) w wr) := hkp
    clear hkp
    have HI : Hid (BkInv wr base B (.slice io es.length icap) es) := hI
    clear hI
    by_cases hlt : t < zs.length
    · obtain ⟨g, rfl⟩ := owns_addr hown (by omega)
      have hce := hown.cellAt t (by omega)
      rw [icells_get _ _ (by simp; omega)] at hce
      obtain ⟨q, hce⟩ : ∃ q, wr.cell? ⟨g, t, none⟩ = some q := ⟨_, hce⟩
      have hfr := hown.frozenAt t
      obtain ⟨s1, s2⟩ := HI.out.store hown (fun e he g' n' cap' h1 h0 hg => hsh e he g' n' cap' h1 h0 (by rw [← hg]; rfl)) t (-1 - (es.length : Int))
      rw [fill_step zs _ t hlt] at s2
      have HK1 : Hid _ := HK.out.step ((hown.stored t (.int .i64 (-1 - (es.length : Int)))).2) (fun g' _ hg' _ => .inl (by simp at hg'; subst hg'; rfl))
      have HS1 : Hid _ := s1
      have HS2 : Hid _ := s2
      have hbg : base ≤ g := (hown.lt g rfl).1
      clear s1 s2 hown
      go_wp2
      go_roundw
      case rel => exact ⟨t + 1, by omega, by go_num, HS2.out, HS1.out, HK1.out, hbel.setCell hbg _, by simpa using hsz⟩
      case measure => simp [intOf]; omega
    · have htl : t = zs.length := by omega
      subst htl
      rw [List.drop_of_length_le (Nat.le_refl _), List.append_nil] at hown
      obtain ⟨cB, fB⟩ := HI.out.cells
      go_wp2_with (at_builtin; refine wpList_append_own _ rfl _ _ 65 rfl base 121 i1 (.agg #[.slice none 0 0, .int .i64 0]) 2 32 Try.underlying65 hj hy0 hy1 hy2 rfl (by decide) _ _ _ rfl (HI.out.own.alloc _) ⟨wr.heap.size, 0, none⟩ 1 1 [.slice ao zs.length cap, .int .i64 (es.length : Int)] rfl rfl (pair_at _ _ _ _) (pair_one _ _ _ _) (by unfold maxLen; omega) (by omega) (by simp; omega) ?_; intro iv1 w1 hown1 hgrow1 _; obtain ⟨cB1, fB1⟩ := HI.out.cells1 _ hgrow1; obtain ⟨io1, icap1, rfl⟩ := owns_slice hown1)
      obtain ⟨p1, p2⟩ := HI.out.push _ (Filled.mk hown (by omega)) hown hB hown1 hgrow1
      have hbel1 : Below base w (w1.setCell ⟨B, 0, none⟩ (.slice io1 (es.length + 1) icap1)) := ((hbel.alloc (by omega) _).grown hgrow1 (by simp; omega) (fun j hj => (HI.out.own.lt j hj).1)).setCell hB _
      have hsz1 : w.heap.size ≤ (w1.setCell ⟨B, 0, none⟩ (.slice io1 (es.length + 1) icap1)).heap.size := by have := hgrow1.size; simp at this ⊢; omega
      have HK1 : Hid _ := HK.out.push (o := .cells #[.slice ao zs.length cap, .int .i64 (es.length : Int)] 121) HI.out hgrow1 (.slice io1 (es.length + 1) icap1)
      have HP1 : Hid _ := p1
      have HP2 : Hid _ := p2
      clear p1 p2 hown1 hgrow1 hown HI HK hbel cB fB cB1 fB1 hsz
      go_loopw [1, 6] (fun lv i wr => ∃ (t n : Nat) (iv : Value) (es' : List (Value × Int)), t ≤ 3 ∧ i = .int .i64 t ∧ n ≤ 100 + t ∧ es'.length = t + 1 ∧ (∀ e ∈ es', e.2 = (es.length : Int)) ∧ BkInv wr base B iv (es ++ es') ∧ wr.ownsRow base 3 1 lv n (icells (List.replicate n (-1 - (es.length : Int)))) ∧
          Shares lv n (es.length : Int) (es ++ es') ∧ (∀ e ∈ es', ∀ g, e.1.ownBlock = some g → (Value.slice ao zs.length cap).ownBlock = some g ∨ w.heap.size ≤ g) ∧ (∀ g, lv.ownBlock = some g → (Value.slice ao zs.length cap).ownBlock = some g ∨ w.heap.size ≤ g) ∧ KeepInts (.slice ao zs.length cap) w wr ∧ Below base w wr ∧ w.heap.size ≤ wr.heap.size) (fun _ i _ => 3 - (intOf i).toNat)
      case atStart =>
        refine ⟨0, zs.length, _, [(.slice ao zs.length cap, (es.length : Int))], by omega, rfl, by omega, rfl, by simp, HP1.out, HP2.out, ?_, ?_, fun g hg => .inl hg, HK1.out, hbel1, hsz1⟩
        · intro e he g n' cap' h1 h0 hvg
          rcases List.mem_append.1 he with h2 | h2
          · exact absurd hvg (hsh e h2 g n' cap' h1 h0)
          · simp at h2
            subst h2
            simp only [Value.slice.injEq] at h1
            exact ⟨rfl, by omega⟩
        · intro e he g hg
          simp at he
          subst he
          exact .inl hg
      case round =>
        clear HP1 HP2 hbel1 hsz1 HK1
        clear w1
        obtain ⟨t, n, iv, es', ht, rfl, hn, hel, hmk, hI, hown, hshr, hblk, hlvb, hkp, hbel, hsz⟩ := hrel
        have HK : Hid (KeepInts (.slice ao zs.length cap) w wr) := hkp
        clear hkp
        have HI : Hid (BkInv wr base B iv (es ++ es')) := hI
        have HEL : Hid (es'.length = t + 1) := hel
        have HMK : Hid (∀ e ∈ es', e.2 = (es.length : Int)) := hmk
        clear hI hel hmk
        have hne : (es ++ es').length ≤ 14 := by rw [List.length_append, HEL.out]; omega
        generalize hfs : es ++ es' = fs at *
        have HFS : Hid (es ++ es' = fs) := hfs
        clear hfs
        obtain ⟨io, icap, rfl⟩ := owns_slice HI.out.own
        by_cases h3 : t < 3
        · obtain ⟨lo, lcap, rfl⟩ := owns_slice hown
          go_wp2_with (first
            | (at_builtin; refine wpList_append_keep _ rfl (.tmp 39) (.tmp 42) 22 rfl base 3 i0 (.int .i64 0) 1 8 Try.underlying22 hi hz0 hz1 hz2 rfl (by decide) _ n _ rfl (hown.alloc _) ⟨wr.heap.size, 0, none⟩ 1 1 [.int .i64 (-1 - (es.length : Int))] rfl (by decide) rfl (one_at _ _ _) (one_one _) (by unfold maxLen; omega) (by omega) (by simp; omega) ?_; intro lv1 w1 hown1 hgr1; rw [fill_snoc] at hown1 hgr1; obtain ⟨hI1, hshr1⟩ := HI.out.grow _ hshr hown hown1 hgr1; have HI1 : Hid _ := hI1; obtain ⟨cB, fB⟩ := hI1.cells; obtain ⟨lo1, lcap1, rfl⟩ := owns_slice hown1; clear hI1)
            | (at_builtin; refine wpList_append_own _ rfl (.tmp 48) (.tmp 52) 65 rfl base 121 i1 (.agg #[.slice none 0 0, .int .i64 0]) 2 32 Try.underlying65 hj hy0 hy1 hy2 rfl (by decide) _ _ _ rfl (HI1.out.own.alloc _) ⟨w1.heap.size, 0, none⟩ 1 1 [.slice lo1 (n + 1) lcap1, .int .i64 (es.length : Int)] rfl rfl (pair_at _ _ _ _) (pair_one _ _ _ _) (by unfold maxLen; omega) (by omega) (by have := lt_of_block HI1.out.blk; simp; omega) ?_; intro iv2 w2 hown2 hgrow2 _; obtain ⟨cB2, fB2⟩ := HI1.out.cells1 _ hgrow2; obtain ⟨io2, icap2, rfl⟩ := owns_slice hown2))
          obtain ⟨q1, q2⟩ := HI1.out.push _ (Filled.mk hown1 (by omega)) hown1 hB hown2 hgrow2
          have hw1 : Below base w w1 ∧ wr.heap.size ≤ w1.heap.size := by
            rcases hgr1 with ⟨g1, _⟩ | ⟨_, g1⟩
            · exact ⟨(hbel.alloc (by omega) _).grown g1 (by simp; omega) (by simp), by have := g1.size; simp at this; omega⟩
            · exact ⟨(hbel.alloc (by omega) _).grown g1 (by simp; omega) (fun j hj => (hown.lt j hj).1), by have := g1.size; simp at this; omega⟩
          have hw2 : Below base w w2 := (hw1.1.alloc (by omega) _).grown hgrow2 (by simp; omega) (fun j hj => (HI1.out.own.lt j hj).1)
          have hs2 : w1.heap.size ≤ w2.heap.size := by have := hgrow2.size; simp at this; omega
          have hlv1 : ∀ g, (Value.slice lo1 (n + 1) lcap1).ownBlock = some g → (Value.slice ao zs.length cap).ownBlock = some g ∨ w.heap.size ≤ g := by
            intro g hg
            rcases hgr1 with ⟨_, g2⟩ | ⟨g1, _⟩
            · have := (g2.lt g hg).1
              simp at this
              exact .inr (by omega)
            · exact hlvb g (Eq.trans (Eq.symm g1) hg)
          have hk1 : KeepInts (.slice ao zs.length cap) w w1 := by
            have hka := HK.out.step (World.grownBy_alloc wr (.cells #[.int .i64 (-1 - (es.length : Int))] 3) none) (fun g _ hg _ => by cases hg)
            rcases hgr1 with ⟨g1, _⟩ | ⟨_, g1⟩
            · exact hka.step g1 (fun g _ hg _ => by cases hg)
            · exact hka.step g1 (fun g _ hg _ => hlvb g hg)
          have hk2 := hk1.push (o := .cells #[.slice lo1 (n + 1) lcap1, .int .i64 (es.length : Int)] 121) HI1.out hgrow2 (.slice io2 (fs.length + 1) icap2)
          refine ⟨⟨t + 1, n + 1, _, es' ++ [(.slice lo1 (n + 1) lcap1, (es.length : Int))], by omega, by go_num, by omega, by rw [List.length_append, HEL.out]; rfl, marks_snoc HMK.out, by rw [← List.append_assoc, HFS.out]; exact q1, q2, ?_, ?_, hlv1, hk2, hw2.setCell hB _, by simp; omega⟩, by simp [intOf]; omega⟩
          · rw [← List.append_assoc, HFS.out]
            intro e he g n' cap' h1 h0 hvg
            rcases List.mem_append.1 he with h2 | h2
            · exact hshr1 e h2 g n' cap' h1 h0 hvg
            · simp at h2
              subst h2
              simp only [Value.slice.injEq] at h1
              exact ⟨rfl, by omega⟩
          · intro e he g hg
            rcases List.mem_append.1 he with h2 | h2
            · exact hblk e h2 g hg
            · simp at h2
              subst h2
              exact hlv1 g hg
        · go_wp2
          go_end0
          exact ⟨rfl, _, es', by rw [HEL.out]; omega, by rw [HFS.out]; exact HI.out, HMK.out, hblk, HK.out, hbel⟩
end Go.Proofs.Ytjidbonhhpkljaa.Pk

/- The contract of the book's looks: where only lists of numbers stand in it, and each reads as its mark says, it answers true. -/
set_option linter.unusedVariables false
namespace Go.Proofs.Ytjidbonhhpkljaa.Pk
open Go.RowKit Go.Proofs.Ytjidbonhhpkljaa.Pm

theorem book_cells {w : World} {base B : Nat} {iv : Value} {es : List (Value × Int)} (h : BkInv w base B iv es) :
    w.cell? ⟨B, 0, none⟩ = some iv ∧ w.cell? ⟨B, 1, none⟩ = some (.slice none 0 0) ∧ w.cell? ⟨B, 2, none⟩ = some (.slice none 0 0) ∧ w.cell? ⟨B, 3, none⟩ = some (.slice none 0 0) := by
  have := h.blk
  exact ⟨by simp [World.cell?, this], by simp [World.cell?, this], by simp [World.cell?, this], by simp [World.cell?, this]⟩

set_option maxRecDepth 100000 in
set_option maxHeartbeats 4000000 in
theorem looks_any (B base : Nat) (iv : Value) (es : List (Value × Int)) (w : World) (hk : es.length ≤ 100) (h : BkInv w base B iv es) (hmk : ∀ e ∈ es, 0 ≤ e.2 ∧ e.2 ≤ 100) :
    Calls Try.prog 33 #[.pointer (some ⟨B, 0, none⟩)] w fun e w' => e = .returned (.bool true) ∧ ∃ n, w' = w.drewN n := by
  obtain ⟨io, icap, rfl⟩ := owns_slice h.own
  obtain ⟨c0, c1, c2, c3⟩ := book_cells h
  have HI : Hid (BkInv w base B (.slice io es.length icap) es) := h
  have HMK : Hid (∀ e ∈ es, 0 ≤ e.2 ∧ e.2 ≤ 100) := hmk
  clear h hmk
  go_enter Try.func33, Try.ntmps33
  go_wp2_with fail
  go_loopw [3] (fun i wr => ∃ t : Nat, t ≤ es.length ∧ i = .int .i64 t ∧ ∃ n, wr = w.drewN n) (fun i _ => es.length - (intOf i).toNat)
  case atStart => exact ⟨0, Nat.zero_le _, rfl, 0, rfl⟩
  case round =>
    obtain ⟨t, ht, rfl, n, hwr⟩ := hrel
    have d0 : wr.cell? ⟨B, 0, none⟩ = some (.slice io es.length icap) := by rw [hwr]; exact c0
    have d1 : wr.cell? ⟨B, 1, none⟩ = some (.slice none 0 0) := by rw [hwr]; exact c1
    have d2 : wr.cell? ⟨B, 2, none⟩ = some (.slice none 0 0) := by rw [hwr]; exact c2
    have d3 : wr.cell? ⟨B, 3, none⟩ = some (.slice none 0 0) := by rw [hwr]; exact c3
    have HW : Hid (wr = w.drewN n) := hwr
    clear hwr
    by_cases hlt : t < es.length
    · obtain ⟨gi, rfl⟩ := owns_addr HI.out.own (by omega)
      have hx := ecells_get es t hlt
      have e0 := HI.out.own.cellAt (t * 2) (by omega)
      rw [show t * 2 = 2 * t by omega, hx.1] at e0
      have e1 := HI.out.own.cellAt (t * 2 + 1) (by omega)
      rw [show t * 2 + 1 = 2 * t + 1 by omega, hx.2] at e1
      obtain ⟨ao, n', cap', hv, hn', hf⟩ := HI.out.full es[t] (List.getElem_mem hlt)
      obtain ⟨m0, m1⟩ := HMK.out es[t] (List.getElem_mem hlt)
      rw [hv] at e0
      have HF : Hid (0 < n' → ∃ g cur, ao = some ⟨g, 0, none⟩ ∧ w.heap[g]? = some (.cells cur 3 (0, 0)) ∧ ∀ j, j < n' → cur[j]? = some (.int .i64 (-1 - es[t].2))) := hf
      clear hf hv hx
      generalize es[t].2 = m at *
      have E0 : wr.cell? ⟨gi, t * 2, none⟩ = some (.slice ao n' cap') := by rw [HW.out, show t * 2 = 2 * t by omega]; exact e0
      have E1 : wr.cell? ⟨gi, t * 2 + 1, none⟩ = some (.int .i64 m) := by rw [HW.out, show t * 2 + 1 = 2 * t + 1 by omega]; exact e1
      go_wp2_with fail
      clear E0 E1 d0 d1 d2 d3
      go_loopw [4] (fun i wr => ∃ u : Nat, u ≤ n' ∧ i = .int .i64 u ∧ ∃ n, wr = w.drewN n) (fun i _ => n' - (intOf i).toNat)
      case atStart => exact ⟨0, Nat.zero_le _, rfl, n, HW.out⟩
      case round =>
        clear HW
        obtain ⟨u, hu, rfl, n, hwr⟩ := hrel
        have d0 : wr.cell? ⟨B, 0, none⟩ = some (.slice (some ⟨gi, 0, none⟩) es.length icap) := by rw [hwr]; exact c0
        have E0 : wr.cell? ⟨gi, t * 2, none⟩ = some (.slice ao n' cap') := by rw [hwr, show t * 2 = 2 * t by omega]; exact e0
        have E1 : wr.cell? ⟨gi, t * 2 + 1, none⟩ = some (.int .i64 m) := by rw [hwr, show t * 2 + 1 = 2 * t + 1 by omega]; exact e1
        have HW : Hid (wr = w.drewN n) := hwr
        clear c0 c1 c2 c3 e0 e1
        by_cases hul : u < n'
        · obtain ⟨g, cur, rfl, hb, hc⟩ := HF.out (by omega)
          have E2 : wr.cell? ⟨g, u, none⟩ = some (.int .i64 (-1 - m)) := by
            rw [hwr, show (w.drewN n).cell? ⟨g, u, none⟩ = w.cell? ⟨g, u, none⟩ from rfl, cell_of_row w g u cur 3 (0, 0) hb]
            exact hc u hul
          have hbb : ((-1 - m) != (-1 - m)) = false := by simp
          clear hwr hb hc
          go_wp2_with fail
          go_quiet (fail)
          go_wp2
          go_roundw
          case rel => exact ⟨u + 1, by omega, by go_num, n + nq, by rw [HW.out]; exact World.drewN_drewN _ _ _⟩
          case measure => simp [intOf]; omega
        · clear hwr
          go_wp2
          go_roundw
          case rel => exact ⟨t + 1, by omega, by go_num, n, HW.out⟩
          case measure => simp [intOf]; omega
    · clear c0 c1 c2 c3
      go_wp2_with fail
      refine wp_loop_rounds 1 ?_
      rw [rounds_succ]
      go_wp2_with fail
      refine wp_loop_rounds 1 ?_
      rw [rounds_succ]
      go_wp2_with fail
      refine wp_loop_rounds 1 ?_
      rw [rounds_succ]
      go_wp2
      go_ret
      exact ⟨rfl, n, HW.out⟩
end Go.Proofs.Ytjidbonhhpkljaa.Pk

/- The contract of the statement's own unpacks: Unpack on both sides, and what came out is the caller's: true. -/
set_option linter.unusedVariables false
namespace Go.Proofs.Ytjidbonhhpkljaa.Pk
open Go.RowKit Go.Proofs.Ytjidbonhhpkljaa.Pm

theorem owns_keep {v u : Value} {w w' : World} {base n : Nat} {xs : List Value} (h : w.ownsRow base 3 1 u n xs) (hk : KeepInts v w w') (hne : ∀ g, u.ownBlock = some g → v.ownBlock ≠ some g) : w'.ownsRow base 3 1 u n xs := by
  refine ⟨h.1, ?_⟩
  rcases h.2 with h1 | ⟨g, cap, cur, h1, h2, h3, h4⟩
  · exact .inl h1
  · exact .inr ⟨g, cap, cur, h1, h2, hk g cur h3 (hne g (by rw [h1]; rfl)), h4⟩

set_option maxRecDepth 100000 in
set_option maxHeartbeats 4000000 in
theorem unpacks_any (s : ByteArray) (wd cn : Int) (w : World) (hm : s.size ≤ maxLen) :
    Calls Try.prog 14 #[.string s, .int .i64 wd, .int .i64 cn] w fun e w' => e = .returned (.bool true) ∧ Below w.heap.size w w' := by
  have H1 := rUnpack_any s wd cn w hm
  have H2 : ∀ w, _ := fun w => cUnpack_any s wd cn w hm
  have hlen := unpackOf_length s wd cn
  generalize (unpackOf s wd cn).1 = l at *
  generalize (unpackOf s wd cn).2 = f at *
  have HH1 : Hid (Calls Try.prog 38 #[.string s, .int .i64 wd, .int .i64 cn] w fun e w' => ∃ v, e = .returned (.tuple #[v, .int .i64 f]) ∧ w'.ownsRow w.heap.size 3 1 v l.length (icells l) ∧ Below w.heap.size w w') := H1
  have HH2 : Hid (∀ w, Calls Try.prog 24 #[.string s, .int .i64 wd, .int .i64 cn] w fun e w' => ∃ v, e = .returned (.tuple #[v, .int .i64 f]) ∧ w'.ownsRow w.heap.size 3 1 v l.length (icells l) ∧ (f ≠ 0 → v = .slice none 0 0) ∧ Below w.heap.size w w') := H2
  clear H1 H2
  go_enter Try.func14, Try.ntmps14
  go_wp2_with fail
  refine HH1.out.mono ?_
  rintro e w1 ⟨v0, rfl, o0, b1⟩
  go_wp2_with fail
  refine (HH2.out _).mono ?_
  rintro e w2 ⟨v1, rfl, o1, n1, b2⟩
  have N1 : Hid (f ≠ 0 → v1 = .slice none 0 0) := n1
  clear n1
  go_wp2_with fail
  refine (HH2.out _).mono ?_
  rintro e w3 ⟨v2, rfl, o2, n2, b3⟩
  clear n2 HH1 HH2
  have p0 := ownsRow_below (ownsRow_below o0 b2) b3
  have p1 := ownsRow_below o1 b3
  have s1 := b1.size
  have s2 := b2.size
  have s3 := b3.size
  have bb : Below w.heap.size w w3 := (b1.trans (b2.mono s1)).trans (b3.mono (by omega))
  obtain ⟨a0, g0, k0, rfl, hs0, _, hc0⟩ := owned_ints p0
  obtain ⟨a1, g1, k1, rfl, hs1, _, hc1⟩ := owned_ints p1
  obtain ⟨a2, g2, k2, rfl, hs2, _, hc2⟩ := owned_ints o2
  have ml : l.length ≤ maxLen := by unfold maxLen; omega
  have HS1 : Hid (∀ w, (∃ n, w = w3.drewN n) → Calls Try.prog 13 #[.slice a1 l.length k1, .slice a0 l.length k0] w fun e w' => e = .returned (.bool true) ∧ ∃ n, w' = w.drewN n) := by
    rintro w ⟨n, rfl⟩
    have := sameInts_any l l a1 a0 g1 0 k1 g0 0 k0 (w3.drewN n) ml ml hs1 hc1 hs0 hc0
    simpa using this
  have HS2 : Hid (∀ w, (∃ n, w = w3.drewN n) → Calls Try.prog 13 #[.slice a2 l.length k2, .slice a0 l.length k0] w fun e w' => e = .returned (.bool true) ∧ ∃ n, w' = w.drewN n) := by
    rintro w ⟨n, rfl⟩
    have := sameInts_any l l a2 a0 g2 0 k2 g0 0 k0 (w3.drewN n) ml ml hs2 hc2 hs0 hc0
    simpa using this
  clear hs0 hc0 hs1 hc1 hs2 hc2 o0
  go_wp2_with fail
  refine (HS1.out _ ⟨0, rfl⟩).mono ?_
  rintro e w4 ⟨rfl, n4, rfl⟩
  go_wp2_with fail
  refine (HS2.out _ ⟨n4, rfl⟩).mono ?_
  rintro e w5 ⟨rfl, n5, rfl⟩
  clear HS1 HS2
  have q1 := ownsRow_drewN (ownsRow_drewN (ownsRow_base (B := w.heap.size) p1 s1) n4) n5
  have q2 := ownsRow_drewN (ownsRow_drewN (ownsRow_base (B := w.heap.size) o2 (by omega)) n4) n5
  have q3 := below_drewN (below_drewN bb n4) n5
  have L1 : Hid (∀ g, (Value.slice a1 l.length k1).ownBlock = some g → g < w2.heap.size) := fun g hg => (o1.lt g hg).2
  have L2 : Hid (∀ g, (Value.slice a2 l.length k2).ownBlock = some g → w2.heap.size ≤ g ∧ g < w3.heap.size) := fun g hg => o2.lt g hg
  have L3 : Hid (((w3.drewN n4).drewN n5).heap.size = w3.heap.size) := rfl
  generalize (w3.drewN n4).drewN n5 = W at *
  have hA : Hid (BkInv (W.alloc (.cells #[.slice none 0 0, .slice none 0 0, .slice none 0 0, .slice none 0 0] 70)) w.heap.size W.heap.size (.slice none 0 0) []) :=
    ⟨heap_alloc_new W _, World.ownsRow_nil _ _ _ _, by simp⟩
  have r1 := q1.alloc (.cells #[.slice none 0 0, .slice none 0 0, .slice none 0 0, .slice none 0 0] 70)
  have r2 := q2.alloc (.cells #[.slice none 0 0, .slice none 0 0, .slice none 0 0, .slice none 0 0] 70)
  have r3 : Below w.heap.size w (W.alloc (.cells #[.slice none 0 0, .slice none 0 0, .slice none 0 0, .slice none 0 0] 70)) := q3.alloc q3.size _
  have r4 : Hid ((W.alloc (.cells #[.slice none 0 0, .slice none 0 0, .slice none 0 0, .slice none 0 0] 70)).heap.size = w3.heap.size + 1) := by show _ = _; rw [← L3.out]; simp
  have hWB : w.heap.size ≤ W.heap.size := q3.size
  clear q1 q2 q3 p0 p1 o1 o2 bb b1 b2 b3
  by_cases hf : f = 0
  · subst hf
    clear N1
    go_wp2_with fail
    generalize W.alloc (.cells #[.slice none 0 0, .slice none 0 0, .slice none 0 0, .slice none 0 0] 70) = WA at *
    refine (ownInts_any _ w.heap.size _ _ l [] _ hlen (by simp) hA.out r1 hWB (by simp)).mono ?_
    rintro e w6 ⟨rfl, iv6, es6, hl6, hI6, hm6, hblk6, hk6, hb6⟩
    have o6 := owns_keep r2 hk6 (fun g h2 h1 => by have := L1.out g h1; have := L2.out g h2; omega)
    have hs6 : Hid (∀ e ∈ es6, ∀ g' n' cap', e.1 = .slice (some ⟨g', 0, none⟩) n' cap' → 0 < n' → (Value.slice a2 l.length k2).ownBlock ≠ some g') := by
      intro e he g' n' cap' h1 h0 h2
      have h3 := L2.out g' h2
      have h5 := r4.out
      rcases hblk6 e he g' (by rw [h1]; rfl) with h4 | h4
      · have := L1.out g' h4
        omega
      · omega
    have HL6 : Hid (es6.length = 4) := hl6
    have HI6 : Hid (BkInv w6 w.heap.size W.heap.size iv6 es6) := show BkInv _ _ _ _ _ from hI6
    have HM6 : Hid (∀ e ∈ es6, 0 ≤ e.2 ∧ e.2 ≤ 100) := fun e he => by have := hm6 e he; simp at this; omega
    clear hA r1 r2 hI6 hm6 hblk6 hk6 L1 L2 L3 r4 hl6
    go_wp2_with fail
    refine (ownInts_any _ w.heap.size _ _ l es6 _ hlen (by have := HL6.out; omega) HI6.out o6 hWB hs6.out).mono ?_
    rintro e w7 ⟨rfl, iv7, es7, hl7, hI7, hm7, hblk7, hk7, hb7⟩
    have HL7 : Hid ((es6 ++ es7).length = 8) := by show _ = _; rw [List.length_append, HL6.out, hl7]
    have HI7 : Hid (BkInv w7 w.heap.size W.heap.size iv7 (es6 ++ es7)) := hI7
    have HM7 : Hid (∀ e ∈ es6 ++ es7, 0 ≤ e.2 ∧ e.2 ≤ 100) := by
      intro e he
      rcases List.mem_append.1 he with h1 | h1
      · exact HM6.out e h1
      · have := hm7 e h1
        have := HL6.out
        omega
    clear hI7 hm7 hblk7 hk7 hl7 o6 HI6
    go_wp2_with fail
    refine (looks_any _ w.heap.size _ (es6 ++ es7) _ (by rw [HL7.out]; omega) HI7.out HM7.out).mono ?_
    rintro e w8 ⟨rfl, n8, rfl⟩
    clear HI7 HM7 HL7
    go_wp2
    go_ret
    exact ⟨rfl, below_drewN ((r3.trans hb6).trans hb7) n8⟩
  · have hf1 : (f != 0) = true := by simpa using hf
    have hnil := N1.out hf
    simp only [Value.slice.injEq] at hnil
    obtain ⟨rfl, hl0, rfl⟩ := hnil
    have HL0 : Hid (l.length = 0) := hl0
    clear hl0 N1
    go_wp2_with fail
    generalize W.alloc (.cells #[.slice none 0 0, .slice none 0 0, .slice none 0 0, .slice none 0 0] 70) = WA at *
    refine (ownInts_any _ w.heap.size _ _ l [] _ hlen (by simp) hA.out r1 hWB (by simp)).mono ?_
    rintro e w6 ⟨rfl, iv6, es6, hl6, hI6, hm6, hblk6, hk6, hb6⟩
    have o6 := owns_keep r2 hk6 (fun g h2 h1 => by have := L1.out g h1; have := L2.out g h2; omega)
    have hs6 : Hid (∀ e ∈ es6, ∀ g' n' cap', e.1 = .slice (some ⟨g', 0, none⟩) n' cap' → 0 < n' → (Value.slice a2 l.length k2).ownBlock ≠ some g') := by
      intro e he g' n' cap' h1 h0 h2
      have h3 := L2.out g' h2
      have h5 := r4.out
      rcases hblk6 e he g' (by rw [h1]; rfl) with h4 | h4
      · have := L1.out g' h4
        omega
      · omega
    have HL6 : Hid (es6.length = 4) := hl6
    have HI6 : Hid (BkInv w6 w.heap.size W.heap.size iv6 es6) := show BkInv _ _ _ _ _ from hI6
    have HM6 : Hid (∀ e ∈ es6, 0 ≤ e.2 ∧ e.2 ≤ 100) := fun e he => by have := hm6 e he; simp at this; omega
    clear hA r1 r2 hI6 hm6 hblk6 hk6 L1 L2 L3 r4 hl6
    go_wp2_with fail
    refine (ownInts_any _ w.heap.size _ _ l es6 _ hlen (by have := HL6.out; omega) HI6.out o6 hWB hs6.out).mono ?_
    rintro e w7 ⟨rfl, iv7, es7, hl7, hI7, hm7, hblk7, hk7, hb7⟩
    have HL7 : Hid ((es6 ++ es7).length = 8) := by show _ = _; rw [List.length_append, HL6.out, hl7]
    have HI7 : Hid (BkInv w7 w.heap.size W.heap.size iv7 (es6 ++ es7)) := hI7
    have HM7 : Hid (∀ e ∈ es6 ++ es7, 0 ≤ e.2 ∧ e.2 ≤ 100) := by
      intro e he
      rcases List.mem_append.1 he with h1 | h1
      · exact HM6.out e h1
      · have := hm7 e h1
        have := HL6.out
        omega
    clear hI7 hm7 hblk7 hk7 hl7 o6 HI6
    go_wp2_with fail
    refine (looks_any _ w.heap.size _ (es6 ++ es7) _ (by rw [HL7.out]; omega) HI7.out HM7.out).mono ?_
    rintro e w8 ⟨rfl, n8, rfl⟩
    clear HI7 HM7 HL7
    go_wp2
    go_ret
    exact ⟨rfl, below_drewN ((r3.trans hb6).trans hb7) n8⟩
end Go.Proofs.Ytjidbonhhpkljaa.Pk

/- The walk of the statement Packs: it answers true at every list, width, text and count. -/
set_option linter.unusedVariables false
namespace Go.Proofs.Ytjidbonhhpkljaa.Pk
open Go.RowKit Go.Proofs.Ytjidbonhhpkljaa.Pm

theorem packOf_size (zs : List Int) (wd : Int) : (packOf zs wd).1.size ≤ maxLen := by
  unfold packOf
  split
  · simp [maxLen]
  · split
    · simp [maxLen]
    · split
      · rename_i h1 h2 _
        simp only [strOf_size, packBytes_length, List.length_map]
        have h3 : zs.length * wd.toNat ≤ 100 * 16 := Nat.mul_le_mul (by omega) (by omega)
        unfold maxLen
        omega
      · simp [maxLen]

theorem lent_same (zs : List Int) {w : World} {base base2 g g2 : Nat} (hreach : zs.length * 8 ≤ 140737488351232)
    (h1 : w.ownsRow base 3 1 (.slice (some ⟨g, 0, none⟩) (zs.length + 8) (zs.length + 8)) (zs.length + 8) (icells (zs ++ List.replicate 8 (-77))))
    (h2 : w.ownsRow base2 3 1 (.slice (some ⟨g2, 0, none⟩) (zs.length + 8) (zs.length + 8)) (zs.length + 8) (icells (zs ++ List.replicate 8 (-77)))) :
    Calls Try.prog 13 #[.slice (some ⟨g, 0, none⟩) (zs.length + 8) (zs.length + 8), .slice (some ⟨g2, 0, none⟩) (zs.length + 8) (zs.length + 8)] w fun e w' => e = .returned (.bool true) ∧ ∃ n, w' = w.drewN n := by
  have hl : (zs ++ List.replicate 8 (-77 : Int)).length = zs.length + 8 := by simp
  have key : ∀ b g, w.ownsRow b 3 1 (.slice (some ⟨g, 0, none⟩) (zs.length + 8) (zs.length + 8)) (zs.length + 8) (icells (zs ++ List.replicate 8 (-77))) →
      ∀ j, j < (zs ++ List.replicate 8 (-77 : Int)).length → w.cell? ⟨g, 0 + j, none⟩ = some (.int .i64 ((zs ++ List.replicate 8 (-77 : Int)).getD j 0)) := by
    intro b g h j hj
    rw [Nat.zero_add, h.cellAt j (by rw [hl] at hj; omega), icells_get _ j hj, getD_get hj]
  have H := sameInts_any (zs ++ List.replicate 8 (-77 : Int)) (zs ++ List.replicate 8 (-77 : Int)) (some ⟨g, 0, none⟩) (some ⟨g2, 0, none⟩) g 0 (zs.length + 8) g2 0 (zs.length + 8) w
    (by rw [hl]; unfold maxLen; omega) (by rw [hl]; unfold maxLen; omega) (fun _ => rfl) (key base g h1) (fun _ => rfl) (key base2 g2 h2)
  rw [hl] at H
  simpa using H

set_option maxRecDepth 100000 in
set_option maxHeartbeats 4000000 in
theorem packs_some (zs : List Int) (wd cn : Int) (s : ByteArray) (x : Addr) (b off cap : Nat) (w : World) (hm : s.size ≤ maxLen) (hreach : zs.length * 8 ≤ 140737488351232)
    (hs : 0 < zs.length → some x = some ⟨b, off, none⟩) (hb : 0 < zs.length → b < w.heap.size) (hc : ∀ j, j < zs.length → w.cell? ⟨b, off + j, none⟩ = some (.int .i64 (zs.getD j 0))) :
    Calls Try.prog 3 #[.slice (some x) zs.length cap, .int .i64 wd, .string s, .int .i64 cn] w fun e w' => e = .returned (.bool true) ∧ Below w.heap.size w w' := by
  have hml : zs.length ≤ maxLen := by unfold maxLen; omega
  have hps := packOf_size zs wd
  have heq : ∀ w, (binOp .eql 22 (.slice (some x) zs.length cap) (.slice none 0 0)).run Try.prog w = .ok (.bool false) w := fun w => by
    rw [Lib.run_eql_slice_nil w 22 3 _ _ _ _ _ Try.underlying22]; rfl
  go_enter Try.func3, Try.ntmps3
  go_wp2_with fail
  refine (rPack_any zs wd (some x) b off cap w hml hs hb hc).mono ?_
  rintro e w1 ⟨rfl, b1⟩
  go_wp2_with fail
  refine (lentInts_any zs (some x) b off cap _ hreach hs (fun h => Nat.lt_of_lt_of_le (hb h) b1.size) (fun j hj => by rw [b1.cell (p := ⟨b, off + j, none⟩) (hb (by omega))]; exact hc j hj)).mono ?_
  rintro e w2 ⟨g, rfl, o2, b2⟩
  go_wp2_with fail
  have bb2 : Below w.heap.size w w2 := b1.trans (b2.mono b1.size)
  have og := o2.lt g rfl
  have hci : ∀ j, j < (zs ++ List.replicate 8 (-77 : Int)).length → w2.cell? ⟨g, 0 + j, none⟩ = some (.int .i64 ((zs ++ List.replicate 8 (-77 : Int)).getD j 0)) := by
    intro j hj
    rw [Nat.zero_add, o2.cellAt j (by simpa using hj), icells_get _ j hj, getD_get hj]
  have hcz : ∀ j, j < zs.length → w2.cell? ⟨g, 0 + j, none⟩ = some (.int .i64 (zs.getD j 0)) := by
    intro j hj
    rw [hci j (by simp; omega), getD_get (by simp; omega), getD_get hj, List.getElem_append_left hj]
  refine (cPack_any zs wd (some ⟨g, 0, none⟩) g 0 (zs.length + 8) w2 hml (fun _ => rfl) (fun _ => og.2) hcz).mono ?_
  rintro e w3 ⟨rfl, b3⟩
  have bb3 : Below w.heap.size w w3 := bb2.trans (b3.mono bb2.size)
  go_wp2_with fail
  refine (lentInts_any zs (some x) b off cap _ hreach hs (fun h => Nat.lt_of_lt_of_le (hb h) bb3.size) (fun j hj => by rw [bb3.cell (p := ⟨b, off + j, none⟩) (hb (by omega))]; exact hc j hj)).mono ?_
  rintro e w4 ⟨g4, rfl, o4, b4⟩
  have bb4 : Below w.heap.size w w4 := bb3.trans (b4.mono bb3.size)
  go_wp2_with fail
  have o2' := ownsRow_below (ownsRow_below o2 b3) b4
  have HSM : Hid (Calls Try.prog 13 #[.slice (some ⟨g, 0, none⟩) (zs.length + 8) (zs.length + 8), .slice (some ⟨g4, 0, none⟩) (zs.length + 8) (zs.length + 8)] w4 fun e w' => e = .returned (.bool true) ∧ ∃ n, w' = w4.drewN n) := lent_same zs hreach o2' o4
  refine HSM.out.mono ?_
  rintro e w5 ⟨rfl, n5, rfl⟩
  have bb5 := below_drewN bb4 n5
  clear HSM o2' o2 o4 hci hcz bb2 bb3 bb4 b1 b2 b3 b4 heq
  generalize w4.drewN n5 = w6 at *
  generalize (packOf zs wd).1 = t at *
  generalize (packOf zs wd).2 = f at *
  have hts : (t.toList == t.toList) = true := by simp
  go_wp2_with fail
  refine (unpacks_any s wd cn _ hm).mono ?_
  rintro e w7 ⟨rfl, b7⟩
  go_wp2_with fail
  refine (unpacks_any t wd _ _ hps).mono ?_
  rintro e w8 ⟨rfl, b8⟩
  go_wp2
  go_ret
  have bb7 := bb5.trans (b7.mono bb5.size)
  exact ⟨rfl, bb7.trans (b8.mono bb7.size)⟩

set_option maxRecDepth 100000 in
set_option maxHeartbeats 4000000 in
theorem packs_none (wd cn : Int) (s : ByteArray) (w : World) (hm : s.size ≤ maxLen) :
    Calls Try.prog 3 #[.slice none 0 0, .int .i64 wd, .string s, .int .i64 cn] w fun e w' => e = .returned (.bool true) ∧ Below w.heap.size w w' := by
  have hps := packOf_size [] wd
  have heq : ∀ w, (binOp .eql 22 (.slice none 0 0) (.slice none 0 0)).run Try.prog w = .ok (.bool true) w := fun w => by
    rw [Lib.run_eql_slice_nil w 22 3 _ _ _ _ _ Try.underlying22]; rfl
  have HP : Hid (∀ w, Calls Try.prog 10 #[.slice none 0 0, .int .i64 wd] w fun e w' => e = .returned (.tuple #[.string (packOf [] wd).1, .int .i64 (packOf [] wd).2]) ∧ Below w.heap.size w w') := fun w =>
    rPack_any [] wd none 0 0 0 w (by simp) (by simp) (by simp) (by simp)
  have HC : Hid (∀ w, Calls Try.prog 12 #[.slice none 0 0, .int .i64 wd] w fun e w' => e = .returned (.tuple #[.string (packOf [] wd).1, .int .i64 (packOf [] wd).2]) ∧ Below w.heap.size w w') := fun w =>
    cPack_any [] wd none 0 0 0 w (by simp) (by simp) (by simp) (by simp)
  have HL : Hid (∀ w, Calls Try.prog 11 #[.slice none 0 0] w fun e w' => ∃ g, e = .returned (.slice (some ⟨g, 0, none⟩) 8 8) ∧ w'.ownsRow w.heap.size 3 1 (.slice (some ⟨g, 0, none⟩) 8 8) 8 (icells ([] ++ List.replicate 8 (-77))) ∧ Below w.heap.size w w') := fun w =>
    lentInts_any [] none 0 0 0 w (by simp) (by simp) (by simp) (by simp)
  go_enter Try.func3, Try.ntmps3
  go_wp2_with fail
  refine (HP.out _).mono ?_
  rintro e w1 ⟨rfl, b1⟩
  go_wp2_with fail
  refine (HL.out _).mono ?_
  rintro e w2 ⟨g, rfl, o2, b2⟩
  go_wp2_with fail
  have bb2 : Below w.heap.size w w2 := b1.trans (b2.mono b1.size)
  refine (HC.out _).mono ?_
  rintro e w3 ⟨rfl, b3⟩
  have bb3 : Below w.heap.size w w3 := bb2.trans (b3.mono bb2.size)
  go_wp2_with fail
  refine (HL.out _).mono ?_
  rintro e w4 ⟨g4, rfl, o4, b4⟩
  have bb4 : Below w.heap.size w w4 := bb3.trans (b4.mono bb3.size)
  go_wp2_with fail
  have o2' := ownsRow_below (ownsRow_below o2 b3) b4
  have HSM : Hid (Calls Try.prog 13 #[.slice (some ⟨g, 0, none⟩) 8 8, .slice (some ⟨g4, 0, none⟩) 8 8] w4 fun e w' => e = .returned (.bool true) ∧ ∃ n, w' = w4.drewN n) := lent_same [] (by simp) o2' o4
  refine HSM.out.mono ?_
  rintro e w5 ⟨rfl, n5, rfl⟩
  have bb5 := below_drewN bb4 n5
  clear HSM o2' o2 o4 bb2 bb3 bb4 b1 b2 b3 b4 heq HP HC HL
  generalize w4.drewN n5 = w6 at *
  generalize (packOf [] wd).1 = t at *
  generalize (packOf [] wd).2 = f at *
  have hts : (t.toList == t.toList) = true := by simp
  go_wp2_with fail
  refine (unpacks_any s wd cn _ hm).mono ?_
  rintro e w7 ⟨rfl, b7⟩
  go_wp2_with fail
  refine (unpacks_any t wd _ _ hps).mono ?_
  rintro e w8 ⟨rfl, b8⟩
  go_wp2
  go_ret
  have bb7 := bb5.trans (b7.mono bb5.size)
  exact ⟨rfl, bb7.trans (b8.mono bb7.size)⟩
end Go.Proofs.Ytjidbonhhpkljaa.Pk

/- The statement Writes, walked. -/
set_option linter.unusedVariables false
set_option linter.unusedSimpArgs false
namespace Go.Proofs.Ytjidbonhhpkljaa.Ec
open Go.RowKit Go.Proofs.Ytjidbonhhpkljaa.Pk Go.Proofs.Ytjidbonhhpkljaa.Pm

theorem Lent.below {w w' : World} {cs : List Col} {rows : List (List Val)} {v : Value} (h : Lent w cs rows v) (hb : Below w.heap.size w w') : Lent w' cs rows v := by
  obtain ⟨c0, c1, gc, ro, rb, roff, rcap, lo, lb, loff, lcap, rfl, h1, h2, h3, h4, h5, h6⟩ := h
  exact ⟨c0, c1, gc, ro, rb, roff, rcap, lo, lb, loff, lcap, rfl, h1.below hb, h2.below hb, h3.below hb, h4, h5.below hb, h6.below hb⟩
theorem Lent.parts {W : World} {cs : List Col} {rows : List (List Val)} {c0 c1 c2 c3 c4 : Value} (h : Lent W cs rows (.agg #[c0, c1, c2, c3, c4])) : CSl W c0 cs ∧ RSl W c1 rows := by
  obtain ⟨d0, d1, gc, ro, rb, roff, rcap, lo, lb, loff, lcap, he, h1, h2, h3⟩ := h
  simp only [Value.agg.injEq, Array.mk.injEq, List.cons.injEq] at he
  obtain ⟨rfl, rfl, -⟩ := he
  exact ⟨h1, h2⟩
theorem isl_head {W : World} {base g : Nat} {es : List Int} (h : W.ownsRow base 3 1 (.slice (some ⟨g, 0, none⟩) (es.length + 8) (es.length + 8)) (es.length + 8) (icells (es ++ List.replicate 8 (-77)))) : ISl W (.slice (some ⟨g, 0, none⟩) es.length (es.length + 8)) es := by
  refine ⟨_, g, 0, _, rfl, fun _ => rfl, fun _ => (h.lt g rfl).2, fun j hj => ?_⟩
  have := h.cells (g := g) rfl j (.int .i64 (es.getD j 0)) (by
    rw [icells_get _ j (by simp; omega), List.getElem_append_left hj]
    simp [hj])
  rwa [Addr.add_lit] at this
/-- Where Writes stands. -/
structure WtSt (w W : World) (T O : Array Value) : Prop where
  t : W.heap[w.heap.size]? = some (.cells T 52 (0, 0))
  o : W.heap[w.heap.size + 1]? = some (.cells O 54 (0, 0))
  bel : Below w.heap.size w W
theorem WtSt.below {w W W1 : World} {T O : Array Value} (h : WtSt w W T O) (hb : Below W.heap.size W W1) : WtSt w W1 T O :=
  ⟨(hb.block _ (lt_of_block h.t)).trans h.t, (hb.block _ (lt_of_block h.o)).trans h.o, h.bel.trans (hb.mono h.bel.size)⟩

set_option maxRecDepth 100000 in
set_option maxHeartbeats 8000000 in
theorem writes_any (cs : List Col) (rows : List (List Val)) (bd : Int) (es : List Int) (bo : Bool) (cv rv ev : Value) (w : World) (hz : cs.length * 24 ≤ 140737488351232) (hz2 : rows.length * 24 ≤ 140737488351232) (hz3 : ∀ r ∈ rows, r.length * 32 ≤ 140737488351232) (hz4 : es.length * 8 ≤ 140737488351232) (hv : ∀ r ∈ rows, ∀ x ∈ r, VIn x)
    (hcs : CSl w cv cs) (hrs : RSl w rv rows) (hes : ISl w ev es) :
    Calls Try.prog 8 #[.agg #[cv, rv], .agg #[.int .i64 bd, ev, .bool bo]] w fun e w' => e = .returned (.bool true) ∧ Below w.heap.size w w' := by
  have hm1 : cs.length ≤ maxLen := by unfold maxLen; omega
  have hm2 : rows.length ≤ maxLen := by unfold maxLen; omega
  have hm3 : ∀ r ∈ rows, r.length ≤ maxLen := fun r hr => by have := hz3 r hr; unfold maxLen; omega
  have hm4 : es.length ≤ maxLen := by unfold maxLen; omega
  have hcs0 := hcs
  have hrs0 := hrs
  have hes0 := hes
  obtain ⟨co, cb, coff, ccap, rfl, hccap, -⟩ := hcs0
  obtain ⟨ro, rb, roff, rcap, rfl, hrcap, -⟩ := hrs0
  obtain ⟨eo, eb, eoff, ecap, rfl, hs1, hs2, hs3⟩ := hes0
  have HRW : Hid (∀ W, Below w.heap.size w W → Calls Try.prog 25 #[.agg #[.slice co cs.length ccap, .slice ro rows.length rcap], .agg #[.int .i64 bd, .slice eo es.length ecap, .bool bo]] W fun e w' => ∃ s n, e = .returned (.tuple #[.string s, .int .i64 n]) ∧ WRes cs rows bd es bo s n ∧ Below W.heap.size W w') := fun W h =>
    rWrite_any cs rows bd es bo _ _ _ W hm1 hm2 hm3 hm4 hv (hcs.below h) (hrs.below h) (hes.lower h)
  have HSW : Hid (∀ W cv rv ev, CSl W cv cs → RSl W rv rows → ISl W ev es → Calls Try.prog 27 #[.agg #[cv, rv], .agg #[.int .i64 bd, ev, .bool bo]] W fun e w' => ∃ s n, e = .returned (.tuple #[.string s, .int .i64 n]) ∧ WRes cs rows bd es bo s n ∧ Below W.heap.size W w') := fun W cv rv ev h1 h2 h3 =>
    sWrite_any cs rows bd es bo _ _ _ W hm1 hm2 hm3 hm4 hv h1 h2 h3
  have HLD : Hid (∀ W, Below w.heap.size w W → Calls Try.prog 26 #[.agg #[.slice co cs.length ccap, .slice ro rows.length rcap]] W fun e w' => Below W.heap.size W w' ∧ ∃ v, e = .returned v ∧ Lent w' cs rows v) := fun W h =>
    lend_any cs rows _ _ W hz hz2 hz3 (hcs.below h) (hrs.below h)
  have HUN : Hid (∀ W v, Below w.heap.size w W → Lent W cs rows v → Calls Try.prog 28 #[v, .agg #[.slice co cs.length ccap, .slice ro rows.length rcap]] W fun e w' => e = .returned (.bool true) ∧ Below W.heap.size W w') := fun W v h hl =>
    unspoilt_any cs rows v _ _ W hz hz2 hz3 hl (hcs.below h) (hrs.below h)
  have HLI : Hid (∀ W, Below w.heap.size w W → Calls Try.prog 11 #[.slice eo es.length ecap] W fun e w' => ∃ g, e = .returned (.slice (some ⟨g, 0, none⟩) (es.length + 8) (es.length + 8)) ∧ w'.ownsRow W.heap.size 3 1 (.slice (some ⟨g, 0, none⟩) (es.length + 8) (es.length + 8)) (es.length + 8) (icells (es ++ List.replicate 8 (-77))) ∧ Below W.heap.size W w') := fun W h =>
    lentInts_any es eo eb eoff ecap W hz4 hs1 (fun h0 => Nat.lt_of_lt_of_le (hs2 h0) h.size) (fun j hj => (h.cell (p := ⟨eb, eoff + j, none⟩) (hs2 (by omega))).trans (hs3 j hj))
  have HSI : Hid (∀ (W : World) (base base2 g g2 : Nat), W.ownsRow base 3 1 (.slice (some ⟨g, 0, none⟩) (es.length + 8) (es.length + 8)) (es.length + 8) (icells (es ++ List.replicate 8 (-77))) → W.ownsRow base2 3 1 (.slice (some ⟨g2, 0, none⟩) (es.length + 8) (es.length + 8)) (es.length + 8) (icells (es ++ List.replicate 8 (-77))) → Calls Try.prog 13 #[.slice (some ⟨g, 0, none⟩) (es.length + 8) (es.length + 8), .slice (some ⟨g2, 0, none⟩) (es.length + 8) (es.length + 8)] W fun e w' => e = .returned (.bool true) ∧ Below W.heap.size W w') := fun W b b2 g g2 h1 h2 =>
    (lent_same es hz4 h1 h2).mono (fun e w' ⟨he, n, hn⟩ => ⟨he, by subst hn; exact below_drewN (Below.refl _ _) n⟩)
  clear hcs hrs hes hm1 hm2 hm3 hm4 hv hs1 hs2 hs3 hz3
  go_enter Try.func8, Try.ntmps8
  go_upto_region 1 with fail
  have HS0 : Hid (WtSt w ((w.alloc (.cells #[.slice co cs.length ccap, .slice ro rows.length rcap] 52)).alloc (.cells #[.int .i64 bd, .slice eo es.length ecap, .bool bo] 54)) #[.slice co cs.length ccap, .slice ro rows.length rcap] #[.int .i64 bd, .slice eo es.length ecap, .bool bo]) := ⟨alloc_old _ (by simp) (alloc_at w _), alloc_at2 w _ _, below_box2 _ _⟩
  generalize (w.alloc (.cells #[.slice co cs.length ccap, .slice ro rows.length rcap] 52)).alloc (.cells #[.int .i64 bd, .slice eo es.length ecap, .bool bo] 54) = W0 at *
  obtain ⟨t0, t1⟩ := two_of HS0.out.t
  obtain ⟨o0, o1, o2⟩ := val_cells HS0.out.o
  go_upto_region 2 with (go_at_call 25; refine (HRW.out _ HS0.out.bel).mono ?_; rintro e w1 ⟨s, n, rfl, hres, hb1⟩)
  have HRES : Hid (WRes cs rows bd es bo s n) := hres
  have HS1 : Hid (WtSt w w1 #[.slice co cs.length ccap, .slice ro rows.length rcap] #[.int .i64 bd, .slice eo es.length ecap, .bool bo]) := HS0.out.below hb1
  clear t0 t1 o0 o1 o2 hres hb1 HS0
  obtain ⟨t0, t1⟩ := two_of HS1.out.t
  obtain ⟨o0, o1, o2⟩ := val_cells HS1.out.o
  go_upto_region 3 with (go_at_call 26; refine (HLD.out _ HS1.out.bel).mono ?_; rintro e w2 ⟨hb2, v, rfl, hl2⟩; have HL2 : Hid (Lent w2 cs rows v) := hl2; obtain ⟨c0, c1, gc, ro2, rb2, roff2, rcap2, lo, lb, loff, lcap, rfl, ⟨a0, b0, f0, p0, rfl, -, -⟩, ⟨a1, b1, f1, p1, rfl, -, -⟩, -⟩ := hl2; generalize cs.length + 8 = csl8 at *; generalize rows.length + 8 = rsl8 at *)
  have HS3 : Hid (WtSt w (w2.alloc (.cells #[.slice a0 cs.length p0, .slice a1 rows.length p1, .slice (some ⟨gc, 0, none⟩) csl8 csl8, .slice ro2 rsl8 rcap2, .slice lo rows.length lcap] 57)) #[.slice co cs.length ccap, .slice ro rows.length rcap] #[.int .i64 bd, .slice eo es.length ecap, .bool bo]) := (HS1.out.below hb2).below ((Below.refl _ _).alloc (Nat.le_refl _) _)
  have HB7 : Hid ((w2.alloc (.cells #[.slice a0 cs.length p0, .slice a1 rows.length p1, .slice (some ⟨gc, 0, none⟩) csl8 csl8, .slice ro2 rsl8 rcap2, .slice lo rows.length lcap] 57)).heap[w2.heap.size]? = some (.cells #[.slice a0 cs.length p0, .slice a1 rows.length p1, .slice (some ⟨gc, 0, none⟩) csl8 csl8, .slice ro2 rsl8 rcap2, .slice lo rows.length lcap] 57 (0, 0))) := alloc_at w2 _
  have HL3 : Hid (Lent (w2.alloc (.cells #[.slice a0 cs.length p0, .slice a1 rows.length p1, .slice (some ⟨gc, 0, none⟩) csl8 csl8, .slice ro2 rsl8 rcap2, .slice lo rows.length lcap] 57)) cs rows (.agg #[.slice a0 cs.length p0, .slice a1 rows.length p1, .slice (some ⟨gc, 0, none⟩) csl8 csl8, .slice ro2 rsl8 rcap2, .slice lo rows.length lcap])) := HL2.out.below ((Below.refl _ _).alloc (Nat.le_refl _) _)
  clear t0 t1 o0 o1 o2 hb2 HS1 HL2
  generalize (w2.alloc (.cells #[.slice a0 cs.length p0, .slice a1 rows.length p1, .slice (some ⟨gc, 0, none⟩) csl8 csl8, .slice ro2 rsl8 rcap2, .slice lo rows.length lcap] 57)) = w3 at *
  generalize Value.slice a0 cs.length p0 = c0 at *
  generalize Value.slice a1 rows.length p1 = c1 at *
  generalize Value.slice (some ⟨gc, 0, none⟩) csl8 csl8 = c2 at *
  generalize Value.slice ro2 rsl8 rcap2 = c3 at *
  generalize Value.slice lo rows.length lcap = c4 at *
  generalize w2.heap.size = g7 at *
  clear w1 w2
  obtain ⟨t0, t1⟩ := two_of HS3.out.t
  obtain ⟨o0, o1, o2⟩ := val_cells HS3.out.o
  obtain ⟨⟨x0, x1, x2, x3, x4⟩, -⟩ := five_of HB7.out
  go_upto_region 4 with (go_at_call 11; refine (HLI.out _ HS3.out.bel).mono ?_; rintro e w4 ⟨g8, rfl, how4, hb4⟩)
  have HS4 : Hid (WtSt w w4 #[.slice co cs.length ccap, .slice ro rows.length rcap] #[.int .i64 bd, .slice eo es.length ecap, .bool bo]) := HS3.out.below hb4
  have HB4 : Hid (w4.heap[g7]? = some (.cells #[c0, c1, c2, c3, c4] 57 (0, 0))) := (hb4.block _ (lt_of_block HB7.out)).trans HB7.out
  have HL4 : Hid (Lent w4 cs rows (.agg #[c0, c1, c2, c3, c4])) := HL3.out.below hb4
  have HO4 : Hid (w4.ownsRow w3.heap.size 3 1 (.slice (some ⟨g8, 0, none⟩) (es.length + 8) (es.length + 8)) (es.length + 8) (icells (es ++ List.replicate 8 (-77)))) := how4
  clear t0 t1 o0 o1 o2 x0 x1 x2 x3 x4 how4 hb4 HS3 HB7 HL3
  obtain ⟨t0, t1⟩ := two_of HS4.out.t
  obtain ⟨o0, o1, o2⟩ := val_cells HS4.out.o
  obtain ⟨⟨x0, x1, x2, x3, x4⟩, -⟩ := five_of HB4.out
  have hce : (es.length : Int) ≤ (es.length : Int) + 8 := by omega
  refine Un.begin_ (fun W => (W.cell? ⟨g7, 0, none⟩ = some c0 ∧ W.cell? ⟨g7, 1, none⟩ = some c1) ∧ W.cell? ⟨w.heap.size + 1, 0, none⟩ = some (.int .i64 bd) ∧ W.cell? ⟨w.heap.size + 1, 1, none⟩ = some (.slice eo es.length ecap) ∧ W.cell? ⟨w.heap.size + 1, 2, none⟩ = some (.bool bo)) 17 (by kernel_rfl) ?_
  have hHeld : (fun W => (W.cell? ⟨g7, 0, none⟩ = some c0 ∧ W.cell? ⟨g7, 1, none⟩ = some c1) ∧ W.cell? ⟨w.heap.size + 1, 0, none⟩ = some (.int .i64 bd) ∧ W.cell? ⟨w.heap.size + 1, 1, none⟩ = some (.slice eo es.length ecap) ∧ W.cell? ⟨w.heap.size + 1, 2, none⟩ = some (.bool bo)) w4.drew := by go_keep
  refine Un.pick (i := 0) (v := ?_) rfl (by kernel_rfl) (by kernel_rfl) (by kernel_rfl) (by kernel_rfl) (fun _ _ _ h => h) (Or.inl ⟨by rfl, ?_⟩) (by assumption) ?_
  rotate_left
  · intro w _; go_simp
    try with_reducible rfl
  try simp only [Act.put, List.setIfInBounds_toArray, List.set_cons_zero, List.set_cons_succ]
  refine Un.take (i := 1) (v := ?_) rfl (by kernel_rfl) (by kernel_rfl) (by kernel_rfl) (by kernel_rfl) (by kernel_rfl) (by kernel_rfl) (fun _ _ _ h => h) (Or.inl ⟨by rfl, ?_⟩) (by assumption) ?_
  rotate_left
  · intro w hSw; (try dsimp only at hSw); go_simp
    try with_reducible rfl
  try simp only [Act.put, List.setIfInBounds_toArray, List.set_cons_zero, List.set_cons_succ]
  refine Un.pick (i := 2) (v := ?_) rfl (by kernel_rfl) (by kernel_rfl) (by kernel_rfl) (by kernel_rfl) (fun _ _ _ h => h) (Or.inl ⟨by rfl, ?_⟩) (by assumption) ?_
  rotate_left
  · intro w _; go_simp
    try with_reducible rfl
  try simp only [Act.put, List.setIfInBounds_toArray, List.set_cons_zero, List.set_cons_succ]
  refine Un.take (i := 3) (v := ?_) rfl (by kernel_rfl) (by kernel_rfl) (by kernel_rfl) (by kernel_rfl) (by kernel_rfl) (by kernel_rfl) (fun _ _ _ h => h) (Or.inl ⟨by rfl, ?_⟩) (by assumption) ?_
  rotate_left
  · intro w hSw; (try dsimp only at hSw); go_simp
    try with_reducible rfl
  try simp only [Act.put, List.setIfInBounds_toArray, List.set_cons_zero, List.set_cons_succ]
  refine Un.pick (i := 4) (v := ?_) rfl (by kernel_rfl) (by kernel_rfl) (by kernel_rfl) (by kernel_rfl) (fun _ _ _ h => h) (Or.inl ⟨by rfl, ?_⟩) (by assumption) ?_
  rotate_left
  · intro w _; go_simp
    try with_reducible rfl
  try simp only [Act.put, List.setIfInBounds_toArray, List.set_cons_zero, List.set_cons_succ]
  refine Un.pick (i := 5) (v := ?_) rfl (by kernel_rfl) (by kernel_rfl) (by kernel_rfl) (by kernel_rfl) (fun _ _ _ h => h) (Or.inl ⟨by rfl, ?_⟩) (by assumption) ?_
  rotate_left
  · intro w _; go_simp
    try with_reducible rfl
  try simp only [Act.put, List.setIfInBounds_toArray, List.set_cons_zero, List.set_cons_succ]
  refine Un.take (i := 6) (v := ?_) rfl (by kernel_rfl) (by kernel_rfl) (by kernel_rfl) (by kernel_rfl) (by kernel_rfl) (by kernel_rfl) (fun _ _ _ h => h) (Or.inl ⟨by rfl, ?_⟩) (by assumption) ?_
  rotate_left
  · intro w hSw; (try dsimp only at hSw); go_simp
    try with_reducible rfl
  try simp only [Act.put, List.setIfInBounds_toArray, List.set_cons_zero, List.set_cons_succ]
  refine Un.pick (i := 7) (v := ?_) rfl (by kernel_rfl) (by kernel_rfl) (by kernel_rfl) (by kernel_rfl) (fun _ _ _ h => h) (Or.inl ⟨by rfl, ?_⟩) (by assumption) ?_
  rotate_left
  · intro w _; go_simp
    try with_reducible rfl
  try simp only [Act.put, List.setIfInBounds_toArray, List.set_cons_zero, List.set_cons_succ]
  refine Un.pick (i := 8) (v := ?_) rfl (by kernel_rfl) (by kernel_rfl) (by kernel_rfl) (by kernel_rfl) (fun _ _ _ h => h) (Or.inl ⟨by rfl, ?_⟩) (by assumption) ?_
  rotate_left
  · intro w _; go_simp
    try with_reducible rfl
  try simp only [Act.put, List.setIfInBounds_toArray, List.set_cons_zero, List.set_cons_succ]
  refine Un.pick (i := 9) (v := ?_) rfl (by kernel_rfl) (by kernel_rfl) (by kernel_rfl) (by kernel_rfl) (fun _ _ _ h => h) (Or.inl ⟨by rfl, ?_⟩) (by assumption) ?_
  rotate_left
  · intro w _; go_simp
    try with_reducible rfl
  try simp only [Act.put, List.setIfInBounds_toArray, List.set_cons_zero, List.set_cons_succ]
  refine Un.take (i := 10) (v := ?_) rfl (by kernel_rfl) (by kernel_rfl) (by kernel_rfl) (by kernel_rfl) (by kernel_rfl) (by kernel_rfl) (fun _ _ _ h => h) (Or.inl ⟨by rfl, ?_⟩) (by assumption) ?_
  rotate_left
  · intro w hSw; (try dsimp only at hSw); go_simp
    try with_reducible rfl
  try simp only [Act.put, List.setIfInBounds_toArray, List.set_cons_zero, List.set_cons_succ]
  refine Un.pick (i := 11) (v := ?_) rfl (by kernel_rfl) (by kernel_rfl) (by kernel_rfl) (by kernel_rfl) (fun _ _ _ h => h) (Or.inl ⟨by rfl, ?_⟩) (by assumption) ?_
  rotate_left
  · intro w _; go_simp
    try with_reducible rfl
  try simp only [Act.put, List.setIfInBounds_toArray, List.set_cons_zero, List.set_cons_succ]
  refine Un.one (i := 12) (by kernel_rfl) rfl (fun K hK => ?_)
  rw [if_pos (by rfl)]
  go_simp
  go_at_call 27
  refine (HSW.out w4.drew c0 c1 (.slice (some ⟨g8, 0, none⟩) es.length (es.length + 8)) (HL4.out.below (Below.refl _ w4).drew).parts.1 (HL4.out.below (Below.refl _ w4).drew).parts.2 (isl_head HO4.out.drew)).mono ?_
  rintro e w5 ⟨s', n', rfl, hres, hb5⟩
  obtain ⟨rfl, rfl⟩ := WRes.uni HRES.out hres
  have hb5' : Below w4.heap.size w4 w5 := (Below.refl _ w4).drew.trans hb5
  have HS5 : Hid (WtSt w w5 #[.slice co cs.length ccap, .slice ro rows.length rcap] #[.int .i64 bd, .slice eo es.length ecap, .bool bo]) := HS4.out.below hb5'
  have HB5 : Hid (w5.heap[g7]? = some (.cells #[c0, c1, c2, c3, c4] 57 (0, 0))) := (hb5'.block _ (lt_of_block HB4.out)).trans HB4.out
  have HL5 : Hid (Lent w5 cs rows (.agg #[c0, c1, c2, c3, c4])) := HL4.out.below hb5'
  have HO5 : Hid (w5.ownsRow w3.heap.size 3 1 (.slice (some ⟨g8, 0, none⟩) (es.length + 8) (es.length + 8)) (es.length + 8) (icells (es ++ List.replicate 8 (-77)))) := ownsRow_below HO4.out hb5'
  clear t0 t1 o0 o1 o2 x0 x1 x2 x3 x4 hb5 hb5' hres
  obtain ⟨t0, t1⟩ := two_of HS5.out.t
  obtain ⟨o0, o1, o2⟩ := val_cells HS5.out.o
  obtain ⟨⟨x0, x1, x2, x3, x4⟩, -⟩ := five_of HB5.out
  refine hK.out _ _ (fun _ => ⟨⟨x0, x1⟩, o0, o1, o2⟩) ?_
  clear hK K hHeld HS4 HB4 HL4 HO4
  have hHeld : (fun W => (W.cell? ⟨g7, 0, none⟩ = some c0 ∧ W.cell? ⟨g7, 1, none⟩ = some c1) ∧ W.cell? ⟨w.heap.size + 1, 0, none⟩ = some (.int .i64 bd) ∧ W.cell? ⟨w.heap.size + 1, 1, none⟩ = some (.slice eo es.length ecap) ∧ W.cell? ⟨w.heap.size + 1, 2, none⟩ = some (.bool bo)) w5 := ⟨⟨x0, x1⟩, o0, o1, o2⟩
  refine Un.pick (i := 13) (v := ?_) rfl (by kernel_rfl) (by kernel_rfl) (by kernel_rfl) (by kernel_rfl) (fun _ _ _ h => h) (Or.inl ⟨by rfl, ?_⟩) (by assumption) ?_
  rotate_left
  · intro w _; go_simp
    try with_reducible rfl
  try simp only [Act.put, List.setIfInBounds_toArray, List.set_cons_zero, List.set_cons_succ]
  refine Un.pick (i := 14) (v := ?_) rfl (by kernel_rfl) (by kernel_rfl) (by kernel_rfl) (by kernel_rfl) (fun _ _ _ h => h) (Or.inl ⟨by rfl, ?_⟩) (by assumption) ?_
  rotate_left
  · intro w _; go_simp
    try with_reducible rfl
  try simp only [Act.put, List.setIfInBounds_toArray, List.set_cons_zero, List.set_cons_succ]
  refine Un.pick (i := 15) (v := ?_) rfl (by kernel_rfl) (by kernel_rfl) (by kernel_rfl) (by kernel_rfl) (fun _ _ _ h => h) (Or.inl ⟨by rfl, ?_⟩) (by assumption) ?_
  rotate_left
  · intro w _; go_simp
    try with_reducible rfl
  try simp only [Act.put, List.setIfInBounds_toArray, List.set_cons_zero, List.set_cons_succ]
  refine Un.pick (i := 16) (v := ?_) rfl (by kernel_rfl) (by kernel_rfl) (by kernel_rfl) (by kernel_rfl) (fun _ _ _ h => h) (Or.inl ⟨by rfl, ?_⟩) (by assumption) ?_
  rotate_left
  · intro w _; go_simp
    try with_reducible rfl
  try simp only [Act.put, List.setIfInBounds_toArray, List.set_cons_zero, List.set_cons_succ]
  refine Un.one (i := 17) (by kernel_rfl) rfl (fun K hK => ?_)
  rw [if_pos (by rfl)]
  go_simp
  refine hK.out _ _ (fun h => absurd h (by decide)) ?_
  clear hK K
  try simp only [Act.put, List.setIfInBounds_toArray, List.set_cons_zero, List.set_cons_succ]
  refine Un.done (by kernel_rfl) ?_ _
  clear hHeld
  go_upto_region 6 with (go_at_call 28; refine (HUN.out _ _ HS5.out.bel HL5.out).mono ?_; rintro e w6 ⟨rfl, hb6⟩)
  have HS6 : Hid (WtSt w w6 #[.slice co cs.length ccap, .slice ro rows.length rcap] #[.int .i64 bd, .slice eo es.length ecap, .bool bo]) := HS5.out.below hb6
  have HO6 : Hid (w6.ownsRow w3.heap.size 3 1 (.slice (some ⟨g8, 0, none⟩) (es.length + 8) (es.length + 8)) (es.length + 8) (icells (es ++ List.replicate 8 (-77)))) := ownsRow_below HO5.out hb6
  clear t0 t1 o0 o1 o2 x0 x1 x2 x3 x4 hb6 HS5 HB5 HL5 HO5
  obtain ⟨t0, t1⟩ := two_of HS6.out.t
  obtain ⟨o0, o1, o2⟩ := val_cells HS6.out.o
  go_upto_region 7 with first
    | (go_at_call 11; refine (HLI.out _ HS6.out.bel).mono ?_; rintro e w7 ⟨g9, rfl, how7, hb7⟩)
    | (go_at_call 13; refine (HSI.out _ _ _ _ _ (ownsRow_below HO6.out hb7) how7).mono ?_; rintro e w8 ⟨rfl, hb8⟩)
  have HBF : Hid (Below w.heap.size w w8) := ((HS6.out.bel.trans (hb7.mono HS6.out.bel.size)).trans (hb8.mono (HS6.out.bel.trans (hb7.mono HS6.out.bel.size)).size))
  clear t0 t1 o0 o1 o2 how7 hb7 hb8 HS6 HO6
  have hts : (s.toList == s.toList) = true := by simp
  go_wp2
  go_ret
  exact ⟨rfl, HBF.out⟩
end Go.Proofs.Ytjidbonhhpkljaa.Ec
