/- What Back needs: bytes of columns are bytes; the contracts of pick, clean and encodings. -/
import Derived.Test.YtjidbonhhpkljaaDcDecode
import Derived.WalkSpells
set_option linter.unusedVariables false
namespace Go.Proofs.Ytjidbonhhpkljaa.Ec
open Go.RowKit Go.Proofs.Ytjidbonhhpkljaa.Pk Go.Proofs.Ytjidbonhhpkljaa.Pm

theorem vint_lt (n : Nat) : ∀ x ∈ vint n, x < 256 := vintF_lt 10 n
theorem runsF_lt (f : Nat) (l : List Int) : ∀ x ∈ runsF f l, x < 256 := by
  induction f generalizing l with
  | zero => simp [runsF]
  | succ f ih =>
    cases l with
    | nil => simp [runsF]
    | cons y r =>
      intro x hx
      simp only [runsF] at hx
      rcases List.mem_append.1 hx with h | h
      · exact vint_lt _ x h
      · rcases List.mem_append.1 h with h | h
        · simp at h; rw [h]; exact byteOf_lt _
        · exact ih _ x h
theorem plainB_lt (k : Int) (v : Val) : ∀ x ∈ plainB k v, x < 256 := by
  intro x hx
  unfold plainB at hx
  split at hx
  · exact vint_lt _ x hx
  · split at hx
    · simp at hx; rw [hx]; exact byteOf_lt _
    · rcases List.mem_append.1 hx with h | h
      · exact vint_lt _ x h
      · exact bytesOf_lt _ x h
theorem plainsB_lt (k : Int) (l : List Val) : ∀ x ∈ plainsB k l, x < 256 := by
  intro x hx
  unfold plainsB at hx
  obtain ⟨v, _, hv⟩ := List.mem_flatMap.1 hx
  exact plainB_lt k v x hv
theorem deltaF_lt (a : Int) (l : List Val) : ∀ x ∈ deltaF a l, x < 256 := by
  induction l generalizing a with
  | nil => simp [deltaF]
  | cons y r ih =>
    intro x hx
    simp only [deltaF] at hx
    rcases List.mem_append.1 hx with h | h
    · exact vint_lt _ x h
    · exact ih _ x h
theorem columnB_lt (k e : Int) (l : List Val) : ∀ x ∈ columnB k e l, x < 256 := by
  intro x hx
  unfold columnB at hx
  rcases List.mem_append.1 hx with h | h
  · exact runsF_lt _ _ x h
  · unfold codedB at h
    split at h
    · exact deltaF_lt _ _ x h
    · split at h
      · unfold dictB at h
        rcases List.mem_append.1 h with h | h
        · exact vint_lt _ x h
        · rcases List.mem_append.1 h with h | h
          · exact plainsB_lt _ _ x h
          · exact packBytes_lt _ _ x h
      · split at h
        · exact runsF_lt _ _ x h
        · exact plainsB_lt _ _ x h

/-- What Encode gives is decoded; what is longer or shorter is not. -/
theorem dec_there {k e : Int} {l : List Val} (hok : ∀ x ∈ l, VC k x) : ¬ DecNo (strOf (columnB k e l)) k e l.length := fun h => h l rfl hok (by rw [bytesOf_strOf _ (columnB_lt k e l)])
theorem dec_same {k e : Int} {l l' : List Val} (hok : ∀ x ∈ l, VC k x) (h : DecOk (strOf (columnB k e l)) k e l.length l') : l' = l :=
  (h.uni l rfl hok (starts_of_eq (by rw [bytesOf_strOf _ (columnB_lt k e l)]))).symm
theorem dec_longer {k e : Int} {l l' : List Val} (hok : ∀ x ∈ l, VC k x) : ¬ DecOk (strOf (columnB k e l) ++ strOf [0]) k e l.length l' := by
  intro h
  have hb : bytesOf (strOf (columnB k e l) ++ strOf [0]) = columnB k e l ++ [0] := by
    rw [← strOf_append, bytesOf_strOf]
    intro x hx
    rcases List.mem_append.1 hx with h1 | h1
    · exact columnB_lt k e l x h1
    · simp at h1; omega
  have h1 := h.uni l rfl hok (by rw [hb]; unfold Starts; rw [List.drop_zero]; exact List.prefix_append _ _)
  subst h1
  have h2 := h.eq
  rw [hb] at h2
  have := congrArg List.length h2
  simp at this
theorem dec_shorter {k e : Int} {l l' : List Val} {s : ByteArray} (hok : ∀ x ∈ l, VC k x) (hs : bytesOf s = (columnB k e l).take ((columnB k e l).length - 1)) (hne : columnB k e l ≠ []) (h : DecOk (strOf (columnB k e l)) k e l.length l) : ¬ DecOk s k e l.length l' := by
  intro h'
  have h1 := h.uni l' h'.len h'.ok (by
    rw [bytesOf_strOf _ (columnB_lt k e l), h'.eq, hs]
    unfold Starts
    rw [List.drop_zero]
    exact List.take_prefix _ _)
  subst h1
  have h2 := h'.eq
  rw [hs] at h2
  have h3 := congrArg List.length h2
  rw [List.length_take] at h3
  have h4 : 0 < (columnB k e l').length := List.length_pos_iff.2 hne
  omega

theorem tmod_pos (a n : Int) (ha : 0 ≤ a) (hn : 0 < n) : 0 ≤ a.tmod n ∧ a.tmod n < n := by
  rw [Int.tmod_eq_emod_of_nonneg ha]
  exact ⟨Int.emod_nonneg _ (by omega), Int.emod_lt_of_pos _ hn⟩
theorem tmod_neg (a n : Int) (ha : a ≤ 0) (hn : 0 < n) : 0 ≤ -(a.tmod n) ∧ -(a.tmod n) < n := by
  have := tmod_pos (-a) n (by omega) hn
  rwa [Int.neg_tmod] at this

set_option maxRecDepth 100000 in
set_option maxHeartbeats 1000000 in
theorem pick_any (c n : Int) (w : World) (hn : n = 2 ∨ n = 3) (h0 : -9223372036854775808 ≤ c) (h1 : c ≤ 9223372036854775807) : Calls Try.prog 20 #[.int .i64 c, .int .i64 n] w fun e w' => w' = w ∧ ∃ r, e = .returned (.int .i64 r) ∧ 0 ≤ r ∧ r < n := by
  by_cases hc : c < 0
  · have e1 : wrap64 (c + 1) = c + 1 := by unfold wrap64; omega
    have e2 : wrap64 (-(c + 1)) = -(c + 1) := by unfold wrap64; omega
    rcases hn with rfl | rfl
    · go_enter Try.func20, Try.ntmps20
      go_wp2
      go_ret
      exact ⟨rfl, _, rfl, tmod_neg (c + 1) 2 (by omega) (by omega)⟩
    · go_enter Try.func20, Try.ntmps20
      go_wp2
      go_ret
      exact ⟨rfl, _, rfl, tmod_neg (c + 1) 3 (by omega) (by omega)⟩
  · rcases hn with rfl | rfl
    · go_enter Try.func20, Try.ntmps20
      go_wp2
      go_ret
      exact ⟨rfl, _, rfl, by omega, by omega⟩
    · go_enter Try.func20, Try.ntmps20
      go_wp2
      go_ret
      exact ⟨rfl, _, rfl, by omega, by omega⟩

/-- A box that is written anew, above all that was there. -/
theorem box_below {w W w1 : World} {g : Nat} {a b c : Value} (a' b' c' : Value) {t : TypeId} (h : w1.heap[g]? = some (.cells #[a, b, c] t (0, 0))) (hb : Below w.heap.size w w1) (hg : w.heap.size ≤ g) :
    let W := ((w1.setCell ⟨g, 0, none⟩ a').setCell ⟨g, 1, none⟩ b').setCell ⟨g, 2, none⟩ c'
    W.cell? ⟨g, 0, none⟩ = some a' ∧ W.cell? ⟨g, 1, none⟩ = some b' ∧ W.cell? ⟨g, 2, none⟩ = some c' ∧ Below w.heap.size w W := by
  have h1 : (w1.setCell ⟨g, 0, none⟩ a').heap[g]? = some (.cells #[a', b, c] t (0, 0)) := by rw [heap_setCell_same w1 g 0 _ _ _ h]; rfl
  have h2 : ((w1.setCell ⟨g, 0, none⟩ a').setCell ⟨g, 1, none⟩ b').heap[g]? = some (.cells #[a', b', c] t (0, 0)) := by rw [heap_setCell_same _ g 1 _ _ _ h1]; rfl
  have h3 : (((w1.setCell ⟨g, 0, none⟩ a').setCell ⟨g, 1, none⟩ b').setCell ⟨g, 2, none⟩ c').heap[g]? = some (.cells #[a', b', c'] t (0, 0)) := by rw [heap_setCell_same _ g 2 _ _ _ h2]; rfl
  obtain ⟨c0, c1, c2, _⟩ := box_cells h3
  exact ⟨c0, c1, c2, ((hb.setCell hg _).setCell hg _).setCell hg _⟩

theorem two_boxes (w : World) (a b : Obj) : ((w.alloc a).alloc b).heap[w.heap.size + 1]? = some b := by
  have := heap_alloc_new (w.alloc a) b
  rwa [show (w.alloc a).heap.size = w.heap.size + 1 from by simp] at this
theorem two_first (w : World) (a b : Obj) : ((w.alloc a).alloc b).heap[w.heap.size]? = some a := by
  rw [Below.heap_alloc _ _ _ (by simp)]; exact heap_alloc_new w a

set_option maxRecDepth 100000 in
set_option maxHeartbeats 2000000 in
theorem clean_any (x : Val) (k : Int) (w : World) (hk : k = 1 ∨ k = 2 ∨ k = 3) (hx : VIn x) (hs : x.s.size ≤ maxLen) :
    Calls Try.prog 21 #[.agg #[.bool x.null, .int .i64 x.n, .string x.s], .int .i64 k] w fun e w' => Below w.heap.size w w' ∧ ∃ y : Val, e = .returned (.agg #[.bool y.null, .int .i64 y.n, .string y.s]) ∧ VC k y := by
  have HB : Hid (∀ a b : Obj, Below w.heap.size w ((w.alloc a).alloc b)) := fun a b => ((Below.refl _ _).alloc (Nat.le_refl _) _).alloc (by simp) _
  have hlo := hx.lo
  have hhi := hx.hi
  clear hx
  cases hnull : x.null with
  | true =>
    go_enter Try.func21, Try.ntmps21
    go_wp2
    simp [bodyPost, results, Try.results21, go_sem]
    exact ⟨HB.out _ _, ⟨true, 0, ⟨#[]⟩⟩, ⟨rfl, rfl, rfl⟩, .inl ⟨rfl, rfl, rfl⟩⟩
  | false =>
    rcases hk with rfl | rfl | rfl
    · go_enter Try.func21, Try.ntmps21
      go_wp2
      simp [bodyPost, results, Try.results21, go_sem]
      exact ⟨HB.out _ _, ⟨false, x.n, ⟨#[]⟩⟩, ⟨rfl, rfl, rfl⟩, .inr ⟨rfl, hlo, hhi, fun _ => rfl, fun h => by omega, fun h => by omega⟩⟩
    · have HP : Hid (∀ w, Calls Try.prog 20 #[.int .i64 x.n, .int .i64 2] w fun e w' => w' = w ∧ ∃ r, e = .returned (.int .i64 r) ∧ 0 ≤ r ∧ r < 2) := fun w => pick_any x.n 2 w (.inl rfl) hlo hhi
      go_enter Try.func21, Try.ntmps21
      go_wp2_with (go_at_call 20; refine (HP.out _).mono ?_; rintro e w' ⟨hw, r, rfl, hr0, hr1⟩; rw [hw]; clear hw w')
      simp [bodyPost, results, Try.results21, go_sem]
      exact ⟨HB.out _ _, ⟨false, r, ⟨#[]⟩⟩, ⟨rfl, rfl, rfl⟩, .inr ⟨rfl, by show _ ≤ r; omega, by show r ≤ _; omega, fun h => by omega, fun _ => ⟨by show r = 0 ∨ r = 1; omega, rfl⟩, fun h => by omega⟩⟩
    · unfold maxLen at hs
      by_cases hbig : 32 < x.s.size
      · have hxe : (x.s.extract 0 32).size = 32 := by rw [ByteArray.size_extract]; omega
        go_enter Try.func21, Try.ntmps21
        go_wp2
        simp [bodyPost, results, Try.results21, go_sem]
        exact ⟨HB.out _ _, ⟨false, 0, x.s.extract 0 32⟩, ⟨rfl, rfl, rfl⟩, .inr ⟨rfl, by show _ ≤ (0 : Int); omega, by show (0 : Int) ≤ _; omega, fun h => by omega, fun h => by omega, fun _ => ⟨rfl, by show (x.s.extract 0 32).size ≤ 32; omega⟩⟩⟩
      · go_enter Try.func21, Try.ntmps21
        go_wp2
        simp [bodyPost, results, Try.results21, go_sem]
        exact ⟨HB.out _ _, ⟨false, 0, x.s⟩, ⟨rfl, rfl, rfl⟩, .inr ⟨rfl, by show _ ≤ (0 : Int); omega, by show (0 : Int) ≤ _; omega, fun h => by omega, fun h => by omega, fun _ => ⟨rfl, by show x.s.size ≤ 32; omega⟩⟩⟩

theorem rows_at (w : World) (l : List Int) (t : TypeId) : ∀ j, j < l.length → (w.alloc (.cells (l.map (fun z => Value.int .i64 z)).toArray t)).cell? ⟨w.heap.size, 0 + j, none⟩ = some (.int .i64 (l.getD j 0)) := by
  intro j hj
  have : (w.alloc (.cells (l.map (fun z => Value.int .i64 z)).toArray t)).heap[w.heap.size]? = some (.cells (l.map (fun z => Value.int .i64 z)).toArray t (0, 0)) := heap_alloc_new w _
  simp only [World.cell?]
  rw [this]
  simp [hj, List.getD]

/-- The encodings of a kind. -/
def encsOf (k : Int) : List Int := if k = 1 then [0, 1, 2] else if k = 2 then [0, 2, 3] else [0, 2]
theorem encs_ok (k : Int) (hk : k = 1 ∨ k = 2 ∨ k = 3) : ∀ e ∈ encsOf k, hasEncB k e = true := by
  rcases hk with rfl | rfl | rfl <;> decide
theorem encs_len (k : Int) : (encsOf k).length ≤ 3 := by
  unfold encsOf
  split
  · decide
  · split <;> decide

set_option maxRecDepth 100000 in
set_option maxHeartbeats 1000000 in
theorem encodings_any (k : Int) (w : World) (hk : k = 1 ∨ k = 2 ∨ k = 3) : Calls Try.prog 22 #[.int .i64 k] w fun e w' => Below w.heap.size w w' ∧ w.heap.size < w'.heap.size ∧ e = .returned (.slice (some ⟨w.heap.size, 0, none⟩) (encsOf k).length (encsOf k).length) ∧ ∀ j, j < (encsOf k).length → w'.cell? ⟨w.heap.size, 0 + j, none⟩ = some (.int .i64 ((encsOf k).getD j 0)) := by
  rcases hk with rfl | rfl | rfl
  · have H := rows_at w [0, 1, 2] 3
    go_enter Try.func22, Try.ntmps22
    go_wp2
    go_ret
    exact ⟨(Below.refl _ _).alloc (Nat.le_refl _) _, by simp, rfl, H⟩
  · have H := rows_at w [0, 2, 3] 3
    go_enter Try.func22, Try.ntmps22
    go_wp2
    go_ret
    exact ⟨(Below.refl _ _).alloc (Nat.le_refl _) _, by simp, rfl, H⟩
  · have H := rows_at w [0, 2] 3
    go_enter Try.func22, Try.ntmps22
    go_wp2
    go_ret
    exact ⟨(Below.refl _ _).alloc (Nat.le_refl _) _, by simp, rfl, H⟩
end Go.Proofs.Ytjidbonhhpkljaa.Ec
