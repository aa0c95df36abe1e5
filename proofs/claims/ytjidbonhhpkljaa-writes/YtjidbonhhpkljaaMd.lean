/- What the proof stands on: WrOpen, WrLess, WrBnd, WrCompare, WrBounds, PkReader, DcRunsP, DcTake, DcVarint, DcSeq, DcPlainC. -/
import Derived.Test.YtjidbonhhpkljaaMc
import Derived.SizedLaws
import Derived.ChangeSame
import Derived.Lib.Bytealg
import Derived.Deep.RegionHeld
import Derived.WalkLawsBesides
import Derived.Recover
import Derived.Lib.BufferWrite
import Derived.Lib.UnsafeStr
import Derived.Laws.MakeOwn

/- A table and options that came in, opened. -/
set_option linter.unusedVariables false
namespace Go.Proofs.Ytjidbonhhpkljaa.Ec
open Go.RowKit Go.Proofs.Ytjidbonhhpkljaa.Pk Go.Proofs.Ytjidbonhhpkljaa.Pm

theorem cellsC2 : Try.prog.cellsOf 104 = 2 := by kernel_rfl
theorem cellsVs : Try.prog.cellsOf 30 = 1 := by kernel_rfl
theorem cellsCs : Try.prog.cellsOf 49 = 1 := by kernel_rfl
theorem cellsRs : Try.prog.cellsOf 50 = 1 := by kernel_rfl
theorem cellsIs : Try.prog.cellsOf 22 = 1 := by kernel_rfl
theorem cellsBl : Try.prog.cellsOf 4 = 1 := by kernel_rfl
theorem bytesV32 : Try.prog.bytesOf 39 = 32 := by kernel_rfl
theorem bytesC24 : Try.prog.bytesOf 104 = 24 := by kernel_rfl
theorem bytesVs24 : Try.prog.bytesOf 30 = 24 := by kernel_rfl
theorem bytesI8 : Try.prog.bytesOf 3 = 8 := by kernel_rfl
theorem cellsTb : Try.prog.cellsOf 52 = 2 := by kernel_rfl
theorem cellsOp : Try.prog.cellsOf 54 = 3 := by kernel_rfl

theorem weightsAll_in {H : Type} {P : Program} {e : TypeId} : ∀ {l : List (DataW H)} {d : DataW H}, d ∈ l → ∀ n ∈ d.weights P e, n ∈ DataW.weightsAll P e l
  | d' :: r, d, hd, n, hn => by
    simp only [DataW.weightsAll, List.mem_append]
    rcases List.mem_cons.1 hd with rfl | h
    · exact Or.inl hn
    · exact Or.inr (weightsAll_in h n hn)
/-- What came in lies within reach. -/
def Fits {H : Type} (d : DataW H) (t : TypeId) : Prop := ∀ n ∈ d.weights Try.prog t, n ≤ 140737488351232
theorem Fits.slice {H : Type} {es sp : List (DataW H)} {t e : TypeId} (h : Fits (.slice es sp) t) (hu : Try.prog.underlying t = some (.slice e)) : es.length * Try.prog.bytesOf e ≤ 140737488351232 := by
  have := h ((es.length + sp.length) * Try.prog.bytesOf e) (by simp [DataW.weights, hu])
  exact Nat.le_trans (Nat.mul_le_mul_right _ (Nat.le_add_right _ _)) this
theorem Fits.elem {H : Type} {es sp : List (DataW H)} {t e : TypeId} (h : Fits (.slice es sp) t) (hu : Try.prog.underlying t = some (.slice e)) {d : DataW H} (hd : d ∈ es) : Fits d e := fun n hn =>
  h n (by simp only [DataW.weights, hu, List.mem_cons, List.mem_append]; exact Or.inr (Or.inl (weightsAll_in hd n hn)))
theorem Fits.field {H : Type} {ds : List (DataW H)} {t : TypeId} {fs : Array Field} (h : Fits (.agg ds) t) (hu : Try.prog.underlying t = some (.struct fs)) {j : Nat} {d : DataW H} {q : TypeId} (ht : (fs.toList.map (·.type))[j]? = some q) (hd : ds[j]? = some d) : Fits d q := fun n hn =>
  h n (by simp only [DataW.weights, hu]; exact DataW.weights_mem_each ht hd n hn)

section
variable {H : Type} {enc : TypeId × Value → H} {w : World} {spare : Nat → Bool} {held : Bool} {fuel : Nat} {v : Value} {x : DataW H × List MemPlace}

set_option maxRecDepth 100000 in
theorem open_valsF (h : DataW.trod enc Try.prog w 0 spare held fuel 30 [v] = some x) :
    ∃ l : List Val, VSl w v l ∧ (∀ y ∈ l, VIn y) ∧ (Fits x.1 30 → l.length * 32 ≤ 140737488351232) := by
  have hf : ∃ a len cap, v = .slice a len cap := by
    rcases Deep.open_slice Try.underlying30 h with ⟨hcs, _⟩ | ⟨ad, ln, cp, m, n, D, Pl, hcs, _⟩
    · simp at hcs; exact ⟨_, _, _, hcs⟩
    · simp at hcs; exact ⟨_, _, _, hcs⟩
  obtain ⟨a, len, cap, rfl⟩ := hf
  rcases open_vals h with ⟨rfl, rfl, rfl⟩ | ⟨ad, l, es, sp, rfl, hl, hes, hd, hin, hvs⟩
  · exact ⟨[], VSl.of_owns (base := 0) (World.ownsRow_nil _ _ _ _), fun y hy => by simp at hy, fun _ => by simp⟩
  · refine ⟨l, by rw [hl] at hvs; exact hvs, hin, fun hF => ?_⟩
    rw [hd] at hF
    have := hF.slice Try.underlying30
    rw [bytesV32] at this
    omega

set_option maxRecDepth 100000 in
theorem open_colsF (h : DataW.trod enc Try.prog w 0 spare held fuel 49 [v] = some x) :
    ∃ l : List Col, CSl w v l ∧ (Fits x.1 49 → l.length * 24 ≤ 140737488351232) := by
  rcases Deep.open_slice Try.underlying49 h with ⟨hcs, _⟩ | ⟨ad, len, cap, m, n, D, Pl, hcs, _, hl, hm, hmm, rfl, hx⟩
  · simp at hcs
    subst hcs
    exact ⟨[], ⟨none, 0, 0, 0, rfl, Nat.le_refl _, fun h => by simp at h, fun h => by simp at h, fun j h => by simp at h, fun j h => by simp at h⟩, fun _ => by simp⟩
  · simp at hcs
    subst hcs
    have hlm : len ≤ m := by rw [hmm]; split <;> omega
    rw [cellsC2] at hx
    have each : ∀ i, i < len → ∃ c : Col, w.cell? (ad.add (i * 2)) = some (.string c.name) ∧ w.cell? (ad.add (i * 2 + 1)) = some (.int .i64 c.kind) := by
      intro i hi
      obtain ⟨cs', h1, h2⟩ := hx i (by omega)
      obtain ⟨_, hlen, hcell⟩ := World.cells?_some h1
      obtain ⟨y0, y1, k, _, _, g0, g1⟩ := ChangeShapes.trod_struct2 Try.underlying104 h2
      match cs', hlen with
      | [v0, v1], _ =>
        simp [cellsI1, cellsS1] at g0 g1
        obtain ⟨s, hs, _, hsz⟩ := DataW.trod_string Try.underlying9 g0
        obtain ⟨n1, hn, _, hwf⟩ := DataW.trod_int Try.underlying3 g1
        simp at hn hs
        subst hn hs
        have e0 := hcell 0 (by omega)
        have e1 := hcell 1 (by omega)
        rw [Deep.add_add] at e0 e1
        exact ⟨⟨s, n1⟩, by simpa using e0, by simpa using e1⟩
    obtain ⟨f, hf⟩ := @Deep.choose_lt Col ⟨⟨⟨#[]⟩, 0⟩⟩ _ _ each
    have hlen : ((List.range len).map f).length = len := by simp
    have hget : ∀ j, (hj : j < ((List.range len).map f).length) → ((List.range len).map f)[j] = f j := fun j hj => by simp
    refine ⟨(List.range len).map f, ?_, fun hF => ?_⟩
    · by_cases h0 : 0 < len
      · obtain ⟨b, off, spot⟩ := ad
        have hspot : spot = none := by simpa [Addr.add] using World.cell?_spot (hf 0 h0).1
        subst hspot
        have c0 : ∀ j, j < len → w.cell? ⟨b, off + j * 2, none⟩ = some (.string (f j).name) := fun j hj => by have := (hf j hj).1; rwa [Addr.add_lit] at this
        refine ⟨some ⟨b, off, none⟩, b, off, cap, by rw [hlen], by rw [hlen]; exact hl, ⟨fun _ => rfl, fun _ => World.block_lt_of_cell? w ⟨b, off + 0 * 2, none⟩ (c0 0 h0), ?_, ?_⟩⟩
        · intro j hj
          rw [hget j hj]
          exact c0 j (by simpa using hj)
        · intro j hj
          rw [hget j hj]
          have := (hf j (by simpa using hj)).2
          rwa [Addr.add_lit, ← Nat.add_assoc] at this
      · refine ⟨some ad, 0, 0, cap, by rw [hlen], by rw [hlen]; exact hl, ⟨fun h => ?_, fun h => ?_, fun j h => ?_, fun j h => ?_⟩⟩
        all_goals (rw [hlen] at h; omega)
    · have := hF.slice Try.underlying49
      rw [bytesC24] at this
      simpa using this

set_option maxRecDepth 100000 in
theorem open_intsF (h : DataW.trod enc Try.prog w 0 spare held fuel 22 [v] = some x) :
    ∃ l : List Int, ISl w v l ∧ (Fits x.1 22 → l.length * 8 ≤ 140737488351232) := by
  rcases Deep.open_slice1 Try.underlying22 cellsI1 h with ⟨hcs, _⟩ | ⟨ad, len, cap, m, n, V, D, Pl, hcs, _, hl, hm, hmm, rfl, hx⟩
  · simp at hcs
    subst hcs
    exact ⟨[], ⟨none, 0, 0, 0, rfl, fun h => by simp at h, fun h => by simp at h, fun j h => by simp at h⟩, fun _ => by simp⟩
  · simp at hcs
    subst hcs
    have hlm : len ≤ m := by rw [hmm]; split <;> omega
    have each : ∀ i, i < len → ∃ c : Int, w.cell? (ad.add i) = some (.int .i64 c) := by
      intro i hi
      obtain ⟨h1, h2⟩ := hx i (by omega)
      obtain ⟨n1, hn, _, hwf⟩ := DataW.trod_int Try.underlying3 h2
      simp at hn
      exact ⟨n1, by rw [h1, hn]⟩
    obtain ⟨f, hf⟩ := Deep.choose_lt each
    have hlen : ((List.range len).map f).length = len := by simp
    refine ⟨(List.range len).map f, ?_, fun hF => ?_⟩
    · by_cases h0 : 0 < len
      · obtain ⟨b, off, spot⟩ := ad
        have hspot : spot = none := by simpa [Addr.add] using World.cell?_spot (hf 0 h0)
        subst hspot
        have c0 : ∀ j, j < len → w.cell? ⟨b, off + j, none⟩ = some (.int .i64 (f j)) := fun j hj => by have := hf j hj; rwa [Addr.add_lit] at this
        refine ⟨some ⟨b, off, none⟩, b, off, cap, by rw [hlen], fun _ => rfl, fun _ => World.block_lt_of_cell? w ⟨b, off + 0, none⟩ (c0 0 h0), ?_⟩
        intro j hj
        rw [hlen] at hj
        rw [c0 j hj]
        simp [hj]
      · refine ⟨some ad, 0, 0, cap, by rw [hlen], fun h => ?_, fun h => ?_, fun j h => ?_⟩
        all_goals (rw [hlen] at h; omega)
    · have := hF.slice Try.underlying22
      rw [bytesI8] at this
      simpa using this

set_option maxRecDepth 100000 in
theorem open_rowsF (h : DataW.trod enc Try.prog w 0 spare held fuel 50 [v] = some x) :
    ∃ l : List (List Val), RSl w v l ∧ (∀ r ∈ l, ∀ y ∈ r, VIn y) ∧ (Fits x.1 50 → l.length * 24 ≤ 140737488351232 ∧ ∀ r ∈ l, r.length * 32 ≤ 140737488351232) := by
  rcases Deep.open_slice1 Try.underlying50 cellsVs h with ⟨hcs, _⟩ | ⟨ad, len, cap, m, n, V, D, Pl, hcs, _, hl, hm, hmm, rfl, hx⟩
  · simp at hcs
    subst hcs
    exact ⟨[], ⟨none, 0, 0, 0, rfl, Nat.le_refl _, fun h => by simp at h, fun h => by simp at h, fun j h => by simp at h⟩, fun r hr => by simp at hr, fun _ => ⟨by simp, fun r hr => by simp at hr⟩⟩
  · simp at hcs
    subst hcs
    have hlm : len ≤ m := by rw [hmm]; split <;> omega
    have each : ∀ i, i < len → ∃ l : List Val, VSl w (V i) l ∧ (∀ y ∈ l, VIn y) ∧ (Fits (D i) 30 → l.length * 32 ≤ 140737488351232) := fun i hi => open_valsF (hx i (by omega)).2
    obtain ⟨f, hf⟩ := Deep.choose_lt each
    have hlen : ((List.range len).map f).length = len := by simp
    have hget : ∀ j, (hj : j < ((List.range len).map f).length) → ((List.range len).map f)[j] = f j := fun j hj => by simp
    refine ⟨(List.range len).map f, ?_, ?_, fun hF => ⟨?_, ?_⟩⟩
    · by_cases h0 : 0 < len
      · obtain ⟨b, off, spot⟩ := ad
        have hspot : spot = none := by simpa [Addr.add] using World.cell?_spot (hx 0 (by omega)).1
        subst hspot
        have c0 : ∀ j, j < len → w.cell? ⟨b, off + j, none⟩ = some (V j) := fun j hj => by have := (hx j (by omega)).1; rwa [Addr.add_lit] at this
        refine ⟨some ⟨b, off, none⟩, b, off, cap, by rw [hlen], by rw [hlen]; exact hl, ⟨fun _ => rfl, fun _ => World.block_lt_of_cell? w ⟨b, off + 0, none⟩ (c0 0 h0), ?_⟩⟩
        intro j hj
        rw [hget j hj]
        exact ⟨_, c0 j (by simpa using hj), (hf j (by simpa using hj)).1⟩
      · refine ⟨some ad, 0, 0, cap, by rw [hlen], by rw [hlen]; exact hl, ⟨fun h => ?_, fun h => ?_, fun j h => ?_⟩⟩
        all_goals (rw [hlen] at h; omega)
    · intro r hr
      obtain ⟨i, hi, rfl⟩ := List.mem_map.1 hr
      exact (hf i (List.mem_range.1 hi)).2.1
    · have := hF.slice Try.underlying50
      rw [bytesVs24] at this
      simpa using this
    · intro r hr
      obtain ⟨i, hi, rfl⟩ := List.mem_map.1 hr
      exact (hf i (List.mem_range.1 hi)).2.2 (hF.elem Try.underlying50 (List.mem_map.2 ⟨i, hi, rfl⟩))
end
section
variable {H : Type} {enc : TypeId × Value → H} {w : World} {spare : Nat → Bool} {held : Bool} {fuel : Nat} {cs : Array Value} {x : DataW H × List MemPlace}
set_option maxRecDepth 100000 in
theorem open_tableF (h : DataW.trod enc Try.prog w 0 spare held fuel 52 cs.toList = some x) (hF : Fits x.1 52) :
    ∃ (cv rv : Value) (l : List Col) (rows : List (List Val)), cs = #[cv, rv] ∧ CSl w cv l ∧ l.length * 24 ≤ 140737488351232 ∧ RSl w rv rows ∧ (∀ r ∈ rows, ∀ y ∈ r, VIn y) ∧ rows.length * 24 ≤ 140737488351232 ∧ ∀ r ∈ rows, r.length * 32 ≤ 140737488351232 := by
  obtain ⟨y0, y1, k, rfl, hl, g0, g1⟩ := ChangeShapes.trod_struct2 Try.underlying52 h
  rw [cellsTb] at hl
  obtain ⟨cs⟩ := cs
  match cs, hl with
  | [cv, rv], _ =>
    simp [cellsCs, cellsRs] at g0 g1
    obtain ⟨l, h1, h2⟩ := open_colsF g0
    obtain ⟨rows, h3, h4, h5⟩ := open_rowsF g1
    obtain ⟨h6, h7⟩ := h5 (hF.field Try.underlying52 (j := 1) rfl rfl)
    exact ⟨cv, rv, l, rows, rfl, h1, h2 (hF.field Try.underlying52 (j := 0) rfl rfl), h3, h4, h6, h7⟩
set_option maxRecDepth 100000 in
theorem open_optsF (h : DataW.trod enc Try.prog w 0 spare held fuel 54 cs.toList = some x) (hF : Fits x.1 54) :
    ∃ (bd : Int) (ev : Value) (bo : Bool) (es : List Int), cs = #[.int .i64 bd, ev, .bool bo] ∧ ISl w ev es ∧ es.length * 8 ≤ 140737488351232 := by
  obtain ⟨y0, y1, y2, k, rfl, hl, g0, g1, g2⟩ := Deep.trod_struct3 Try.underlying54 h
  rw [cellsOp] at hl
  obtain ⟨cs⟩ := cs
  match cs, hl with
  | [a, ev, c], _ =>
    simp [cellsI1, cellsIs, cellsBl] at g0 g1 g2
    obtain ⟨bd, hb, _, _⟩ := DataW.trod_int Try.underlying3 g0
    obtain ⟨es, h1, h2⟩ := open_intsF g1
    obtain ⟨bo, hbo, _⟩ := DataW.trod_bool Try.underlying4 g2
    simp at hb hbo
    subst hb hbo
    exact ⟨bd, ev, bo, es, rfl, h1, h2 (hF.field Try.underlying54 (j := 1) rfl rfl)⟩
end
end Go.Proofs.Ytjidbonhhpkljaa.Ec

/- Which of two values is less: both sides. -/
set_option linter.unusedVariables false
namespace Go.Proofs.Ytjidbonhhpkljaa.Ec
open Go.RowKit Go.Proofs.Ytjidbonhhpkljaa.Pk

/-- How two numbers lie to each other. -/
def ncmp (a b : Int) : Int := if a < b then -1 else if b < a then 1 else 0
/-- How two values of a kind lie to each other. -/
def vcmp (x y : Val) : Int := if x.n < y.n then -1 else if y.n < x.n then 1 else Lib.compareBytes x.s.data.toList y.s.data.toList
theorem vcmp_or (x y : Val) : vcmp x y = if ncmp x.n y.n = 0 then Lib.compareBytes x.s.data.toList y.s.data.toList else ncmp x.n y.n := by
  unfold vcmp ncmp
  by_cases h1 : x.n < y.n
  · rw [if_pos h1, if_pos h1, if_neg (by omega)]
  · rw [if_neg h1, if_neg h1]
    by_cases h2 : y.n < x.n
    · rw [if_pos h2, if_pos h2, if_neg (by omega)]
    · rw [if_neg h2, if_neg h2, if_pos rfl]

theorem cmpCompare_any (a b : Int) (w : World) : Calls Try.prog 154 #[.int .i64 a, .int .i64 b] w fun e w' => e = .returned (.int .i64 (ncmp a b)) ∧ w' = w := by
  unfold ncmp
  go_enter Try.func154, Try.ntmps154
  by_cases h1 : a < b
  · rw [if_pos h1]
    go_wp2
    go_ret
    exact ⟨rfl, rfl⟩
  · rw [if_neg h1]
    by_cases h2 : b < a
    · rw [if_pos h2]
      go_wp2
      go_ret
      exact ⟨rfl, rfl⟩
    · rw [if_neg h2]
      go_wp2
      go_ret
      exact ⟨rfl, rfl⟩

set_option maxRecDepth 100000 in
theorem cmpString_any (a b : ByteArray) (w : World) : Calls Try.prog 159 #[.string a, .string b] w fun e w' => e = .returned (.int .i64 (Lib.compareBytes a.data.toList b.data.toList)) ∧ w' = w := by
  go_enter Try.func159, Try.ntmps159
  go_wp2
  rw [run_callFunc_extern Try.func160 (by kernel_rfl) (by kernel_rfl) (by kernel_rfl) (e := Extern.BytealgCompare.compare) (by kernel_rfl), Lib.run_compareString]
  simp only [Result.andThen]
  rw [Oper.upon_value]
  go_wp2
  go_ret
  exact ⟨rfl, rfl⟩

theorem sCompare_any (a b : ByteArray) (w : World) : Calls Try.prog 155 #[.string a, .string b] w fun e w' => e = .returned (.int .i64 (Lib.compareBytes a.data.toList b.data.toList)) ∧ w' = w := by
  go_enter Try.func155, Try.ntmps155
  go_wp2_with (go_at_call 159; refine (cmpString_any _ _ _).mono ?_; rintro e w' ⟨rfl, rfl⟩)
  go_ret
  exact ⟨rfl, rfl⟩

set_option maxRecDepth 100000 in
set_option maxHeartbeats 1000000 in
theorem cmpOr_any (a b : Int) (g : Nat) (w : World) (h0 : w.cell? ⟨g, 0, none⟩ = some (.int .i64 a)) (h1 : w.cell? ⟨g, 1, none⟩ = some (.int .i64 b)) :
    Calls Try.prog 153 #[.slice (some ⟨g, 0, none⟩) 2 2] w fun e w' => e = .returned (.int .i64 (if a = 0 then b else a)) ∧ w' = w := by
  go_enter Try.func153, Try.ntmps153
  go_wp2_with fail
  go_loopw [8] (fun i wr => ∃ j : Nat, j ≤ 2 ∧ i = .int .i64 (j : Int) ∧ (1 ≤ j → a = 0) ∧ (2 ≤ j → b = 0) ∧ wr = w) (fun i _ => 2 - (intOf i).toNat)
  case atStart => exact ⟨0, by omega, rfl, fun h => by omega, fun h => by omega, rfl⟩
  case round =>
    obtain ⟨j, hj, rfl, ha, hb, rfl⟩ := hrel
    have HA : Hid (1 ≤ j → a = 0) := ha
    have HB : Hid (2 ≤ j → b = 0) := hb
    clear ha hb
    match j, hj with
    | 0, _ =>
      by_cases hz : a = 0
      · have hd : (a != 0) = false := by simp [hz]
        have HZ : Hid (a = 0) := hz
        clear hz
        go_wp2
        go_roundw
        case rel =>
          refine ⟨1, by omega, rfl, fun _ => HZ.out, ?_⟩
          simp
        case measure => simp [intOf]
      · have hd : (a != 0) = true := by simp [hz]
        have HZ : Hid (¬ a = 0) := hz
        clear hz
        go_wp2
        go_ret
        exact ⟨rfl, rfl⟩
    | 1, _ =>
      obtain rfl : a = 0 := HA.out (by omega)
      by_cases hz : b = 0
      · have hd : (b != 0) = false := by simp [hz]
        have HZ : Hid (b = 0) := hz
        clear hz
        go_wp2
        go_roundw
        case rel =>
          refine ⟨2, by omega, rfl, ?_⟩
          simp
          try exact HZ.out
        case measure => simp [intOf]
      · have hd : (b != 0) = true := by simp [hz]
        clear hz
        go_wp2
        go_ret
        exact ⟨rfl, rfl⟩
    | 2, _ =>
      obtain rfl : a = 0 := HA.out (by omega)
      obtain rfl : b = 0 := HB.out (by omega)
      go_wp2
      go_ret
      exact ⟨rfl, rfl⟩
end Go.Proofs.Ytjidbonhhpkljaa.Ec

/- Bounds: the plain functions of both sides. -/
set_option linter.unusedVariables false
namespace Go.Proofs.Ytjidbonhhpkljaa.Ec
open Go.RowKit Go.Proofs.Ytjidbonhhpkljaa.Pk

theorem cmpB_anti : ∀ A B : List UInt8, Lib.compareBytes A B = - Lib.compareBytes B A
  | [], [] => rfl
  | [], _ :: _ => rfl
  | _ :: _, [] => rfl
  | a :: ra, b :: rb => by
    have ih := cmpB_anti ra rb
    simp only [Lib.compareBytes]
    by_cases h1 : a < b
    · rw [if_pos h1, if_neg (by rw [UInt8.lt_iff_toNat_lt] at h1 ⊢; omega), if_pos h1]
    · rw [if_neg h1]
      by_cases h2 : b < a
      · rw [if_pos h2, if_pos h2]; rfl
      · rw [if_neg h2, if_neg h2, if_neg h1, ih]
theorem vcmp_anti (x y : Val) : vcmp x y = - vcmp y x := by
  unfold vcmp
  by_cases h1 : x.n < y.n
  · rw [if_pos h1, if_neg (by omega), if_pos h1]
  · rw [if_neg h1]
    by_cases h2 : y.n < x.n
    · rw [if_pos h2, if_pos h2]; rfl
    · rw [if_neg h2, if_neg h2, if_neg h1]
      exact cmpB_anti _ _
theorem vcmp_self (x : Val) : vcmp x x = 0 := by
  have := vcmp_anti x x
  omega

/-- Bounds: whether they are there, the least, the greatest value. -/
structure Bnd where
  there : Bool
  least : Val
  most : Val
/-- No bounds. -/
def noBnd : Bnd := ⟨false, ⟨false, 0, ⟨#[]⟩⟩, ⟨false, 0, ⟨#[]⟩⟩⟩
/-- One value more. -/
def bstep (b : Bnd) (v : Val) : Bnd :=
  if v.null then b
  else ⟨true, if b.there = false ∨ vcmp v b.least < 0 then v else b.least, if b.there = false ∨ 0 < vcmp v b.most then v else b.most⟩
/-- The bounds of a list. -/
def boundsP (l : List Val) : Bnd := l.foldl bstep noBnd

/-- The same step, as the document does it. -/
def bstepR (b : Bnd) (v : Val) : Bnd :=
  if v.null then b
  else
    let c : Bnd := if b.there then b else ⟨true, v, v⟩
    ⟨true, if vcmp v c.least < 0 then v else c.least, if vcmp c.most v < 0 then v else c.most⟩
theorem bstepR_eq (b : Bnd) (v : Val) : bstepR b v = bstep b v := by
  unfold bstepR bstep
  by_cases hn : v.null = true
  · rw [if_pos hn, if_pos hn]
  · rw [if_neg hn, if_neg hn]
    cases hb : b.there
    · simp [vcmp_self]
    · have h := vcmp_anti b.most v
      by_cases h1 : vcmp b.most v < 0
      · have h2 : 0 < vcmp v b.most := by omega
        simp [h1, h2]
      · have h2 : ¬ 0 < vcmp v b.most := by omega
        simp [h1, h2]
theorem boundsP_take (l : List Val) (k : Nat) (h : k < l.length) : boundsP (l.take (k + 1)) = bstep (boundsP (l.take k)) l[k] := by
  unfold boundsP
  rw [List.take_succ_eq_append_getElem h, List.foldl_append]
  rfl
end Go.Proofs.Ytjidbonhhpkljaa.Ec

/- Compare: the program's side. -/
set_option linter.unusedVariables false
namespace Go.Proofs.Ytjidbonhhpkljaa.Ec
open Go.RowKit Go.Proofs.Ytjidbonhhpkljaa.Pk

theorem below_box2 {w : World} (o p : Obj) : Below w.heap.size w ((w.alloc o).alloc p) := ((Below.refl _ _).alloc (Nat.le_refl _) o).alloc (by simp) p

theorem box_four (w : World) (x y : Val) : (fun W : World => W.cell? ⟨w.heap.size, 1, none⟩ = some (.int .i64 x.n) ∧ W.cell? ⟨w.heap.size, 2, none⟩ = some (.string x.s) ∧ W.cell? ⟨w.heap.size + 1, 1, none⟩ = some (.int .i64 y.n) ∧ W.cell? ⟨w.heap.size + 1, 2, none⟩ = some (.string y.s)) ((w.alloc (.cells #[.bool x.null, .int .i64 x.n, .string x.s] 39)).alloc (.cells #[.bool y.null, .int .i64 y.n, .string y.s] 39)) := by
  refine ⟨?_, ?_, ?_, ?_⟩ <;> simp

set_option maxRecDepth 100000 in
set_option maxHeartbeats 4000000 in
theorem compare_any (x y : Val) (w : World) :
    Calls Try.prog 145 #[.agg #[.bool x.null, .int .i64 x.n, .string x.s], .agg #[.bool y.null, .int .i64 y.n, .string y.s]] w fun e w' => e = .returned (.int .i64 (vcmp x y)) ∧ Below w.heap.size w w' := by
  have H1 := cmpCompare_any x.n y.n
  have H2 := sCompare_any x.s y.s
  have H3 : Hid (∀ (W : World) (g : Nat), g = W.heap.size → Calls Try.prog 153 #[.slice (some ⟨g, 0, none⟩) 2 2] ((W.alloc (.cells #[.int .i64 (ncmp x.n y.n), .int .i64 (Lib.compareBytes x.s.data.toList y.s.data.toList)] 3)).drew) fun e w' => e = .returned (.int .i64 (vcmp x y)) ∧ w' = ((W.alloc (.cells #[.int .i64 (ncmp x.n y.n), .int .i64 (Lib.compareBytes x.s.data.toList y.s.data.toList)] 3)).drew)) := fun W g hg => by
    rw [vcmp_or]
    subst hg
    exact cmpOr_any _ _ W.heap.size _ (by simp) (by simp)
  generalize ncmp x.n y.n = c1 at *
  generalize Lib.compareBytes x.s.data.toList y.s.data.toList = c2 at *
  generalize vcmp x y = c3 at *
  go_enter Try.func145, Try.ntmps145
  go_upto_region 1 with fail
  have hb0 : Below w.heap.size w ((w.alloc (.cells #[.bool x.null, .int .i64 x.n, .string x.s] 39)).alloc (.cells #[.bool y.null, .int .i64 y.n, .string y.s] 39)) := below_box2 _ _
  have hS := box_four w x y
  have hg : w.heap.size + 1 < ((w.alloc (.cells #[.bool x.null, .int .i64 x.n, .string x.s] 39)).alloc (.cells #[.bool y.null, .int .i64 y.n, .string y.s] 39)).heap.size := by simp
  generalize (w.alloc (.cells #[.bool x.null, .int .i64 x.n, .string x.s] 39)).alloc (.cells #[.bool y.null, .int .i64 y.n, .string y.s] 39) = W0 at *
  obtain ⟨s1, s2, s3, s4⟩ := hS
  have hg1 : w.heap.size ≠ W0.heap.size := by omega
  have hg2 : w.heap.size + 1 ≠ W0.heap.size := by omega
  generalize w.heap.size + 1 = g2 at *
  go_region_held (fun W => W.cell? ⟨w.heap.size, 1, none⟩ = some (.int .i64 x.n) ∧ W.cell? ⟨w.heap.size, 2, none⟩ = some (.string x.s) ∧ W.cell? ⟨g2, 1, none⟩ = some (.int .i64 y.n) ∧ W.cell? ⟨g2, 2, none⟩ = some (.string y.s)) (go_keep) (first
    | (go_at_call 154; refine (H1 _).mono ?_; rintro e w1 ⟨rfl, hw⟩; rw [hw]; clear hw w1)
    | (go_at_call 155; refine (H2 _).mono ?_; rintro e w1 ⟨rfl, hw⟩; rw [hw]; clear hw w1)
    | (go_at_call 153; refine (H3.out _ _ rfl).mono ?_; rintro e w1 ⟨rfl, hw⟩; rw [hw]; clear hw w1))
  all_goals go_wp2_with fail
  all_goals go_ret
  all_goals exact ⟨rfl, (hb0.alloc hb0.size _).drew⟩
end Go.Proofs.Ytjidbonhhpkljaa.Ec

/- Bounds of a list of values: the program's side. -/
set_option linter.unusedVariables false
namespace Go.Proofs.Ytjidbonhhpkljaa.Ec
open Go.RowKit Go.Proofs.Ytjidbonhhpkljaa.Pk Go.Proofs.Ytjidbonhhpkljaa.Pm

theorem box_set_grown (w : World) (g o : Nat) (v : Value) : w.grownBy (w.setCell ⟨g, o, none⟩ v) (some g) :=
  ⟨rfl, rfl, rfl, by simp, fun k _ hne => heap_setCell_other _ _ _ _ (fun e => hne (by cases e; rfl))⟩
theorem below_set {n : Nat} {w w1 : World} (h : Below n w w1) (hs : n ≤ w1.heap.size) {g : Nat} (hg : n ≤ g) (o : Nat) (v : Value) : Below n w (w1.setCell ⟨g, o, none⟩ v) :=
  h.grown (box_set_grown w1 g o v) hs (by intro g' hg'; simp at hg'; omega)

theorem below_put {n : Nat} {w w1 : World} (h : Below n w w1) (hn : n ≤ w.heap.size) {g : Nat} (hg : n ≤ g) (o : Nat) (v : Value) : Below n w (w1.setCell ⟨g, o, none⟩ v) :=
  below_set h (Nat.le_trans hn h.size) hg o v
theorem alloc_at (w : World) (o : Obj) : (w.alloc o).heap[w.heap.size]? = some o := by
  show (w.heap.push o)[w.heap.size]? = some o
  simp
theorem alloc_old {w : World} {k : Nat} {x : Option Obj} (o : Obj) (h : k < w.heap.size) (hx : w.heap[k]? = x) : (w.alloc o).heap[k]? = x :=
  (((Below.refl w.heap.size w).alloc (Nat.le_refl _) o).block k h).trans hx

theorem alloc_at2 (w : World) (o p : Obj) : ((w.alloc o).alloc p).heap[w.heap.size + 1]? = some p := by
  have := alloc_at (w.alloc o) p
  rwa [show (w.alloc o).heap.size = w.heap.size + 1 by simp] at this

/-- The cells of bounds. -/
def bcell (b : Bnd) : Array Value := #[.bool b.there, .bool b.least.null, .int .i64 b.least.n, .string b.least.s, .bool b.most.null, .int .i64 b.most.n, .string b.most.s]
/-- Bounds in one piece. -/
def bval (b : Bnd) : Value := .agg #[.bool b.there, .bool b.least.null, .int .i64 b.least.n, .string b.least.s, .bool b.most.null, .int .i64 b.most.n, .string b.most.s]

/-- Where boundsOf stands: the answer's box, the box of the bounds so far, the box of a value. -/
structure BSt (w W : World) (gv : Nat) (x : Val) (b : Bnd) : Prop where
  box : W.heap[w.heap.size + 1]? = some (.cells (bcell b) 154 (0, 0))
  res : W.heap[w.heap.size]? = some (.cells (bcell noBnd) 154 (0, 0))
  one : W.heap[gv]? = some (.cells #[.bool x.null, .int .i64 x.n, .string x.s] 39 (0, 0))
  far : w.heap.size + 1 < gv
  bel : Below w.heap.size w W

theorem BSt.lt {w W : World} {gv : Nat} {x : Val} {b : Bnd} (h : BSt w W gv x b) : gv < W.heap.size := lt_of_block h.one
theorem BSt.below {w W W1 : World} {gv : Nat} {x : Val} {b : Bnd} (h : BSt w W gv x b) (hb : Below W.heap.size W W1) : BSt w W1 gv x b :=
  ⟨(hb.block _ (lt_of_block h.box)).trans h.box, (hb.block _ (lt_of_block h.res)).trans h.res, (hb.block _ (lt_of_block h.one)).trans h.one, h.far, h.bel.trans (hb.mono h.bel.size)⟩
theorem BSt.least {w W : World} {gv : Nat} {x : Val} {b : Bnd} (h : BSt w W gv x b) :
    BSt w (((W.setCell ⟨w.heap.size + 1, 1, none⟩ (.bool x.null)).setCell ⟨w.heap.size + 1, 2, none⟩ (.int .i64 x.n)).setCell ⟨w.heap.size + 1, 3, none⟩ (.string x.s)) gv x ⟨b.there, x, b.most⟩ := by
  have h1 := heap_setCell_same W (w.heap.size + 1) 1 _ _ (.bool x.null) h.box
  have h2 := heap_setCell_same _ (w.heap.size + 1) 2 _ _ (.int .i64 x.n) h1
  have h3 := heap_setCell_same _ (w.heap.size + 1) 3 _ _ (.string x.s) h2
  have hs := h.bel.size
  have hf := h.far
  refine ⟨h3, ?_, ?_, h.far, ?_⟩
  · rw [heap_setCell_other _ _ _ _ (by simp), heap_setCell_other _ _ _ _ (by simp), heap_setCell_other _ _ _ _ (by simp)]; exact h.res
  · rw [heap_setCell_other _ _ _ _ (by simp; omega), heap_setCell_other _ _ _ _ (by simp; omega), heap_setCell_other _ _ _ _ (by simp; omega)]; exact h.one
  · exact below_set (below_set (below_set h.bel hs (by omega) _ _) (by simpa using hs) (by omega) _ _) (by simpa using hs) (by omega) _ _
theorem BSt.most {w W : World} {gv : Nat} {x : Val} {b : Bnd} (h : BSt w W gv x b) :
    BSt w (((W.setCell ⟨w.heap.size + 1, 4, none⟩ (.bool x.null)).setCell ⟨w.heap.size + 1, 5, none⟩ (.int .i64 x.n)).setCell ⟨w.heap.size + 1, 6, none⟩ (.string x.s)) gv x ⟨b.there, b.least, x⟩ := by
  have h1 := heap_setCell_same W (w.heap.size + 1) 4 _ _ (.bool x.null) h.box
  have h2 := heap_setCell_same _ (w.heap.size + 1) 5 _ _ (.int .i64 x.n) h1
  have h3 := heap_setCell_same _ (w.heap.size + 1) 6 _ _ (.string x.s) h2
  have hs := h.bel.size
  have hf := h.far
  refine ⟨h3, ?_, ?_, h.far, ?_⟩
  · rw [heap_setCell_other _ _ _ _ (by simp), heap_setCell_other _ _ _ _ (by simp), heap_setCell_other _ _ _ _ (by simp)]; exact h.res
  · rw [heap_setCell_other _ _ _ _ (by simp; omega), heap_setCell_other _ _ _ _ (by simp; omega), heap_setCell_other _ _ _ _ (by simp; omega)]; exact h.one
  · exact below_set (below_set (below_set h.bel hs (by omega) _ _) (by simpa using hs) (by omega) _ _) (by simpa using hs) (by omega) _ _
theorem BSt.set {w W : World} {gv : Nat} {x : Val} {b : Bnd} (h : BSt w W gv x b) : BSt w (W.setCell ⟨w.heap.size + 1, 0, none⟩ (.bool true)) gv x ⟨true, b.least, b.most⟩ := by
  have h1 := heap_setCell_same W (w.heap.size + 1) 0 _ _ (.bool true) h.box
  have hs := h.bel.size
  have hf := h.far
  refine ⟨h1, ?_, ?_, h.far, ?_⟩
  · rw [heap_setCell_other _ _ _ _ (by simp)]; exact h.res
  · rw [heap_setCell_other _ _ _ _ (by simp; omega)]; exact h.one
  · exact below_set h.bel hs (by omega) _ _

theorem bnd_cells {w : World} {g : Nat} {b : Bnd} {t : TypeId} (h : w.heap[g]? = some (.cells (bcell b) t (0, 0))) :
    (w.cell? ⟨g, 0, none⟩ = some (.bool b.there) ∧ w.cell? ⟨g, 1, none⟩ = some (.bool b.least.null) ∧ w.cell? ⟨g, 2, none⟩ = some (.int .i64 b.least.n) ∧ w.cell? ⟨g, 3, none⟩ = some (.string b.least.s) ∧
      w.cell? ⟨g, 4, none⟩ = some (.bool b.most.null) ∧ w.cell? ⟨g, 5, none⟩ = some (.int .i64 b.most.n) ∧ w.cell? ⟨g, 6, none⟩ = some (.string b.most.s)) ∧
    (w.frozen? ⟨g, 0, none⟩ = false ∧ w.frozen? ⟨g, 1, none⟩ = false ∧ w.frozen? ⟨g, 2, none⟩ = false ∧ w.frozen? ⟨g, 3, none⟩ = false ∧ w.frozen? ⟨g, 4, none⟩ = false ∧ w.frozen? ⟨g, 5, none⟩ = false ∧ w.frozen? ⟨g, 6, none⟩ = false) := by
  unfold bcell at h
  refine ⟨⟨?_, ?_, ?_, ?_, ?_, ?_, ?_⟩, ?_, ?_, ?_, ?_, ?_, ?_, ?_⟩ <;> first | simp [World.cell?, h] | simp [World.frozen?, h]
theorem val_cells {w : World} {g : Nat} {a b c : Value} {t : TypeId} (h : w.heap[g]? = some (.cells #[a, b, c] t (0, 0))) :
    w.cell? ⟨g, 0, none⟩ = some a ∧ w.cell? ⟨g, 1, none⟩ = some b ∧ w.cell? ⟨g, 2, none⟩ = some c := by
  refine ⟨?_, ?_, ?_⟩ <;> simp [World.cell?, h]
theorem BSt.start {w wr : World} {b : Bnd} (x : Val) (hbx : wr.heap[w.heap.size + 1]? = some (.cells (bcell b) 154 (0, 0))) (hrs : wr.heap[w.heap.size]? = some (.cells (bcell noBnd) 154 (0, 0))) (hB : Below w.heap.size w wr) :
    BSt w (wr.alloc (.cells #[.bool x.null, .int .i64 x.n, .string x.s] 39)) wr.heap.size x b := by
  have h1 := lt_of_block hbx
  have h2 := lt_of_block hrs
  have hb := (Below.refl wr.heap.size wr).alloc (Nat.le_refl _) (.cells #[.bool x.null, .int .i64 x.n, .string x.s] 39)
  refine ⟨(hb.block _ h1).trans hbx, (hb.block _ h2).trans hrs, alloc_at _ _, by omega, hB.trans (hb.mono hB.size)⟩

theorem bnd_set {w : World} {g : Nat} {b0 : Bnd} (b : Bnd) {t : TypeId} (h : w.heap[g]? = some (.cells (bcell b0) t (0, 0))) :
    (((((((w.setCell ⟨g, 0, none⟩ (.bool b.there)).setCell ⟨g, 1, none⟩ (.bool b.least.null)).setCell ⟨g, 2, none⟩ (.int .i64 b.least.n)).setCell ⟨g, 3, none⟩ (.string b.least.s)).setCell ⟨g, 4, none⟩ (.bool b.most.null)).setCell ⟨g, 5, none⟩ (.int .i64 b.most.n)).setCell ⟨g, 6, none⟩ (.string b.most.s)).heap[g]? = some (.cells (bcell b) t (0, 0)) := by
  have h1 : (w.setCell ⟨g, 0, none⟩ (.bool b.there)).heap[g]? = some (.cells (bcell ⟨b.there, ⟨b0.least.null, b0.least.n, b0.least.s⟩, ⟨b0.most.null, b0.most.n, b0.most.s⟩⟩) t (0, 0)) := heap_setCell_same _ g 0 _ _ (.bool b.there) h
  have h2 : ((w.setCell ⟨g, 0, none⟩ (.bool b.there)).setCell ⟨g, 1, none⟩ (.bool b.least.null)).heap[g]? = some (.cells (bcell ⟨b.there, ⟨b.least.null, b0.least.n, b0.least.s⟩, ⟨b0.most.null, b0.most.n, b0.most.s⟩⟩) t (0, 0)) := heap_setCell_same _ g 1 _ _ (.bool b.least.null) h1
  have h3 : (((w.setCell ⟨g, 0, none⟩ (.bool b.there)).setCell ⟨g, 1, none⟩ (.bool b.least.null)).setCell ⟨g, 2, none⟩ (.int .i64 b.least.n)).heap[g]? = some (.cells (bcell ⟨b.there, ⟨b.least.null, b.least.n, b0.least.s⟩, ⟨b0.most.null, b0.most.n, b0.most.s⟩⟩) t (0, 0)) := heap_setCell_same _ g 2 _ _ (.int .i64 b.least.n) h2
  have h4 : ((((w.setCell ⟨g, 0, none⟩ (.bool b.there)).setCell ⟨g, 1, none⟩ (.bool b.least.null)).setCell ⟨g, 2, none⟩ (.int .i64 b.least.n)).setCell ⟨g, 3, none⟩ (.string b.least.s)).heap[g]? = some (.cells (bcell ⟨b.there, ⟨b.least.null, b.least.n, b.least.s⟩, ⟨b0.most.null, b0.most.n, b0.most.s⟩⟩) t (0, 0)) := heap_setCell_same _ g 3 _ _ (.string b.least.s) h3
  have h5 : (((((w.setCell ⟨g, 0, none⟩ (.bool b.there)).setCell ⟨g, 1, none⟩ (.bool b.least.null)).setCell ⟨g, 2, none⟩ (.int .i64 b.least.n)).setCell ⟨g, 3, none⟩ (.string b.least.s)).setCell ⟨g, 4, none⟩ (.bool b.most.null)).heap[g]? = some (.cells (bcell ⟨b.there, ⟨b.least.null, b.least.n, b.least.s⟩, ⟨b.most.null, b0.most.n, b0.most.s⟩⟩) t (0, 0)) := heap_setCell_same _ g 4 _ _ (.bool b.most.null) h4
  have h6 : ((((((w.setCell ⟨g, 0, none⟩ (.bool b.there)).setCell ⟨g, 1, none⟩ (.bool b.least.null)).setCell ⟨g, 2, none⟩ (.int .i64 b.least.n)).setCell ⟨g, 3, none⟩ (.string b.least.s)).setCell ⟨g, 4, none⟩ (.bool b.most.null)).setCell ⟨g, 5, none⟩ (.int .i64 b.most.n)).heap[g]? = some (.cells (bcell ⟨b.there, ⟨b.least.null, b.least.n, b.least.s⟩, ⟨b.most.null, b.most.n, b0.most.s⟩⟩) t (0, 0)) := heap_setCell_same _ g 5 _ _ (.int .i64 b.most.n) h5
  have h7 : (((((((w.setCell ⟨g, 0, none⟩ (.bool b.there)).setCell ⟨g, 1, none⟩ (.bool b.least.null)).setCell ⟨g, 2, none⟩ (.int .i64 b.least.n)).setCell ⟨g, 3, none⟩ (.string b.least.s)).setCell ⟨g, 4, none⟩ (.bool b.most.null)).setCell ⟨g, 5, none⟩ (.int .i64 b.most.n)).setCell ⟨g, 6, none⟩ (.string b.most.s)).heap[g]? = some (.cells (bcell ⟨b.there, ⟨b.least.null, b.least.n, b.least.s⟩, ⟨b.most.null, b.most.n, b.most.s⟩⟩) t (0, 0)) := heap_setCell_same _ g 6 _ _ (.string b.most.s) h6
  exact h7
theorem bnd_set_below {w w0 : World} {g : Nat} (b : Bnd) {n : Nat} (h0 : Below n w0 w) (hn : n ≤ w0.heap.size) (hg : n ≤ g) :
    Below n w0 (((((((w.setCell ⟨g, 0, none⟩ (.bool b.there)).setCell ⟨g, 1, none⟩ (.bool b.least.null)).setCell ⟨g, 2, none⟩ (.int .i64 b.least.n)).setCell ⟨g, 3, none⟩ (.string b.least.s)).setCell ⟨g, 4, none⟩ (.bool b.most.null)).setCell ⟨g, 5, none⟩ (.int .i64 b.most.n)).setCell ⟨g, 6, none⟩ (.string b.most.s)) :=
  below_put (below_put (below_put (below_put (below_put (below_put (below_put h0 hn hg _ _) hn hg _ _) hn hg _ _) hn hg _ _) hn hg _ _) hn hg _ _) hn hg _ _

set_option maxRecDepth 100000 in
set_option maxHeartbeats 8000000 in
theorem boundsOf_any (lv : Value) (l : List Val) (w : World) (hl : l.length ≤ 100) (hvs : VSl w lv l) :
    Calls Try.prog 124 #[lv] w fun e w' => e = .returned (bval (boundsP l)) ∧ Below w.heap.size w w' := by
  obtain ⟨ao, b, off, cap, rfl, hr⟩ := hvs
  have HR : Hid (VRow w ao b off l) := hr
  have HC := fun x y W => compare_any x y W
  clear hr
  go_enter Try.func124, Try.ntmps124
  go_wp2_with fail
  go_loopw [8] (fun i wr => ∃ k : Nat, k ≤ l.length ∧ i = .int .i64 (k : Int) ∧ wr.heap[w.heap.size + 1]? = some (.cells (bcell (boundsP (l.take k))) 154 (0, 0)) ∧ wr.heap[w.heap.size]? = some (.cells (bcell noBnd) 154 (0, 0)) ∧ Below w.heap.size w wr) (fun i _ => l.length - (intOf i).toNat)
  case atStart => exact ⟨0, Nat.zero_le _, rfl, alloc_at2 _ _ _, alloc_old _ (by simp) (alloc_at _ _), below_box2 _ _⟩
  case round =>
    obtain ⟨k, hk, rfl, hbx, hrs, hB⟩ := hrel
    have HB : Hid (Below w.heap.size w wr) := hB
    by_cases hlt : k < l.length
    · have hr := HR.out.below hB
      obtain rfl := hr.addr (by omega)
      have p0 := hr.c0 k hlt
      have p1 := hr.c1 k hlt
      have p2 := hr.c2 k hlt
      have HT : Hid (boundsP (l.take (k + 1)) = bstep (boundsP (l.take k)) l[k]) := boundsP_take l k hlt
      clear hr
      generalize boundsP (l.take k) = B1 at *
      generalize l[k] = x at *
      have HS : Hid (BSt w (wr.alloc (.cells #[.bool x.null, .int .i64 x.n, .string x.s] 39)) wr.heap.size x B1) := BSt.start x hbx hrs hB
      clear hbx hrs hB
      go_upto_region 5 with fail
      generalize wr.alloc (.cells #[.bool x.null, .int .i64 x.n, .string x.s] 39) = W0 at *
      generalize wr.heap.size = gv at *
      clear p0 p1 p2 HB HR
      have hne1 : ¬ gv = w.heap.size + 1 := by have := HS.out.far; omega
      have hne2 : ¬ w.heap.size + 1 = gv := by have := HS.out.far; omega
      obtain ⟨v0, v1, v2⟩ := val_cells HS.out.one
      obtain ⟨⟨c0, c1, c2, c3, c4, c5, c6⟩, f0, f1, f2, f3, f4, f5, f6⟩ := bnd_cells HS.out.box
      by_cases hn : x.null = true
      · have HE : Hid (boundsP (l.take (k + 1)) = B1) := by show _ = _; rw [HT.out]; unfold bstep; rw [if_pos hn]
        rw [hn] at v0
        clear HT hn
        go_wp2
        go_roundw
        case rel => exact ⟨k + 1, by omega, by go_num, by rw [HE.out]; exact HS.out.box, HS.out.res, HS.out.bel⟩
        case measure => simp [intOf]; omega
      · obtain ⟨xn, xi, xs⟩ := x
        obtain rfl : xn = false := by simpa using hn
        obtain ⟨bt, bl, bm⟩ := B1
        cases bt
        · have HE : Hid (boundsP (l.take (k + 1)) = ⟨true, ⟨false, xi, xs⟩, ⟨false, xi, xs⟩⟩) := by show _ = _; rw [HT.out]; unfold bstep; simp
          clear HT hn
          go_wp2
          go_roundw
          case rel => exact ⟨k + 1, by omega, by go_num, by rw [HE.out]; exact HS.out.least.most.set.box, HS.out.least.most.set.res, HS.out.least.most.set.bel⟩
          case measure => simp [intOf]; omega
        · have H1 : Hid (∀ W, Calls Try.prog 145 #[.agg #[.bool false, .int .i64 xi, .string xs], .agg #[.bool bl.null, .int .i64 bl.n, .string bl.s]] W fun e w' => e = .returned (.int .i64 (vcmp ⟨false, xi, xs⟩ bl)) ∧ Below W.heap.size W w') := fun W => compare_any ⟨false, xi, xs⟩ bl W
          have H2 : Hid (∀ W, Calls Try.prog 145 #[.agg #[.bool false, .int .i64 xi, .string xs], .agg #[.bool bm.null, .int .i64 bm.n, .string bm.s]] W fun e w' => e = .returned (.int .i64 (vcmp ⟨false, xi, xs⟩ bm)) ∧ Below W.heap.size W w') := fun W => compare_any ⟨false, xi, xs⟩ bm W
          have HE : Hid (boundsP (l.take (k + 1)) = ⟨true, if vcmp ⟨false, xi, xs⟩ bl < 0 then ⟨false, xi, xs⟩ else bl, if 0 < vcmp ⟨false, xi, xs⟩ bm then ⟨false, xi, xs⟩ else bm⟩) := by show _ = _; rw [HT.out]; unfold bstep; simp
          clear HT hn HC
          generalize vcmp ⟨false, xi, xs⟩ bl = k1 at *
          generalize vcmp ⟨false, xi, xs⟩ bm = k2 at *
          by_cases h1 : k1 < 0
          · have d1 : decide (k1 < 0) = true := by simpa using h1
            have HE2 : Hid (boundsP (l.take (k + 1)) = ⟨true, ⟨false, xi, xs⟩, if 0 < k2 then ⟨false, xi, xs⟩ else bm⟩) := by show _ = _; rw [HE.out, if_pos h1]
            clear HE h1
            go_upto_region 8 with (go_at_call 145; refine (H1.out _).mono ?_; rintro e w1 ⟨rfl, hb1⟩; have hs1 := HS.out.below hb1; obtain ⟨v0, v1, v2⟩ := val_cells hs1.one; obtain ⟨⟨c0, c1, c2, c3, c4, c5, c6⟩, f0, f1, f2, f3, f4, f5, f6⟩ := bnd_cells hs1.box)
            have HS2 : Hid (BSt w (((w1.setCell ⟨w.heap.size + 1, 1, none⟩ (.bool false)).setCell ⟨w.heap.size + 1, 2, none⟩ (.int .i64 xi)).setCell ⟨w.heap.size + 1, 3, none⟩ (.string xs)) gv ⟨false, xi, xs⟩ ⟨true, ⟨false, xi, xs⟩, bm⟩) := hs1.least
            generalize ((w1.setCell ⟨w.heap.size + 1, 1, none⟩ (.bool false)).setCell ⟨w.heap.size + 1, 2, none⟩ (.int .i64 xi)).setCell ⟨w.heap.size + 1, 3, none⟩ (.string xs) = W1 at *
            clear v0 v1 v2 c0 c1 c2 c3 c4 c5 c6 f0 f1 f2 f3 f4 f5 f6 d1 hs1 hb1 H1 HS
            obtain ⟨v0, v1, v2⟩ := val_cells HS2.out.one
            obtain ⟨⟨c0, c1, c2, c3, c4, c5, c6⟩, f0, f1, f2, f3, f4, f5, f6⟩ := bnd_cells HS2.out.box
            by_cases h2 : 0 < k2
            · have d2 : decide (0 < k2) = true := by simpa using h2
              have HE3 : Hid (boundsP (l.take (k + 1)) = ⟨true, ⟨false, xi, xs⟩, ⟨false, xi, xs⟩⟩) := by show _ = _; rw [HE2.out, if_pos h2]
              clear HE2 h2
              go_wp2_with (go_at_call 145; refine (H2.out _).mono ?_; rintro e w2 ⟨rfl, hb2⟩; have hs2 := HS2.out.below hb2; obtain ⟨v0, v1, v2⟩ := val_cells hs2.one; obtain ⟨⟨c0, c1, c2, c3, c4, c5, c6⟩, f0, f1, f2, f3, f4, f5, f6⟩ := bnd_cells hs2.box)
              go_roundw
              case rel => exact ⟨k + 1, by omega, by go_num, by rw [HE3.out]; exact hs2.most.set.box, hs2.most.set.res, hs2.most.set.bel⟩
              case measure => simp [intOf]; omega
            · have d2 : decide (0 < k2) = false := by simpa using h2
              have HE3 : Hid (boundsP (l.take (k + 1)) = ⟨true, ⟨false, xi, xs⟩, bm⟩) := by show _ = _; rw [HE2.out, if_neg h2]
              clear HE2 h2
              go_wp2_with (go_at_call 145; refine (H2.out _).mono ?_; rintro e w2 ⟨rfl, hb2⟩; have hs2 := HS2.out.below hb2; obtain ⟨v0, v1, v2⟩ := val_cells hs2.one; obtain ⟨⟨c0, c1, c2, c3, c4, c5, c6⟩, f0, f1, f2, f3, f4, f5, f6⟩ := bnd_cells hs2.box)
              go_roundw
              case rel => exact ⟨k + 1, by omega, by go_num, by rw [HE3.out]; exact hs2.set.box, hs2.set.res, hs2.set.bel⟩
              case measure => simp [intOf]; omega
          · have d1 : decide (k1 < 0) = false := by simpa using h1
            have HE2 : Hid (boundsP (l.take (k + 1)) = ⟨true, bl, if 0 < k2 then ⟨false, xi, xs⟩ else bm⟩) := by show _ = _; rw [HE.out, if_neg h1]
            clear HE h1
            go_upto_region 8 with (go_at_call 145; refine (H1.out _).mono ?_; rintro e w1 ⟨rfl, hb1⟩; have hs1 := HS.out.below hb1; obtain ⟨v0, v1, v2⟩ := val_cells hs1.one; obtain ⟨⟨c0, c1, c2, c3, c4, c5, c6⟩, f0, f1, f2, f3, f4, f5, f6⟩ := bnd_cells hs1.box)
            have HS2 : Hid (BSt w w1 gv ⟨false, xi, xs⟩ ⟨true, bl, bm⟩) := hs1
            clear v0 v1 v2 c0 c1 c2 c3 c4 c5 c6 f0 f1 f2 f3 f4 f5 f6 d1 hs1 hb1 H1 HS
            obtain ⟨v0, v1, v2⟩ := val_cells HS2.out.one
            obtain ⟨⟨c0, c1, c2, c3, c4, c5, c6⟩, f0, f1, f2, f3, f4, f5, f6⟩ := bnd_cells HS2.out.box
            by_cases h2 : 0 < k2
            · have d2 : decide (0 < k2) = true := by simpa using h2
              have HE3 : Hid (boundsP (l.take (k + 1)) = ⟨true, bl, ⟨false, xi, xs⟩⟩) := by show _ = _; rw [HE2.out, if_pos h2]
              clear HE2 h2
              go_wp2_with (go_at_call 145; refine (H2.out _).mono ?_; rintro e w2 ⟨rfl, hb2⟩; have hs2 := HS2.out.below hb2; obtain ⟨v0, v1, v2⟩ := val_cells hs2.one; obtain ⟨⟨c0, c1, c2, c3, c4, c5, c6⟩, f0, f1, f2, f3, f4, f5, f6⟩ := bnd_cells hs2.box)
              go_roundw
              case rel => exact ⟨k + 1, by omega, by go_num, by rw [HE3.out]; exact hs2.most.set.box, hs2.most.set.res, hs2.most.set.bel⟩
              case measure => simp [intOf]; omega
            · have d2 : decide (0 < k2) = false := by simpa using h2
              have HE3 : Hid (boundsP (l.take (k + 1)) = ⟨true, bl, bm⟩) := by show _ = _; rw [HE2.out, if_neg h2]
              clear HE2 h2
              go_wp2_with (go_at_call 145; refine (H2.out _).mono ?_; rintro e w2 ⟨rfl, hb2⟩; have hs2 := HS2.out.below hb2; obtain ⟨v0, v1, v2⟩ := val_cells hs2.one; obtain ⟨⟨c0, c1, c2, c3, c4, c5, c6⟩, f0, f1, f2, f3, f4, f5, f6⟩ := bnd_cells hs2.box)
              go_roundw
              case rel => exact ⟨k + 1, by omega, by go_num, by rw [HE3.out]; exact hs2.set.box, hs2.set.res, hs2.set.bel⟩
              case measure => simp [intOf]; omega
    · obtain rfl : k = l.length := by omega
      rw [List.take_length] at hbx
      obtain ⟨⟨c0, c1, c2, c3, c4, c5, c6⟩, -⟩ := bnd_cells hbx
      obtain ⟨-, f0, f1, f2, f3, f4, f5, f6⟩ := bnd_cells hrs
      obtain ⟨⟨r0, r1, r2, r3, r4, r5, r6⟩, -⟩ := bnd_cells hrs
      have HR2 : Hid _ := bnd_set (boundsP l) hrs
      have HB2 : Hid _ := bnd_set_below (boundsP l) hB (Nat.le_refl _) (Nat.le_refl w.heap.size)
      clear hB hbx hrs
      go_wp2
      obtain ⟨⟨g0, g1, g2, g3, g4, g5, g6⟩, -⟩ := bnd_cells HR2.out
      simp [bodyPost, results, Try.results124, go_sem, g0, g1, g2, g3, g4, g5, g6]
      exact ⟨rfl, HB2.out⟩
end Go.Proofs.Ytjidbonhhpkljaa.Ec

/- The contracts of the code's Reader: a byte is taken, or the bytes are given up by a panic. -/
set_option linter.unusedVariables false
namespace Go.Proofs.Ytjidbonhhpkljaa.Pk
open Go.RowKit Go.Proofs.Ytjidbonhhpkljaa.Pm

theorem extract_one (s : ByteArray) (p : Nat) (h : p < s.size) : s.extract p (p + 1) = ⟨#[s[p]]⟩ := by
  apply bytesOf_inj
  unfold bytesOf
  congr 1
  rw [ByteArray.data_extract]
  simp only [Array.toList_extract]
  have h2 : p < s.data.toList.length := h
  rw [show List.extract s.data.toList p (p + 1) = (s.data.toList.drop p).take 1 from by simp [List.extract], List.drop_eq_getElem_cons h2]
  rfl

/-- The block of a Reader. -/
def rdr (s : ByteArray) (p : Nat) : Obj := .cells #[.string s, .int .i64 (p : Int)] 181 (0, 0)

/-- The panic by which a Reader gives up. -/
def badAt (p : Nat) : List PanicEntry := [{ v := .iface 183 (.agg #[.int .i64 (p : Int)]), recovered := false }]

theorem rdr_cells {w : World} {r p : Nat} {s : ByteArray} (h : w.heap[r]? = some (rdr s p)) :
    w.cell? ⟨r, 0, none⟩ = some (.string s) ∧ w.cell? ⟨r, 1, none⟩ = some (.int .i64 (p : Int)) ∧ w.frozen? ⟨r, 0, none⟩ = false ∧ w.frozen? ⟨r, 1, none⟩ = false := by
  unfold rdr at h
  refine ⟨?_, ?_, ?_, ?_⟩
  · simp [World.cell?, h]
  · simp [World.cell?, h]
  · simp [World.frozen?, h]
  · simp [World.frozen?, h]

theorem drew_set (w : World) (a : Addr) (v : Value) (m n : Nat) : ((w.drewN m).setCell a v).drewN n = (w.setCell a v).drewN (m + n) := by
  rw [show (w.drewN m).setCell a v = (w.setCell a v).drewN m from by unfold World.setCell; rfl, World.drewN_drewN]

set_option maxRecDepth 100000 in
set_option maxHeartbeats 1000000 in
theorem giveUp_any (r p : Nat) (s : ByteArray) (w : World) (h : w.heap[r]? = some (rdr s p)) :
    Calls Try.prog 84 #[.pointer (some ⟨r, 0, none⟩)] w fun e w' => e = .panicked (badAt p) ∧ w' = w := by
  obtain ⟨c0, c1, f0, f1⟩ := rdr_cells h
  clear h
  go_enter Try.func84, Try.ntmps84
  go_wp2
  exact ⟨rfl, rfl, rfl⟩

set_option maxRecDepth 100000 in
set_option maxHeartbeats 1000000 in
theorem take_bad (r p : Nat) (s : ByteArray) (w : World) (hm : s.size ≤ maxLen) (hp : ¬ p < s.size) (hp2 : p ≤ s.size) (h : w.heap[r]? = some (rdr s p)) :
    Calls Try.prog 119 #[.pointer (some ⟨r, 0, none⟩), .int .i64 1] w fun e w' => e = .panicked (badAt p) ∧ ∃ n, w' = w.drewN n := by
  obtain ⟨c0, c1, f0, f1⟩ := rdr_cells h
  unfold maxLen at hm
  have HR : Hid (w.heap[r]? = some (rdr s p)) := h
  clear h
  have hd : decide ((s.size : Int) - (p : Int) < 1) = true := by simp; omega
  go_enter Try.func119, Try.ntmps119
  go_wp2_with fail
  go_quiet (fail)
  go_wp2_with (go_at_call 84; refine (giveUp_any r p s _ (by exact HR.out)).mono ?_; rintro e w' ⟨rfl, rfl⟩)
  exact ⟨rfl, rfl, nq, rfl⟩

set_option maxRecDepth 100000 in
set_option maxHeartbeats 1000000 in
theorem take_ok (r p : Nat) (s : ByteArray) (w : World) (hm : s.size ≤ maxLen) (hp : p < s.size) (h : w.heap[r]? = some (rdr s p)) :
    Calls Try.prog 119 #[.pointer (some ⟨r, 0, none⟩), .int .i64 1] w fun e w' => e = .returned (.string ⟨#[s[p]]⟩) ∧ ∃ n, w' = (w.setCell ⟨r, 1, none⟩ (.int .i64 ((p + 1 : Nat) : Int))).drewN n := by
  obtain ⟨c0, c1, f0, f1⟩ := rdr_cells h
  unfold maxLen at hm
  clear h
  have hd : decide ((s.size : Int) - (p : Int) < 1) = false := by simp; omega
  have q1 : (0 : Int) ≤ (p : Int) + 1 := by omega
  have q2 : (p : Int) + 1 ≤ (s.size : Int) := by omega
  have q3 : (p : Int) ≤ (p : Int) + 1 := by omega
  have q4 : ((p : Int) + 1).toNat = p + 1 := by omega
  have q5 := extract_one s p hp
  go_enter Try.func119, Try.ntmps119
  go_wp2_with fail
  go_quiet (fail)
  generalize nq = m at *
  go_wp2_with fail
  go_quiet (fail)
  go_wp2
  go_ret
  exact ⟨rfl, m + nq, drew_set _ _ _ _ _⟩

set_option maxRecDepth 100000 in
set_option maxHeartbeats 1000000 in
theorem byte_bad (r p : Nat) (s : ByteArray) (w : World) (hm : s.size ≤ maxLen) (hp : ¬ p < s.size) (hp2 : p ≤ s.size) (h : w.heap[r]? = some (rdr s p)) :
    Calls Try.prog 83 #[.pointer (some ⟨r, 0, none⟩)] w fun e w' => e = .panicked (badAt p) ∧ ∃ n, w' = w.drewN n := by
  have HR : Hid (w.heap[r]? = some (rdr s p)) := h
  clear h
  go_enter Try.func83, Try.ntmps83
  go_wp2_with (go_at_call 119; refine (take_bad r p s _ hm hp hp2 HR.out).mono ?_; rintro e w' ⟨rfl, n, rfl⟩)
  exact ⟨rfl, rfl, n, rfl⟩

set_option maxRecDepth 100000 in
set_option maxHeartbeats 1000000 in
theorem byte_ok (r p : Nat) (s : ByteArray) (w : World) (hm : s.size ≤ maxLen) (hp : p < s.size) (h : w.heap[r]? = some (rdr s p)) :
    Calls Try.prog 83 #[.pointer (some ⟨r, 0, none⟩)] w fun e w' => e = .returned (.int .u8 (s[p].toNat : Int)) ∧ ∃ n, w' = (w.setCell ⟨r, 1, none⟩ (.int .i64 ((p + 1 : Nat) : Int))).drewN n := by
  have HR : Hid (w.heap[r]? = some (rdr s p)) := h
  clear h
  go_enter Try.func83, Try.ntmps83
  go_wp2_with (go_at_call 119; refine (take_ok r p s _ hm hp HR.out).mono ?_; rintro e w' ⟨rfl, n, rfl⟩)
  go_ret
  exact ⟨rfl, n, rfl⟩

set_option maxRecDepth 100000 in
set_option maxHeartbeats 1000000 in
theorem end_bad (r p : Nat) (s : ByteArray) (w : World) (hm : s.size ≤ maxLen) (hp : p < s.size) (h : w.heap[r]? = some (rdr s p)) :
    Calls Try.prog 111 #[.pointer (some ⟨r, 0, none⟩)] w fun e w' => e = .panicked (badAt p) ∧ ∃ n, w' = w.drewN n := by
  obtain ⟨c0, c1, f0, f1⟩ := rdr_cells h
  unfold maxLen at hm
  have HR : Hid (w.heap[r]? = some (rdr s p)) := h
  clear h
  have hd : decide ((p : Int) < (s.size : Int)) = true := by simp; omega
  go_enter Try.func111, Try.ntmps111
  go_wp2_with fail
  go_quiet (fail)
  go_wp2_with (go_at_call 84; refine (giveUp_any r p s _ (by exact HR.out)).mono ?_; rintro e w' ⟨rfl, rfl⟩)
  exact ⟨rfl, rfl, nq, rfl⟩

set_option maxRecDepth 100000 in
set_option maxHeartbeats 1000000 in
theorem end_ok (r p : Nat) (s : ByteArray) (w : World) (hm : s.size ≤ maxLen) (hp : ¬ p < s.size) (h : w.heap[r]? = some (rdr s p)) :
    Calls Try.prog 111 #[.pointer (some ⟨r, 0, none⟩)] w fun e w' => e = .returned (.tuple #[]) ∧ ∃ n, w' = w.drewN n := by
  obtain ⟨c0, c1, f0, f1⟩ := rdr_cells h
  unfold maxLen at hm
  clear h
  have hd : decide ((p : Int) < (s.size : Int)) = false := by simp; omega
  go_enter Try.func111, Try.ntmps111
  go_wp2_with fail
  go_quiet (fail)
  go_wp2
  go_end0
  exact ⟨rfl, nq, rfl⟩

set_option maxRecDepth 100000 in
set_option maxHeartbeats 1000000 in
theorem newReader_any (s : ByteArray) (w : World) :
    Calls Try.prog 100 #[.string s] w fun e w' => e = .returned (.pointer (some ⟨w.heap.size, 0, none⟩)) ∧ w' = w.alloc (rdr s 0) := by
  go_enter Try.func100, Try.ntmps100
  go_wp2
  go_ret
  exact ⟨rfl, rfl⟩

theorem rdr_set {w : World} {r p q : Nat} {s : ByteArray} (h : w.heap[r]? = some (rdr s p)) (n : Nat) : ((w.setCell ⟨r, 1, none⟩ (.int .i64 (q : Int))).drewN n).heap[r]? = some (rdr s q) := by
  show (w.setCell ⟨r, 1, none⟩ (.int .i64 (q : Int))).heap[r]? = _
  unfold rdr at *
  rw [heap_setCell_same w r 1 _ _ _ h]
  rfl

/-- But for the Reader's block all that was there has stayed. -/
def Kp (r : Nat) (w w' : World) : Prop := w.grownBy w' (some r)
theorem Kp.refl (r : Nat) (w : World) : Kp r w w := World.grownBy.refl w _
theorem Kp.size {r : Nat} {w w' : World} (h : Kp r w w') : w.heap.size ≤ w'.heap.size := World.grownBy.size h
theorem Kp.trans {r : Nat} {w w1 w2 : World} (h : Kp r w w1) (k : Kp r w1 w2) : Kp r w w2 :=
  ⟨k.os.trans h.os, k.tape.trans h.tape, k.output.trans h.output, Nat.le_trans (World.grownBy.size h) (World.grownBy.size k), fun i hi hne => (World.grownBy.block k i (Nat.lt_of_lt_of_le hi (World.grownBy.size h)) hne).trans (World.grownBy.block h i hi hne)⟩
theorem Kp.drewN {r : Nat} {w w1 : World} (h : Kp r w w1) (n : Nat) : Kp r w (w1.drewN n) := Kp.trans h ⟨rfl, rfl, rfl, Nat.le_refl _, fun _ _ _ => rfl⟩
theorem Kp.alloc {r : Nat} {w w1 : World} (h : Kp r w w1) (o : Obj) : Kp r w (w1.alloc o) := Kp.trans h (World.grownBy_alloc w1 o _)
theorem Kp.grown {r : Nat} {w w1 w2 : World} {row : Option Nat} (h : Kp r w w1) (k : w1.grownBy w2 row) (hr : ∀ g, row = some g → w.heap.size ≤ g) : Kp r w w2 :=
  ⟨k.os.trans h.os, k.tape.trans h.tape, k.output.trans h.output, Nat.le_trans (World.grownBy.size h) k.size, fun i hi hne => (k.block i (Nat.lt_of_lt_of_le hi (World.grownBy.size h)) (fun e => by have := hr i e.symm; omega)).trans (World.grownBy.block h i hi hne)⟩
theorem Kp.set {r : Nat} {w w1 : World} (h : Kp r w w1) (o : Nat) (v : Value) (n : Nat) : Kp r w ((w1.setCell ⟨r, o, none⟩ v).drewN n) :=
  Kp.trans h ⟨rfl, rfl, rfl, by simp, fun i hi hne => by
    show (w1.setCell ⟨r, o, none⟩ v).heap[i]? = _
    exact heap_setCell_other _ _ _ _ (fun e => hne (by cases e; rfl))⟩
theorem Kp.below {r : Nat} {w w1 : World} (h : Kp r w w1) (hr : r ≤ w.heap.size) : Below r w w1 := ⟨h.os, h.tape, h.output, World.grownBy.size h, fun i hi => World.grownBy.block h i (by omega) (fun e => by cases e; omega)⟩
theorem Kp.of_below {r : Nat} {w w1 : World} (h : Below w.heap.size w w1) : Kp r w w1 := ⟨h.os, h.tape, h.output, h.size, fun i hi _ => h.block i hi⟩
theorem Kp.own {r : Nat} {w w1 : World} {base e size n : Nat} {v : Value} {xs : List Value} (k : Kp r w w1) (h : w.ownsRow base e size v n xs) (hr : r < base) : w1.ownsRow base e size v n xs :=
  h.kept k (by
    cases hv : v.ownBlock with
    | none => exact .inl rfl
    | some g => exact .inr (fun e => by cases e; have := (h.lt r hv).1; omega))
theorem Kp.block {r : Nat} {w w1 : World} (k : Kp r w w1) {i : Nat} {o : Obj} (h : w.heap[i]? = some o) (hne : i ≠ r) : w1.heap[i]? = some o := by
  rw [World.grownBy.block k i (lt_of_block h) (fun e => hne (by cases e; rfl))]; exact h
end Go.Proofs.Ytjidbonhhpkljaa.Pk

/- Reading, as plain mathematics: what comes next in bytes, varints, runs; and that nothing else can stand there. -/
set_option linter.unusedVariables false
namespace Go.Proofs.Ytjidbonhhpkljaa.Ec
open Go.RowKit Go.Proofs.Ytjidbonhhpkljaa.Pk Go.Proofs.Ytjidbonhhpkljaa.Pm

/-- At place p these bytes come next. -/
def Starts (B : List Nat) (p : Nat) (xs : List Nat) : Prop := xs <+: B.drop p

theorem starts_nil (B : List Nat) (p : Nat) : Starts B p [] := List.nil_prefix
theorem starts_append {B : List Nat} {p : Nat} {a b : List Nat} : Starts B p (a ++ b) ↔ Starts B p a ∧ Starts B (p + a.length) b := by
  unfold Starts
  constructor
  · rintro ⟨t, ht⟩
    refine ⟨⟨b ++ t, by rw [← ht]; simp⟩, ⟨t, ?_⟩⟩
    rw [← List.drop_drop, ← ht]; simp
  · rintro ⟨⟨t, ht⟩, ⟨t2, ht2⟩⟩
    refine ⟨t2, ?_⟩
    rw [← List.drop_drop, ← ht] at ht2
    simp at ht2
    rw [← ht, List.append_assoc, ht2]
theorem starts_cons {B : List Nat} {p x : Nat} {r : List Nat} : Starts B p (x :: r) ↔ B[p]? = some x ∧ Starts B (p + 1) r := by
  rw [show x :: r = [x] ++ r from rfl, starts_append]
  have : Starts B p [x] ↔ B[p]? = some x := by
    unfold Starts
    rw [← List.head?_drop]
    cases B.drop p with
    | nil => simp
    | cons y t => simp [List.cons_prefix_cons]; exact eq_comm
  rw [this]
  rfl
theorem starts_one {B : List Nat} {p x : Nat} : Starts B p [x] ↔ B[p]? = some x := by
  rw [starts_cons]; simp [starts_nil]
theorem starts_len {B : List Nat} {p : Nat} {xs : List Nat} (h : Starts B p xs) (hp : p ≤ B.length) : p + xs.length ≤ B.length := by
  have := h.length_le
  rw [List.length_drop] at this
  omega
theorem starts_whole {B xs : List Nat} (h : Starts B 0 xs) (hl : ¬ 0 + xs.length < B.length) : xs = B := by
  unfold Starts at h
  rw [List.drop_zero] at h
  exact h.eq_of_length_le (by omega)
theorem starts_of_eq {B xs : List Nat} (h : xs = B) : Starts B 0 xs := by
  subst h
  unfold Starts
  exact List.prefix_refl _
/-- Two pieces of the same length that come next are alike. -/
theorem starts_same {B : List Nat} {p : Nat} {a b : List Nat} (ha : Starts B p a) (hb : Starts B p b) (hl : a.length = b.length) : a = b :=
  (List.prefix_of_prefix_length_le ha hb (by omega)).eq_of_length hl

theorem starts_vint_hi {B : List Nat} {p f c x : Nat} (hc : B[p]? = some c) (h : 128 ≤ c) (hs : Starts B p (vintF (f + 1) x)) : 128 ≤ x ∧ x % 128 + 128 = c ∧ Starts B (p + 1) (vintF f (x / 128)) := by
  by_cases hx : x < 128
  · rw [vintF_small f x hx, starts_one, hc] at hs
    simp at hs; omega
  · rw [vintF_big f x hx, starts_cons, hc] at hs
    simp at hs
    exact ⟨by omega, hs.1.symm, hs.2⟩
theorem starts_vint_lo {B : List Nat} {p f c x : Nat} (hc : B[p]? = some c) (h : c < 128) : Starts B p (vintF (f + 1) x) ↔ x = c := by
  by_cases hx : x < 128
  · rw [vintF_small f x hx, starts_one, hc]
    simp; exact eq_comm
  · rw [vintF_big f x hx, starts_cons, hc]
    simp; omega

/-- A varint of which j bytes were read, all of them high. -/
structure VSt (B : List Nat) (p j acc : Nat) : Prop where
  lt : acc < 128 ^ j
  all : ∀ v, v < 18446744073709551616 → (Starts B p (vint v) ↔ ∃ x, v = acc + 128 ^ j * x ∧ (x ≠ 0 ∨ j = 0) ∧ Starts B (p + j) (vintF (10 - j) x))
  len : ∀ x, (x ≠ 0 ∨ j = 0) → (vint (acc + 128 ^ j * x)).length = j + (vintF (10 - j) x).length

theorem VSt.zero (B : List Nat) (p : Nat) : VSt B p 0 0 :=
  ⟨by simp, fun v _ => ⟨fun h => ⟨v, by simp, .inr rfl, h⟩, fun ⟨x, h1, _, h2⟩ => by simp at h1; subst h1; exact h2⟩, fun x _ => by simp [vint]⟩

theorem VSt.more {B : List Nat} {p j acc c : Nat} (h : VSt B p j acc) (hj : j < 10) (hc : B[p + j]? = some c) (h1 : 128 ≤ c) (h2 : c < 256) : VSt B p (j + 1) (acc + 128 ^ j * (c - 128)) := by
  have hlt := h.lt
  have hf : 10 - j = (10 - (j + 1)) + 1 := by omega
  have hkey : ∀ x, c - 128 + 128 * x = 128 * x + (c - 128) := fun x => by omega
  have hexp : ∀ x, acc + 128 ^ j * (c - 128) + 128 ^ (j + 1) * x = acc + 128 ^ j * (c - 128 + 128 * x) := fun x => by
    rw [Nat.pow_succ, Nat.mul_add, Nat.mul_assoc]; omega
  refine ⟨?_, ?_, ?_⟩
  · have h3 : 128 ^ j * (c - 128) ≤ 128 ^ j * 127 := Nat.mul_le_mul_left _ (by omega)
    rw [Nat.pow_succ]
    omega
  · intro v hv
    rw [h.all v hv]
    constructor
    · rintro ⟨x, h3, h4, h5⟩
      rw [hf] at h5
      obtain ⟨h6, h7, h8⟩ := starts_vint_hi hc h1 h5
      refine ⟨x / 128, ?_, .inl (by omega), by rw [← Nat.add_assoc]; exact h8⟩
      rw [hexp, h3]
      congr 2
      omega
    · rintro ⟨x, h3, h4, h5⟩
      have hx : x ≠ 0 := by rcases h4 with h | h; exact h; omega
      refine ⟨c - 128 + 128 * x, by rw [h3, hexp], .inl (by omega), ?_⟩
      rw [hf, vintF_big _ _ (by omega), starts_cons]
      refine ⟨by rw [hc]; congr 1; omega, ?_⟩
      rw [show (c - 128 + 128 * x) / 128 = x by omega, Nat.add_assoc]
      exact h5
  · intro x hx
    have hx : x ≠ 0 := by rcases hx with h | h; exact h; omega
    rw [hexp, h.len _ (.inl (by omega)), hf, vintF_big _ _ (by omega), show (c - 128 + 128 * x) / 128 = x by omega]
    simp; omega

theorem VSt.fin {B : List Nat} {p j acc c : Nat} (h : VSt B p j acc) (hj : j < 10) (hc : B[p + j]? = some c) (h1 : c < 128) (v : Nat) (hv : v < 18446744073709551616) :
    Starts B p (vint v) ↔ v = acc + 128 ^ j * c ∧ (c ≠ 0 ∨ j = 0) := by
  rw [h.all v hv]
  have hf : 10 - j = (10 - (j + 1)) + 1 := by omega
  constructor
  · rintro ⟨x, h3, h4, h5⟩
    rw [hf, starts_vint_lo hc h1] at h5
    subst h5
    exact ⟨h3, h4⟩
  · rintro ⟨h3, h4⟩
    exact ⟨c, h3, h4, by rw [hf, starts_vint_lo hc h1]⟩
theorem VSt.fin_len {B : List Nat} {p j acc c : Nat} (h : VSt B p j acc) (hj : j < 10) (h1 : c < 128) (hc : c ≠ 0 ∨ j = 0) : (vint (acc + 128 ^ j * c)).length = j + 1 := by
  rw [h.len c hc, show 10 - j = (10 - (j + 1)) + 1 by omega, vintF_small _ _ h1]
  rfl
theorem VSt.none {B : List Nat} {p j acc : Nat} (h : VSt B p j acc) (hj : j < 10) (hp : ¬ p + j < B.length) (v : Nat) (hv : v < 18446744073709551616) : ¬ Starts B p (vint v) := by
  rw [h.all v hv]
  rintro ⟨x, h3, h4, h5⟩
  rw [show 10 - j = (10 - (j + 1)) + 1 by omega] at h5
  have hn : B[p + j]? = Option.none := List.getElem?_eq_none (by omega)
  by_cases hx : x < 128
  · rw [vintF_small _ _ hx, starts_one, hn] at h5; simp at h5
  · rw [vintF_big _ _ hx, starts_cons, hn] at h5; simp at h5
theorem VSt.ten {B : List Nat} {p acc : Nat} (h : VSt B p 10 acc) (v : Nat) (hv : v < 18446744073709551616) : ¬ Starts B p (vint v) := by
  rw [h.all v hv]
  rintro ⟨x, h3, h4, h5⟩
  have : (128 : Nat) ^ 10 = 1180591620717411303424 := by decide
  rw [this] at h3
  omega
theorem VSt.top {B : List Nat} {p j acc c : Nat} (h : VSt B p j acc) (hj : j < 9 ∨ (j = 9 ∧ c ≤ 1)) (hc : c < 128) : acc + 128 ^ j * c < 18446744073709551616 := by
  have hlt := h.lt
  rcases hj with h1 | ⟨rfl, h1⟩
  · have h2 : 128 ^ (j + 1) ≤ 128 ^ 9 := Nat.pow_le_pow_right (by omega) (by omega)
    have h3 : (128 : Nat) ^ 9 = 9223372036854775808 := by decide
    rw [Nat.pow_succ] at h2
    have h4 : 128 ^ j * c ≤ 128 ^ j * 127 := Nat.mul_le_mul_left _ (by omega)
    omega
  · have h3 : (128 : Nat) ^ 9 = 9223372036854775808 := by decide
    rw [h3] at hlt ⊢
    omega
theorem VSt.over {B : List Nat} {p acc c : Nat} (h : 1 < c) : ¬ acc + 128 ^ 9 * c < 18446744073709551616 := by
  have h3 : (128 : Nat) ^ 9 = 9223372036854775808 := by decide
  rw [h3]
  omega

/-- Two numbers whose varints come next are alike. -/
theorem vint_one {B : List Nat} {p a b : Nat} (ha : a < 18446744073709551616) (hb : b < 18446744073709551616) (h1 : Starts B p (vint a)) (h2 : Starts B p (vint b)) : a = b := by
  have key : ∀ f a b p, a < 128 ^ f → b < 128 ^ f → Starts B p (vintF f a) → Starts B p (vintF f b) → a = b := by
    intro f
    induction f with
    | zero => intro a b p h1 h2; simp at h1 h2; omega
    | succ f ih =>
      intro a b p h1 h2 h3 h4
      by_cases ha : a < 128
      · rw [vintF_small f a ha, starts_one] at h3
        exact ((starts_vint_lo h3 ha).1 h4).symm
      · rw [vintF_big f a ha, starts_cons] at h3
        obtain ⟨h5, h6, h7⟩ := starts_vint_hi h3.1 (by omega) h4
        have h8 := ih (a / 128) (b / 128) (p + 1) (by rw [Nat.pow_succ] at h1; omega) (by rw [Nat.pow_succ] at h2; omega) h3.2 h7
        omega
  have h3 : (128 : Nat) ^ 10 = 1180591620717411303424 := by decide
  exact key 10 a b p (by omega) (by omega) h1 h2

def Bits (l : List Int) : Prop := ∀ z ∈ l, z = 0 ∨ z = 1

theorem runLen_self_pos (x : Int) (r : List Int) : 0 < runLen x (x :: r) := by simp [runLen]
theorem runsF_more : ∀ (f : Nat) (l : List Int), l.length ≤ f → runsF (f + 1) l = runsF f l := by
  intro f
  induction f with
  | zero => intro l h; cases l with
    | nil => rfl
    | cons x r => simp at h
  | succ f ih =>
    intro l h
    cases l with
    | nil => rfl
    | cons x r =>
      have h1 := runLen_self_pos x r
      have h2 := ih ((x :: r).drop (runLen x (x :: r))) (by rw [List.length_drop]; simp at h ⊢; omega)
      rw [runsF, runsF]
      simp only [h2]
theorem runsF_eq (f : Nat) (l : List Int) (h : l.length ≤ f) : runsF f l = runsB l := by
  induction f with
  | zero =>
    have : l = [] := List.length_eq_zero_iff.1 (by omega)
    subst this; rfl
  | succ f ih =>
    by_cases h2 : l.length ≤ f
    · rw [runsF_more f l h2, ih h2]
    · unfold runsB; rw [show l.length = f + 1 by omega]
theorem runsB_nil : runsB [] = [] := rfl
theorem runsB_cons (x : Int) (r : List Int) : runsB (x :: r) = vint (runLen x (x :: r)) ++ ([byteOf x] ++ runsB ((x :: r).drop (runLen x (x :: r)))) := by
  have h1 := runLen_self_pos x r
  rw [← runsF_eq r.length ((x :: r).drop (runLen x (x :: r))) (by rw [List.length_drop]; simp; omega)]
  rfl
theorem runLen_rep (b : Int) (n : Nat) (m : List Int) (h : m.head? ≠ some b) : runLen b (List.replicate n b ++ m) = n := by
  induction n with
  | zero =>
    cases m with
    | nil => rfl
    | cons y r => simp [runLen]; intro hy; subst hy; simp at h
  | succ n ih => rw [List.replicate_succ, List.cons_append, runLen, if_pos rfl, ih]
theorem runsB_rep (b : Int) (n : Nat) (m : List Int) (hn : n ≠ 0) (h : m.head? ≠ some b) : runsB (List.replicate n b ++ m) = vint n ++ ([byteOf b] ++ runsB m) := by
  obtain ⟨k, rfl⟩ : ∃ k, n = k + 1 := ⟨n - 1, by omega⟩
  have h1 : List.replicate (k + 1) b ++ m = b :: (List.replicate k b ++ m) := by rw [List.replicate_succ]; rfl
  have h2 := runLen_rep b (k + 1) m h
  rw [h1] at h2 ⊢
  rw [runsB_cons, h2, ← h1]
  simp
theorem runLen_split (x : Int) (l : List Int) : l = List.replicate (runLen x l) x ++ l.drop (runLen x l) := by
  induction l with
  | nil => rfl
  | cons y r ih =>
    simp only [runLen]
    split
    · rename_i h
      subst h
      rw [List.replicate_succ, List.cons_append, List.drop_succ_cons, ← ih]
    · simp
theorem runLen_after (x : Int) (l : List Int) : (l.drop (runLen x l)).head? ≠ some x := by
  intro h
  rw [List.head?_drop] at h
  obtain ⟨h1, h2⟩ := List.getElem?_eq_some_iff.1 h
  exact runLen_out x l h1 h2

/-- Runs of which some were read. -/
structure RSt (B : List Nat) (p cn : Nat) (l : List Int) (R : List Nat) : Prop where
  le : l.length ≤ cn
  bits : Bits l
  st : Starts B p R
  ext : ∀ m : List Int, (m = [] ∨ l = [] ∨ m.head? ≠ l.getLast?) → runsB (l ++ m) = R ++ runsB m
  uni : ∀ L : List Int, L.length = cn → Bits L → Starts B p (runsB L) → ∃ m, L = l ++ m ∧ (m = [] ∨ l = [] ∨ m.head? ≠ l.getLast?)

theorem RSt.zero (B : List Nat) (p cn : Nat) : RSt B p cn [] [] :=
  ⟨Nat.zero_le _, fun z hz => by simp at hz, starts_nil _ _, fun m _ => rfl, fun L _ _ _ => ⟨L, rfl, .inr (.inl rfl)⟩⟩

theorem byteOf_bit {b : Int} (h : b = 0 ∨ b = 1) : byteOf b = b.toNat := by rcases h with rfl | rfl <;> rfl

/-- What a list that is written there has behind what was read. -/
theorem RSt.next {B : List Nat} {p cn : Nat} {l : List Int} {R : List Nat} (h : RSt B p cn l R) (hlt : l.length < cn) (L : List Int) (hL : L.length = cn) (hb : Bits L) (hs : Starts B p (runsB L)) :
    ∃ (n : Nat) (b : Int) (m : List Int), 1 ≤ n ∧ n ≤ cn - l.length ∧ (b = 0 ∨ b = 1) ∧ (l = [] ∨ l.getLast? ≠ some b) ∧ Starts B (p + R.length) (vint n) ∧ Starts B (p + R.length + (vint n).length) [b.toNat] ∧
      L = (l ++ List.replicate n b) ++ m ∧ m.head? ≠ some b := by
  obtain ⟨m, rfl, hm⟩ := h.uni L hL hb hs
  rw [List.length_append] at hL
  cases m with
  | nil => simp at hL; omega
  | cons x r =>
    rw [h.ext _ hm, starts_append] at hs
    have hs2 := hs.2
    rw [runsB_cons, starts_append, starts_append] at hs2
    have hx : x = 0 ∨ x = 1 := hb x (by simp)
    refine ⟨runLen x (x :: r), x, (x :: r).drop (runLen x (x :: r)), runLen_self_pos x r, ?_, hx, ?_, hs2.1, ?_, ?_, runLen_after x (x :: r)⟩
    · have := runLen_le x (x :: r); omega
    · rcases hm with h1 | h1 | h1
      · simp at h1
      · exact .inl h1
      · right; simpa [eq_comm] using h1
    · rw [← byteOf_bit hx]; exact hs2.2.1
    · rw [List.append_assoc, ← runLen_split]

theorem RSt.more {B : List Nat} {p cn : Nat} {l : List Int} {R : List Nat} (h : RSt B p cn l R) {n : Nat} {b : Int} (hn : n ≠ 0) (hle : n ≤ cn - l.length) (hn2 : n < 18446744073709551616) (hb : b = 0 ∨ b = 1) (hlast : l = [] ∨ l.getLast? ≠ some b)
    (s1 : Starts B (p + R.length) (vint n)) (s2 : Starts B (p + R.length + (vint n).length) [b.toNat]) (hcn : cn ≤ 100) (hlt : l.length < cn) : RSt B p cn (l ++ List.replicate n b) (R ++ (vint n ++ [b.toNat])) := by
  have hne : List.replicate n b ≠ [] := by simp; exact hn
  have hgl : (l ++ List.replicate n b).getLast? = some b := by
    rw [List.getLast?_append, List.getLast?_replicate, if_neg hn]; rfl
  have hhd : ∀ m, (List.replicate n b ++ m).head? = some b := by
    intro m
    obtain ⟨k, rfl⟩ : ∃ k, n = k + 1 := ⟨n - 1, by omega⟩
    rw [List.replicate_succ]; rfl
  refine ⟨by simp; omega, ?_, ?_, ?_, ?_⟩
  · intro z hz
    rcases List.mem_append.1 hz with h1 | h1
    · exact h.bits z h1
    · rw [(List.mem_replicate.1 h1).2]; exact hb
  · rw [starts_append, starts_append]; exact ⟨h.st, s1, s2⟩
  · intro m hm
    rw [hgl] at hm
    have hm2 : m.head? ≠ some b := by
      rcases hm with h1 | h1 | h1
      · subst h1; simp
      · simp at h1; omega
      · exact h1
    rw [List.append_assoc, h.ext _ (by rw [hhd]; rcases hlast with h1 | h1; exact .inr (.inl h1); exact .inr (.inr (fun e => h1 e.symm))), runsB_rep b n m hn hm2, byteOf_bit hb]
    simp
  · intro L hL hbL hs
    obtain ⟨n', b', m, h1, h2, h3, h4, h5, h6, h7, h8⟩ := h.next hlt L hL hbL hs
    have e1 : n' = n := vint_one (by omega) hn2 h5 s1
    subst e1
    have e2 : b' = b := by
      rw [starts_one] at h6 s2
      rw [h6] at s2
      simp at s2
      omega
    subst e2
    exact ⟨m, h7, .inr (.inr (by rw [hgl]; exact h8))⟩

theorem RSt.done {B : List Nat} {p cn : Nat} {l : List Int} {R : List Nat} (h : RSt B p cn l R) (hl : ¬ l.length < cn) :
    l.length = cn ∧ runsB l = R ∧ (∀ L : List Int, L.length = cn → Bits L → Starts B p (runsB L) → L = l) := by
  have hlen : l.length = cn := by have := h.le; omega
  refine ⟨hlen, ?_, ?_⟩
  · have := h.ext [] (.inl rfl)
    simpa [runsB_nil] using this
  · intro L hL hb hs
    obtain ⟨m, rfl, _⟩ := h.uni L hL hb hs
    rw [List.length_append] at hL
    have : m = [] := List.length_eq_zero_iff.1 (by omega)
    rw [this]; simp
end Go.Proofs.Ytjidbonhhpkljaa.Ec

/- The contracts of the code's Reader: a text is taken, a varint, a number, a bit; or the bytes are given up by a panic. -/
set_option linter.unusedVariables false
namespace Go.Proofs.Ytjidbonhhpkljaa.Ec
open Go.RowKit Go.Proofs.Ytjidbonhhpkljaa.Pk Go.Proofs.Ytjidbonhhpkljaa.Pm

theorem byte_at (s : ByteArray) (p : Nat) (h : p < s.size) : (bytesOf s)[p]? = some s[p].toNat := by
  rw [List.getElem?_eq_getElem (by rw [bytesOf_length]; exact h), bytesOf_get s p h]

theorem and_u8 (c : Nat) (h : c < 256) : bits .and .u8 (c : Int) 127 = ((c % 128 : Nat) : Int) := by
  have := bits_mask .u8 8 (by decide) wraps_u8 7 (by decide) (c : Int) (by omega) (by omega)
  rw [show (127 : Int) = 2 ^ 7 - 1 from by decide, this]
  omega
theorem wraps_u64 (n : Int) (h₀ : 0 ≤ n) (h₁ : n < 2 ^ 64) : IntKind.u64.wrap n = n := by rw [wrap_u64]; omega

theorem bytesOf_extract (s : ByteArray) (p q : Nat) : bytesOf (s.extract p q) = ((bytesOf s).drop p).take (q - p) := by
  unfold bytesOf
  rw [ByteArray.data_extract]
  simp only [Array.toList_extract, List.extract_eq_take_drop, List.map_take, List.map_drop]

set_option maxRecDepth 100000 in
set_option maxHeartbeats 1000000 in
theorem takeN_bad (r p c : Nat) (s : ByteArray) (w : World) (hm : s.size ≤ maxLen) (hc : c ≤ 2147483648) (hp : ¬ p + c ≤ s.size) (hp2 : p ≤ s.size) (h : w.heap[r]? = some (rdr s p)) :
    Calls Try.prog 119 #[.pointer (some ⟨r, 0, none⟩), .int .i64 (c : Int)] w fun e w' => e = .panicked (badAt p) ∧ ∃ n, w' = w.drewN n := by
  obtain ⟨c0, c1, f0, f1⟩ := rdr_cells h
  unfold maxLen at hm
  have HR : Hid (w.heap[r]? = some (rdr s p)) := h
  clear h
  have hd0 : decide ((c : Int) < 0) = false := by simp
  have hd : decide ((s.size : Int) - (p : Int) < (c : Int)) = true := by simp; omega
  go_enter Try.func119, Try.ntmps119
  go_wp2_with fail
  go_quiet (fail)
  go_wp2_with (go_at_call 84; refine (giveUp_any r p s _ (by exact HR.out)).mono ?_; rintro e w' ⟨rfl, rfl⟩)
  exact ⟨rfl, rfl, nq, rfl⟩

set_option maxRecDepth 100000 in
set_option maxHeartbeats 1000000 in
theorem takeN_ok (r p c : Nat) (s : ByteArray) (w : World) (hm : s.size ≤ maxLen) (hp : p + c ≤ s.size) (h : w.heap[r]? = some (rdr s p)) :
    Calls Try.prog 119 #[.pointer (some ⟨r, 0, none⟩), .int .i64 (c : Int)] w fun e w' => e = .returned (.string (s.extract p (p + c))) ∧ ∃ n, w' = (w.setCell ⟨r, 1, none⟩ (.int .i64 ((p + c : Nat) : Int))).drewN n := by
  obtain ⟨c0, c1, f0, f1⟩ := rdr_cells h
  unfold maxLen at hm
  clear h
  have hd0 : decide ((c : Int) < 0) = false := by simp
  have hd : decide ((s.size : Int) - (p : Int) < (c : Int)) = false := by simp; omega
  have q1 : (0 : Int) ≤ (p : Int) + (c : Int) := by omega
  have q2 : (p : Int) + (c : Int) ≤ (s.size : Int) := by omega
  have q3 : (p : Int) ≤ (p : Int) + (c : Int) := by omega
  have q4 : ((p : Int) + (c : Int)).toNat = p + c := by omega
  go_enter Try.func119, Try.ntmps119
  go_wp2_with fail
  go_quiet (fail)
  generalize nq = m at *
  go_wp2_with fail
  go_quiet (fail)
  go_wp2
  go_ret
  exact ⟨rfl, m + nq, drew_set _ _ _ _ _⟩

set_option maxRecDepth 100000 in
set_option maxHeartbeats 1000000 in
theorem bit_any (r p : Nat) (s : ByteArray) (w : World) (hm : s.size ≤ maxLen) (hp : p ≤ s.size) (h : w.heap[r]? = some (rdr s p)) :
    Calls Try.prog 113 #[.pointer (some ⟨r, 0, none⟩)] w fun e w' => Kp r w w' ∧ ((∃ b : Int, e = .returned (.int .i64 b) ∧ (b = 0 ∨ b = 1) ∧ Starts (bytesOf s) p [b.toNat] ∧ w'.heap[r]? = some (rdr s (p + 1)) ∧ p + 1 ≤ s.size) ∨
      (∃ q, e = .panicked (badAt q) ∧ ∀ b : Int, (b = 0 ∨ b = 1) → ¬ Starts (bytesOf s) p [b.toNat])) := by
  have HR : Hid (w.heap[r]? = some (rdr s p)) := h
  clear h
  by_cases hin : p < s.size
  · have HB := byte_at s p hin
    have HC : Hid (∀ w, w.heap[r]? = some (rdr s p) → Calls Try.prog 83 #[.pointer (some ⟨r, 0, none⟩)] w fun e w' => e = .returned (.int .u8 (s[p].toNat : Int)) ∧ ∃ n, w' = (w.setCell ⟨r, 1, none⟩ (.int .i64 ((p + 1 : Nat) : Int))).drewN n) :=
      fun w hw => byte_ok r p s w hm hin hw
    have hc : s[p].toNat < 256 := s[p].toNat_lt
    have HBH : Hid ((bytesOf s)[p]? = some s[p].toNat) := HB
    clear HB
    generalize s[p].toNat = c at *
    by_cases h1 : c ≤ 1
    · have hg : decide ((1 : Int) < (c : Int)) = false := by simp; omega
      go_enter Try.func113, Try.ntmps113
      go_wp2_with (go_at_call 83; refine (HC.out _ HR.out).mono ?_; rintro e w' ⟨rfl, n, rfl⟩)
      go_ret
      refine ⟨(Kp.refl _ _).set _ _ n, .inl ⟨(c : Int), by first | rfl | (congr 2; omega), by omega, ?_, rdr_set HR.out n, by omega⟩⟩
      rw [starts_one, HBH.out]
      simp
    · have hg : decide ((1 : Int) < (c : Int)) = true := by simp; omega
      have HNO : Hid (∀ b : Int, (b = 0 ∨ b = 1) → ¬ Starts (bytesOf s) p [b.toNat]) := by
        intro b hb
        rw [starts_one, HBH.out]
        simp
        omega
      go_enter Try.func113, Try.ntmps113
      go_wp2_with first | (go_at_call 83; refine (HC.out _ HR.out).mono ?_; rintro e w' ⟨rfl, n, rfl⟩) | (go_at_call 84; refine (giveUp_any r (p + 1) s _ (by exact rdr_set HR.out _)).mono ?_; rintro e w' ⟨rfl, rfl⟩)
      exact ⟨rfl, (Kp.refl _ _).set _ _ n, .inr ⟨_, rfl, HNO.out⟩⟩
  · have HNO : Hid (∀ b : Int, (b = 0 ∨ b = 1) → ¬ Starts (bytesOf s) p [b.toNat]) := by
      intro b hb hs
      have := starts_len hs (by rw [bytesOf_length]; exact hp)
      rw [bytesOf_length] at this
      simp at this
      omega
    go_enter Try.func113, Try.ntmps113
    go_wp2_with (go_at_call 83; refine (byte_bad r p s _ hm hin hp HR.out).mono ?_; rintro e w' ⟨rfl, n, rfl⟩)
    exact ⟨rfl, (Kp.refl _ _).drewN n, .inr ⟨_, rfl, HNO.out⟩⟩
end Go.Proofs.Ytjidbonhhpkljaa.Ec

/- The contracts of the code's Reader: a varint, and a number. -/
set_option linter.unusedVariables false
namespace Go.Proofs.Ytjidbonhhpkljaa.Ec
open Go.RowKit Go.Proofs.Ytjidbonhhpkljaa.Pk Go.Proofs.Ytjidbonhhpkljaa.Pm

theorem pow7 (j : Nat) : (128 : Nat) ^ j = 2 ^ (7 * j) := by rw [Nat.pow_mul]

/-- 'n | uint64(c) << shift'. -/
theorem or_word (acc c j : Nat) (hj : j ≤ 9) (ha : acc < 128 ^ j) (hc : c < 128) : ∃ X : Nat, bits .or .u64 (acc : Int) (IntKind.u64.wrap ((c : Int) * 2 ^ (7 * j))) = (X : Int) ∧ X < 18446744073709551616 ∧ ((j ≤ 8 ∨ c ≤ 1) → X = acc + 128 ^ j * c) := by
  have h9 : (128 : Nat) ^ 9 = 9223372036854775808 := by decide
  have hp : 128 ^ j ≤ 128 ^ 9 := Nat.pow_le_pow_right (by omega) hj
  have hcast : (c : Int) * 2 ^ (7 * j) = ((2 ^ (7 * j) * c : Nat) : Int) := by push_cast; rw [Int.mul_comm]
  have hw : IntKind.u64.wrap ((c : Int) * 2 ^ (7 * j)) = ((2 ^ (7 * j) * c % 18446744073709551616 : Nat) : Int) := by rw [hcast, wrap_u64]; omega
  have hor := (bits_nat .u64 64 (by decide) wraps_u64 acc (2 ^ (7 * j) * c % 18446744073709551616) (by omega) (by omega)).2
  rw [hw]
  refine ⟨_, hor, ?_, ?_⟩
  · exact Nat.or_lt_two_pow (n := 64) (by omega) (by omega)
  · intro h
    have hlt : 2 ^ (7 * j) * c < 18446744073709551616 := by
      rw [← pow7]
      rcases h with h | h
      · have h8 : 128 ^ j ≤ 128 ^ 8 := Nat.pow_le_pow_right (by omega) h
        have h8' : (128 : Nat) ^ 8 = 72057594037927936 := by decide
        have := Nat.mul_le_mul h8 (show c ≤ 127 by omega)
        omega
      · have := Nat.mul_le_mul hp h
        omega
    rw [Nat.mod_eq_of_lt hlt, Nat.or_comm, ← Nat.two_pow_add_eq_or_of_lt (by rw [← pow7]; exact ha) c, Nat.add_comm, pow7]

set_option maxRecDepth 100000 in
set_option maxHeartbeats 4000000 in
theorem varint_rd (r p : Nat) (s : ByteArray) (w : World) (hm : s.size ≤ maxLen) (hp : p ≤ s.size) (h : w.heap[r]? = some (rdr s p)) :
    Calls Try.prog 141 #[.pointer (some ⟨r, 0, none⟩)] w fun e w' => Kp r w w' ∧ ((∃ v : Nat, e = .returned (.int .u64 (v : Int)) ∧ v < 18446744073709551616 ∧ Starts (bytesOf s) p (vint v) ∧ w'.heap[r]? = some (rdr s (p + (vint v).length))) ∨
      (∃ q, e = .panicked (badAt q) ∧ ∀ v, v < 18446744073709551616 → ¬ Starts (bytesOf s) p (vint v))) := by
  have HR : Hid (w.heap[r]? = some (rdr s p)) := h
  clear h
  go_enter Try.func141, Try.ntmps141
  go_wp2_with fail
  go_loopw [3, 4] (fun n sh wr => ∃ (j acc X : Nat), j ≤ 10 ∧ sh = .int .i64 ((7 * j : Nat) : Int) ∧ n = .int .u64 (X : Int) ∧ (j ≤ 9 → X = acc) ∧ VSt (bytesOf s) p j acc ∧ p + j ≤ s.size ∧ wr.heap[r]? = some (rdr s (p + j)) ∧ Kp r w wr) (fun _ sh _ => 71 - (intOf sh).toNat)
  case atStart => exact ⟨0, 0, 0, by omega, rfl, rfl, fun _ => rfl, VSt.zero _ _, by omega, HR.out, Kp.refl _ _⟩
  case round =>
    clear HR
    obtain ⟨j, acc, X, hj, rfl, rfl, hX, hV, hpj, hR, hK⟩ := hrel
    have HV : Hid (VSt (bytesOf s) p j acc) := hV
    have HRR : Hid (wr.heap[r]? = some (rdr s (p + j))) := hR
    have HK : Hid (Kp r w wr) := hK
    clear hV hR hK
    by_cases hj9 : j ≤ 9
    · obtain rfl := hX hj9
      clear hX
      by_cases hin : p + j < s.size
      · have HC : Hid (∀ w, w.heap[r]? = some (rdr s (p + j)) → Calls Try.prog 83 #[.pointer (some ⟨r, 0, none⟩)] w fun e w' => e = .returned (.int .u8 (s[p + j].toNat : Int)) ∧ ∃ n, w' = (w.setCell ⟨r, 1, none⟩ (.int .i64 ((p + j + 1 : Nat) : Int))).drewN n) :=
          fun w hw => byte_ok r (p + j) s w hm hin hw
        have hc : s[p + j].toNat < 256 := s[p + j].toNat_lt
        have HBH : Hid ((bytesOf s)[p + j]? = some s[p + j].toNat) := byte_at s (p + j) hin
        generalize s[p + j].toNat = c at *
        have hand : bits .and .u8 (c : Int) 127 = (c : Int) % 128 := by rw [and_u8 c hc]; omega
        obtain ⟨Y, hY, hY2, hY3⟩ := or_word X (c % 128) j hj9 HV.out.lt (by omega)
        rw [show ((c % 128 : Nat) : Int) = (c : Int) % 128 from by omega] at hY
        have HY3 : Hid ((j ≤ 8 ∨ c % 128 ≤ 1) → Y = X + 128 ^ j * (c % 128)) := hY3
        clear hY3
        by_cases hhi : 128 ≤ c
        · go_wp2_with (go_at_call 83; refine (HC.out _ HRR.out).mono ?_; rintro e w' ⟨rfl, n, rfl⟩)
          refine ⟨⟨j + 1, X + 128 ^ j * (c - 128), Y, by omega, by go_num, by first | rfl | rw [hY], ?_, HV.out.more (by omega) HBH.out hhi hc, by omega, rdr_set HRR.out n, HK.out.set _ _ n⟩, by simp [intOf]; omega⟩
          intro h9
          rw [HY3.out (.inl (by omega)), show c % 128 = c - 128 by omega]
        · have hmod : (c : Int) % 128 = (c : Int) := by omega
          rw [hmod] at hY
          have hfin := fun v hv => HV.out.fin (v := v) (by omega) HBH.out (by omega) hv
          have HFIN : Hid (∀ v, v < 18446744073709551616 → (Starts (bytesOf s) p (vint v) ↔ v = X + 128 ^ j * c ∧ (c ≠ 0 ∨ j = 0))) := hfin
          clear hfin
          by_cases hgood : (c ≠ 0 ∨ j = 0) ∧ (c ≤ 1 ∨ j ≤ 8)
          · have HT : Hid (X + 128 ^ j * c < 18446744073709551616) := HV.out.top (by omega) (by omega)
            have HL : Hid _ := HV.out.fin_len (c := c) (by omega) (by omega) hgood.1
            have HYE : Hid (Y = X + 128 ^ j * c) := by rw [show Hid (Y = X + 128 ^ j * c) ↔ Y = X + 128 ^ j * c from ⟨fun h => h.out, fun h => h⟩, HY3.out (by omega), Nat.mod_eq_of_lt (by omega)]
            go_wp2_with (go_at_call 83; refine (HC.out _ HRR.out).mono ?_; rintro e w' ⟨rfl, n, rfl⟩)
            all_goals
              go_ret
              exact ⟨HK.out.set _ _ n, .inl ⟨X + 128 ^ j * c, by rw [← HYE.out]; rfl, HT.out, (HFIN.out _ HT.out).2 ⟨rfl, hgood.1⟩, by rw [HL.out, ← Nat.add_assoc]; exact rdr_set HRR.out n⟩⟩
          · have HNO : Hid (∀ v, v < 18446744073709551616 → ¬ Starts (bytesOf s) p (vint v)) := by
              intro v hv hs
              obtain ⟨h1, h2⟩ := (HFIN.out v hv).1 hs
              by_cases h3 : c ≤ 1 ∨ j ≤ 8
              · exact hgood ⟨h2, h3⟩
              · obtain rfl : j = 9 := by omega
                rw [h1] at hv
                exact VSt.over (B := bytesOf s) (p := p) (by omega) hv
            go_wp2_with first | (go_at_call 83; refine (HC.out _ HRR.out).mono ?_; rintro e w' ⟨rfl, n, rfl⟩) | (go_at_call 84; refine (giveUp_any r (p + j + 1) s _ (by exact rdr_set HRR.out _)).mono ?_; rintro e w' ⟨rfl, rfl⟩)
            all_goals exact ⟨rfl, HK.out.set _ _ n, .inr ⟨_, rfl, HNO.out⟩⟩
      · have HNO : Hid (∀ v, v < 18446744073709551616 → ¬ Starts (bytesOf s) p (vint v)) := fun v hv => HV.out.none (by omega) (by rw [bytesOf_length]; exact hin) v hv
        go_wp2_with (go_at_call 83; refine (byte_bad r (p + j) s _ hm hin hpj HRR.out).mono ?_; rintro e w' ⟨rfl, n, rfl⟩)
        exact ⟨rfl, HK.out.drewN n, .inr ⟨_, rfl, HNO.out⟩⟩
    · obtain rfl : j = 10 := by omega
      have HNO : Hid (∀ v, v < 18446744073709551616 → ¬ Starts (bytesOf s) p (vint v)) := fun v hv => HV.out.ten v hv
      go_wp2_with (go_at_call 84; refine (giveUp_any r (p + 10) s _ HRR.out).mono ?_; rintro e w' ⟨rfl, rfl⟩)
      exact ⟨rfl, HK.out, .inr ⟨_, rfl, HNO.out⟩⟩

set_option maxRecDepth 100000 in
set_option maxHeartbeats 1000000 in
theorem number_rd (r p : Nat) (s : ByteArray) (w : World) (hm : s.size ≤ maxLen) (hp : p ≤ s.size) (h : w.heap[r]? = some (rdr s p)) :
    Calls Try.prog 112 #[.pointer (some ⟨r, 0, none⟩)] w fun e w' => Kp r w w' ∧ ((∃ v : Nat, e = .returned (.int .i64 (v : Int)) ∧ v < 2147483648 ∧ Starts (bytesOf s) p (vint v) ∧ p + (vint v).length ≤ s.size ∧ w'.heap[r]? = some (rdr s (p + (vint v).length))) ∨
      (∃ q, e = .panicked (badAt q) ∧ ∀ v, v < 2147483648 → ¬ Starts (bytesOf s) p (vint v))) := by
  have HR : Hid (w.heap[r]? = some (rdr s p)) := h
  clear h
  go_enter Try.func112, Try.ntmps112
  go_wp2_with fail
  refine (varint_rd r p s _ hm hp HR.out).mono ?_
  rintro e w1 ⟨hK, ⟨v, rfl, hv, hs, hR⟩ | ⟨q, rfl, hno⟩⟩
  · have HK : Hid (Kp r w w1) := hK
    have HS : Hid (Starts (bytesOf s) p (vint v)) := hs
    have HR1 : Hid (w1.heap[r]? = some (rdr s (p + (vint v).length))) := hR
    have HL : Hid (p + (vint v).length ≤ s.size) := by have := starts_len hs (by rw [bytesOf_length]; exact hp); rwa [bytesOf_length] at this
    have HV : Hid (v < 18446744073709551616) := hv
    clear hK hs hR HR hv
    by_cases hlt : v < 2147483648
    · have HLT : Hid (v < 2147483648) := hlt
      have hd : decide ((2147483648 : Int) ≤ (v : Int)) = false := by rw [decide_eq_false_iff_not]; omega
      have hw : wrap64 (v : Int) = (v : Int) := by unfold wrap64; omega
      clear hlt
      go_wp2
      go_ret
      exact ⟨HK.out, .inl ⟨v, by first | rfl | go_num, HLT.out, HS.out, HL.out, HR1.out⟩⟩
    · have HNO : Hid (∀ u, u < 2147483648 → ¬ Starts (bytesOf s) p (vint u)) := by
        intro u hu hs
        have := vint_one (by omega) HV.out hs HS.out
        omega
      have hd : decide ((2147483648 : Int) ≤ (v : Int)) = true := by rw [decide_eq_true_iff]; omega
      clear hlt
      go_wp2_with (go_at_call 84; refine (giveUp_any r (p + (vint v).length) s _ HR1.out).mono ?_; rintro e w' ⟨rfl, rfl⟩)
      exact ⟨rfl, HK.out, .inr ⟨_, rfl, HNO.out⟩⟩
  · have HK : Hid (Kp r w w1) := hK
    have HNO : Hid (∀ u, u < 2147483648 → ¬ Starts (bytesOf s) p (vint u)) := fun v hv => hno v (by omega)
    clear hK hno HR
    go_wp2
    exact ⟨rfl, HK.out, .inr ⟨q, rfl, HNO.out⟩⟩
end Go.Proofs.Ytjidbonhhpkljaa.Ec

/- Lists that are read one element behind the other: what was read, and that nothing else can stand there; plain values. -/
set_option linter.unusedVariables false
namespace Go.Proofs.Ytjidbonhhpkljaa.Ec
open Go.RowKit Go.Proofs.Ytjidbonhhpkljaa.Pk Go.Proofs.Ytjidbonhhpkljaa.Pm

/-- Of count elements some were read: E what a list is written as, e what an element is behind those ahead of it. -/
structure QSt {α : Type} (E : List α → List Nat) (ok : α → Prop) (B : List Nat) (p cn : Nat) (l : List α) : Prop where
  le : l.length ≤ cn
  oks : ∀ x ∈ l, ok x
  st : Starts B p (E l)
  uni : ∀ L : List α, L.length = cn → (∀ x ∈ L, ok x) → Starts B p (E L) → ∃ m, L = l ++ m

theorem snoc_pre {α : Type} {E : List α → List Nat} {e : List α → α → List Nat} (hE : ∀ l x, E (l ++ [x]) = E l ++ e l x) (l m : List α) : ∃ t, E (l ++ m) = E l ++ t := by
  induction m generalizing l with
  | nil => exact ⟨[], by simp⟩
  | cons x r ih =>
    obtain ⟨t, ht⟩ := ih (l ++ [x])
    refine ⟨e l x ++ t, ?_⟩
    rw [show l ++ x :: r = l ++ [x] ++ r by simp, ht, hE, List.append_assoc]

theorem QSt.zero {α : Type} {E : List α → List Nat} {ok : α → Prop} {B : List Nat} {p cn : Nat} (h0 : E [] = []) : QSt E ok B p cn [] :=
  ⟨Nat.zero_le _, fun x hx => by simp at hx, by rw [h0]; exact starts_nil _ _, fun L _ _ _ => ⟨L, rfl⟩⟩
theorem QSt.next {α : Type} {E : List α → List Nat} {ok : α → Prop} {e : List α → α → List Nat} {B : List Nat} {p cn : Nat} {l : List α} (h : QSt E ok B p cn l) (hE : ∀ l x, E (l ++ [x]) = E l ++ e l x) (hlt : l.length < cn)
    (L : List α) (hL : L.length = cn) (hok : ∀ x ∈ L, ok x) (hs : Starts B p (E L)) : ∃ x m, L = (l ++ [x]) ++ m ∧ ok x ∧ Starts B (p + (E l).length) (e l x) := by
  obtain ⟨m, rfl⟩ := h.uni L hL hok hs
  cases m with
  | nil => simp at hL; omega
  | cons x r =>
    obtain ⟨t, ht⟩ := snoc_pre hE (l ++ [x]) r
    refine ⟨x, r, by simp, hok x (by simp), ?_⟩
    rw [show l ++ x :: r = l ++ [x] ++ r by simp, ht, hE, List.append_assoc, starts_append, starts_append] at hs
    exact hs.2.1
theorem QSt.more {α : Type} {E : List α → List Nat} {ok : α → Prop} {e : List α → α → List Nat} {B : List Nat} {p cn : Nat} {l : List α} (h : QSt E ok B p cn l) (hE : ∀ l x, E (l ++ [x]) = E l ++ e l x) (hlt : l.length < cn)
    {x : α} (hx : ok x) (hs : Starts B (p + (E l).length) (e l x)) (hu : ∀ y, ok y → Starts B (p + (E l).length) (e l y) → y = x) : QSt E ok B p cn (l ++ [x]) := by
  refine ⟨by simp; omega, ?_, by rw [hE, starts_append]; exact ⟨h.st, hs⟩, ?_⟩
  · intro y hy
    rcases List.mem_append.1 hy with h1 | h1
    · exact h.oks y h1
    · simp at h1; rw [h1]; exact hx
  · intro L hL hok hsL
    obtain ⟨y, m, h1, h2, h3⟩ := h.next hE hlt L hL hok hsL
    rw [hu y h2 h3] at h1
    exact ⟨m, h1⟩
theorem QSt.fail {α : Type} {E : List α → List Nat} {ok : α → Prop} {e : List α → α → List Nat} {B : List Nat} {p cn : Nat} {l : List α} (h : QSt E ok B p cn l) (hE : ∀ l x, E (l ++ [x]) = E l ++ e l x) (hlt : l.length < cn)
    (hu : ∀ y, ok y → ¬ Starts B (p + (E l).length) (e l y)) (L : List α) (hL : L.length = cn) (hok : ∀ x ∈ L, ok x) : ¬ Starts B p (E L) := by
  intro hs
  obtain ⟨y, m, h1, h2, h3⟩ := h.next hE hlt L hL hok hs
  exact hu y h2 h3
theorem QSt.done {α : Type} {E : List α → List Nat} {ok : α → Prop} {B : List Nat} {p cn : Nat} {l : List α} (h : QSt E ok B p cn l) (hl : ¬ l.length < cn) :
    l.length = cn ∧ (∀ L : List α, L.length = cn → (∀ x ∈ L, ok x) → Starts B p (E L) → L = l) := by
  have hlen : l.length = cn := by have := h.le; omega
  refine ⟨hlen, ?_⟩
  intro L hL hb hs
  obtain ⟨m, rfl⟩ := h.uni L hL hb hs
  rw [List.length_append] at hL
  have : m = [] := List.length_eq_zero_iff.1 (by omega)
  rw [this]; simp

/-- The number that was folded. -/
def uz (m : Nat) : Int := if m % 2 = 1 then -((m / 2 : Nat) : Int) - 1 else ((m / 2 : Nat) : Int)
theorem zz_uz (m : Nat) : zz (uz m) = m := by
  unfold zz uz
  split <;> split <;> omega
theorem uz_zz (n : Int) : uz (zz n) = n := by
  unfold zz uz
  split <;> split <;> omega
theorem uz_range (m : Nat) (h : m < 18446744073709551616) : -9223372036854775808 ≤ uz m ∧ uz m ≤ 9223372036854775807 := by
  unfold uz
  split <;> omega

/-- A value that is there, of a kind. -/
structure VK (k : Int) (v : Val) : Prop where
  there : v.null = false
  lo : -9223372036854775808 ≤ v.n
  hi : v.n ≤ 9223372036854775807
  s1 : k = 1 → v.s = ⟨#[]⟩
  s2 : k = 2 → (v.n = 0 ∨ v.n = 1) ∧ v.s = ⟨#[]⟩
  s3 : k = 3 → v.n = 0 ∧ v.s.size ≤ 32

theorem nil_of_toList {s : ByteArray} (h : s.toList = []) : s = ⟨#[]⟩ := by
  rw [ByteArray.toList_eq s] at h
  apply ByteArray.ext
  apply Array.ext'
  simpa using h
theorem may_of_vk {k : Int} {v : Val} (hk : k = 1 ∨ k = 2 ∨ k = 3) (h : VK k v) : mayB v k = true := by
  unfold mayB
  rw [h.there]
  rcases hk with rfl | rfl | rfl
  · simp [h.s1 rfl, ByteArray.toList_eq]
  · have := h.s2 rfl
    simp [this.2, this.1, ByteArray.toList_eq]
  · have := h.s3 rfl
    simp [this.1]; omega
theorem vk_of_may {k : Int} {v : Val} (hk : k = 1 ∨ k = 2 ∨ k = 3) (hn : v.null = false) (h : VIn v) (hm : mayB v k = true) : VK k v := by
  unfold mayB at hm
  rw [hn] at hm
  refine ⟨hn, h.lo, h.hi, ?_, ?_, ?_⟩
  · rintro rfl
    simp at hm
    exact nil_of_toList hm
  · rintro rfl
    simp at hm
    exact ⟨hm.1, nil_of_toList hm.2⟩
  · rintro rfl
    simp at hm
    exact ⟨hm.1, by omega⟩
theorem VK.ok {k : Int} {v : Val} (hk : k = 1 ∨ k = 2 ∨ k = 3) (h : VK k v) : VOk v := by
  refine ⟨h.lo, h.hi, ?_⟩
  rcases hk with rfl | rfl | rfl
  · rw [h.s1 rfl]; decide
  · rw [(h.s2 rfl).2]; decide
  · exact (h.s3 rfl).2

/-- Two values that stand at one place are alike. -/
theorem plain_one {k : Int} (hk : k = 1 ∨ k = 2 ∨ k = 3) {B : List Nat} {p : Nat} {x y : Val} (hx : VK k x) (hy : VK k y) (h1 : Starts B p (plainB k x)) (h2 : Starts B p (plainB k y)) : x = y := by
  have key : x.n = y.n → x.s = y.s → x = y := by
    intro a b
    have c := hx.there.trans hy.there.symm
    cases x; cases y
    simp at a b c
    simp [a, b, c]
  rcases hk with rfl | rfl | rfl
  · have e1 : ∀ v, plainB 1 v = vint (zz v.n) := fun v => rfl
    rw [e1] at h1 h2
    have := vint_one (zz_lt _ hx.lo hx.hi) (zz_lt _ hy.lo hy.hi) h1 h2
    refine key ?_ (by rw [hx.s1 rfl, hy.s1 rfl])
    rw [← uz_zz x.n, this, uz_zz]
  · have e1 : ∀ v, plainB 2 v = [byteOf v.n] := fun v => rfl
    rw [e1, starts_one] at h1 h2
    rw [h1] at h2
    simp at h2
    refine key ?_ (by rw [(hx.s2 rfl).2, (hy.s2 rfl).2])
    rw [byteOf_bit (hx.s2 rfl).1, byteOf_bit (hy.s2 rfl).1] at h2
    have := (hx.s2 rfl).1
    have := (hy.s2 rfl).1
    omega
  · have e1 : ∀ v, plainB 3 v = vint v.s.size ++ bytesOf v.s := fun v => rfl
    rw [e1, starts_append] at h1 h2
    have a1 := (hx.s3 rfl).2
    have a2 := (hy.s3 rfl).2
    have := vint_one (by omega) (by omega) h1.1 h2.1
    rw [this] at h1
    refine key (by rw [(hx.s3 rfl).1, (hy.s3 rfl).1]) ?_
    exact bytesOf_inj (starts_same h1.2 h2.2 (by rw [bytesOf_length, bytesOf_length, this]))

theorem plainsB_snoc (k : Int) (l : List Val) (x : Val) : plainsB k (l ++ [x]) = plainsB k l ++ plainB k x := by
  unfold plainsB
  rw [List.flatMap_append, List.flatMap_singleton]

/-- The value that stands behind a difference. -/
theorem wrap64_back (a n d : Int) (hn0 : -9223372036854775808 ≤ n) (hn1 : n ≤ 9223372036854775807) (h : wrap64 (n - a) = d) : wrap64 (a + d) = n := by
  unfold wrap64 at *
  omega
theorem wrap64_forth (a d : Int) (hd0 : -9223372036854775808 ≤ d) (hd1 : d ≤ 9223372036854775807) : wrap64 (wrap64 (a + d) - a) = d := by
  unfold wrap64
  omega
theorem delta_one {a : Int} {B : List Nat} {p : Nat} {x y : Val} (hx : VK 1 x) (hy : VK 1 y) (h1 : Starts B p (vint (zz (wrap64 (x.n - a))))) (h2 : Starts B p (vint (zz (wrap64 (y.n - a))))) : x = y := by
  have r1 := wrap64_range (x.n - a)
  have r2 := wrap64_range (y.n - a)
  have e := vint_one (zz_lt _ r1.1 r1.2) (zz_lt _ r2.1 r2.2) h1 h2
  have e2 : wrap64 (x.n - a) = wrap64 (y.n - a) := by rw [← uz_zz (wrap64 (x.n - a)), e, uz_zz]
  have b1 := wrap64_back a x.n _ hx.lo hx.hi rfl
  have b2 := wrap64_back a y.n _ hy.lo hy.hi rfl
  rw [e2, b2] at b1
  have c := hx.there.trans hy.there.symm
  have d := (hx.s1 rfl).trans (hy.s1 rfl).symm
  cases x; cases y
  simp at b1 c d
  simp [b1, c, d]
end Go.Proofs.Ytjidbonhhpkljaa.Ec

/- The contracts of the code's single values, read: Unzigzag, a text, ReadPlain. -/
set_option linter.unusedVariables false
namespace Go.Proofs.Ytjidbonhhpkljaa.Ec
open Go.RowKit Go.Proofs.Ytjidbonhhpkljaa.Pk Go.Proofs.Ytjidbonhhpkljaa.Pm

theorem ixor_zero (x : Nat) (hx : x < 9223372036854775808) : bits .xor .i64 (x : Int) 0 = (x : Int) := by
  show IntKind.i64.wrap (((BitVec.ofInt 64 (x : Int)) ^^^ (BitVec.ofInt 64 0)).toNat : Int) = _
  rw [BitVec.ofInt_natCast, show BitVec.ofInt 64 0 = 0#64 from rfl, BitVec.xor_zero, BitVec.toNat_ofNat, IntKind.wrap_i64]
  omega
theorem ixor_ones (x : Nat) (hx : x < 9223372036854775808) : bits .xor .i64 (x : Int) (-1) = -(x : Int) - 1 := by
  show IntKind.i64.wrap (((BitVec.ofInt 64 (x : Int)) ^^^ (BitVec.ofInt 64 (-1))).toNat : Int) = _
  rw [BitVec.ofInt_natCast, show BitVec.ofInt 64 (-1) = BitVec.allOnes 64 from by decide +kernel, BitVec.xor_allOnes, BitVec.toNat_not, BitVec.toNat_ofNat, IntKind.wrap_i64]
  omega
theorem and_one (n : Nat) (hn : n < 18446744073709551616) : bits .and .u64 (n : Int) 1 = ((n % 2 : Nat) : Int) := by
  have := bits_mask .u64 64 (by decide) wraps_u64 1 (by decide) (n : Int) (by omega) (by omega)
  rw [show (1 : Int) = 2 ^ 1 - 1 from by decide, this]
  omega

theorem unz_bits (n : Nat) (hn : n < 18446744073709551616) : bits .xor .i64 ((n : Int) / 2) (-((n : Int) % 2)) = uz n := by
  rw [show (n : Int) / 2 = ((n / 2 : Nat) : Int) from by omega]
  unfold uz
  by_cases h : n % 2 = 1
  · rw [show -((n : Int) % 2) = -1 from by omega, ixor_ones _ (by omega), if_pos h]
  · rw [show -((n : Int) % 2) = 0 from by omega, ixor_zero _ (by omega), if_neg h]

set_option maxRecDepth 100000 in
set_option maxHeartbeats 1000000 in
theorem unzigzag_any (n : Nat) (w : World) (hn : n < 18446744073709551616) : Calls Try.prog 151 #[.int .u64 (n : Int)] w fun e w' => e = .returned (.int .i64 (uz n)) ∧ w' = w := by
  have h1 := and_one n hn
  have h2 : wrap64 ((n : Int) / 2) = ((n / 2 : Nat) : Int) := by unfold wrap64; omega
  have HN : Hid (n < 18446744073709551616) := hn
  clear hn
  go_enter Try.func151, Try.ntmps151
  go_wp2
  go_ret
  exact ⟨by rw [← unz_bits n HN.out]; rfl, rfl⟩

set_option maxRecDepth 100000 in
set_option maxHeartbeats 2000000 in
/-- A text, copied. -/
theorem sclone_any (s : ByteArray) (w : World) (hs : s.size ≤ 32) : Calls Try.prog 135 #[.string s] w fun e w' => e = .returned (.string s) ∧ Below w.heap.size w w' := by
  by_cases h0 : s.size = 0
  · obtain rfl : s = ⟨#[]⟩ := ByteArray.ext (Array.eq_empty_of_size_eq_zero h0)
    go_enter Try.func135, Try.ntmps135
    go_wp2
    go_ret
    exact ⟨rfl, Below.refl _ _⟩
  · obtain ⟨i0, hi, hz0, hz1, hz2⟩ := info_parts Try.info5
    have hone : (Try.prog.info? 5).map (·.size) = some 1 := by rw [hi]; simp [hz1]
    have hcell : Try.prog.cellsOf 5 = 1 := by simp [Program.cellsOf, hi, hz1]
    obtain ⟨M, hM⟩ : ∃ M, M = madeCells (Value.int .u8 0).cells (((s.size : Nat) : Int).toNat * i0.size) := ⟨_, rfl⟩
    have hMs : M.size = s.size := by rw [hM, size_madeCells, hz1]; simp
    have hmk : ∀ W : World, (Instr.makeSlice 44 (.int .i64 (s.size : Int)) (.int .i64 (s.size : Int))).run Try.prog W = .ok (.slice (some ⟨W.heap.size, 0, none⟩) s.size s.size) (W.alloc (.cells M 5)) := fun W => by
      have h := run_make (P := Try.prog) W 44 5 i0 (.int .u8 0) Try.underlying44 hi hz0 .i64 .i64 (s.size : Int) (s.size : Int) (by omega) (by omega) (by rw [hz2]; omega) (by omega)
      rw [← hM] at h
      simpa using h
    clear hM
    have hcp := Lib.run_copy_row_string (P := Try.prog) (w.alloc (.cells M 5)) 44 9 3 5 w.heap.size 0 s.size s.size s M 5 Try.underlying44 hone (heap_alloc_new w _) (Nat.le_refl _) (by omega)
    obtain ⟨Y, hY⟩ : ∃ Y, Y = (M.toList.take 0 ++ Lib.byteCells s.data.toList ++ M.toList.drop (0 + s.size)).toArray := ⟨_, rfl⟩
    rw [← hY] at hcp
    have hYl : Y.toList = Lib.byteCells s.data.toList := by
      rw [hY, List.toList_toArray, List.take_zero, List.nil_append, List.drop_of_length_le (by rw [Array.length_toList]; omega), List.append_nil]
    have hYs : Y.size = s.size := by rw [← Array.length_toList, hYl, Lib.byteCells_length, ← Lib.size_eq]
    have hgY : ((w.alloc (.cells M 5)).setRow w.heap.size Y).heap[w.heap.size]? = some (.cells Y 5 (0, 0)) := setRow_heap _ _ M _ 5 (0, 0) (heap_alloc_new w _)
    have hne : s.data.toList ≠ [] := fun e => h0 (by rw [Lib.size_eq, e]; rfl)
    have hUS := Lib.run_unsafeString_row (P := Try.prog) ((w.alloc (.cells M 5)).setRow w.heap.size Y) 205 3 9 5 Try.underlying205 hcell w.heap.size Y.size (by unfold World.shape?; rw [hgY]) s.data.toList hne (by rw [← Lib.size_eq]; omega) (by rw [← Lib.size_eq]; omega)
      (fun j x hx => Lib.cells_of_row hgY Y.size j _ (by rw [List.take_of_length_le (by rw [Array.length_toList]; exact Nat.le_refl _), hYl]; simp [Lib.byteCells, hx]))
    rw [← Lib.size_eq] at hUS
    clear hY
    go_enter Try.func135, Try.ntmps135
    go_wp2
    go_ret
    have hb1 : Below w.heap.size w (w.alloc (.cells M 5)) := (Below.refl _ w).alloc (Nat.le_refl _) _
    have hb2 : Below w.heap.size (w.alloc (.cells M 5)) ((w.alloc (.cells M 5)).setRow w.heap.size Y) := ⟨rfl, rfl, rfl, by simp, fun k hk => setRow_other _ _ _ _ (by omega)⟩
    exact ⟨rfl, Lib.below_freeze (hb1.trans hb2) (p := ⟨w.heap.size, 0, none⟩) (Nat.le_refl _) _⟩

set_option maxRecDepth 100000 in
set_option maxHeartbeats 1000000 in
theorem clone_any (s : ByteArray) (w : World) (hs : s.size ≤ 32) : Calls Try.prog 101 #[.string s] w fun e w' => e = .returned (.string s) ∧ Below w.heap.size w w' := by
  go_enter Try.func101, Try.ntmps101
  go_wp2_with fail
  refine (sclone_any s _ hs).mono ?_
  rintro e w' ⟨rfl, hb⟩
  go_wp2
  go_ret
  exact ⟨rfl, hb⟩

set_option maxRecDepth 100000 in
set_option maxHeartbeats 2000000 in
theorem readText_any (r p : Nat) (s : ByteArray) (w : World) (hm : s.size ≤ maxLen) (hp : p ≤ s.size) (h : w.heap[r]? = some (rdr s p)) :
    Calls Try.prog 152 #[.pointer (some ⟨r, 0, none⟩)] w fun e w' => Kp r w w' ∧ ((∃ t : ByteArray, e = .returned (.string t) ∧ t.size ≤ 32 ∧ Starts (bytesOf s) p (vint t.size ++ bytesOf t) ∧ w'.heap[r]? = some (rdr s (p + (vint t.size ++ bytesOf t).length))) ∨
      (∃ q, e = .panicked (badAt q) ∧ ∀ t : ByteArray, t.size ≤ 32 → ¬ Starts (bytesOf s) p (vint t.size ++ bytesOf t))) := by
  have hrl : r < w.heap.size := lt_of_block h
  have HR : Hid (w.heap[r]? = some (rdr s p)) := h
  clear h
  go_enter Try.func152, Try.ntmps152
  go_wp2_with fail
  refine (number_rd r p s _ hm hp HR.out).mono ?_
  rintro e w1 ⟨hK1, ⟨n, rfl, hn, hs1, hl1, hR1⟩ | ⟨q, rfl, hno⟩⟩
  · have HK1 : Hid (Kp r w w1) := hK1
    have HS1 : Hid (Starts (bytesOf s) p (vint n)) := hs1
    have HR1 : Hid (w1.heap[r]? = some (rdr s (p + (vint n).length))) := hR1
    have HN : Hid (n < 2147483648) := hn
    have hsz := hK1.size
    clear hK1 hs1 hR1 hn HR
    by_cases hbig : 32 < n
    · have HNO : Hid (∀ t : ByteArray, t.size ≤ 32 → ¬ Starts (bytesOf s) p (vint t.size ++ bytesOf t)) := by
        intro t ht hst
        rw [starts_append] at hst
        have := vint_one (by omega) (by have := HN.out; omega) hst.1 HS1.out
        omega
      go_wp2_with (go_at_call 84; refine (giveUp_any r _ s _ HR1.out).mono ?_; rintro e w' ⟨rfl, rfl⟩)
      exact ⟨rfl, HK1.out, .inr ⟨_, rfl, HNO.out⟩⟩
    · by_cases hin : p + (vint n).length + n ≤ s.size
      · have hxs : (s.extract (p + (vint n).length) (p + (vint n).length + n)).size = n := by rw [ByteArray.size_extract]; omega
        have HX : Hid (bytesOf (s.extract (p + (vint n).length) (p + (vint n).length + n)) = ((bytesOf s).drop (p + (vint n).length)).take n) := by
          show _ = _
          rw [bytesOf_extract, show p + (vint n).length + n - (p + (vint n).length) = n by omega]
        have HT : Hid (∀ w, w.heap[r]? = some (rdr s (p + (vint n).length)) → Calls Try.prog 119 #[.pointer (some ⟨r, 0, none⟩), .int .i64 (n : Int)] w fun e w' => e = .returned (.string (s.extract (p + (vint n).length) (p + (vint n).length + n))) ∧ ∃ m, w' = (w.setCell ⟨r, 1, none⟩ (.int .i64 ((p + (vint n).length + n : Nat) : Int))).drewN m) :=
          fun w hw => takeN_ok r _ n s w hm hin hw
        generalize s.extract (p + (vint n).length) (p + (vint n).length + n) = x at *
        go_wp2_with (go_at_call 119; refine (HT.out _ HR1.out).mono ?_; rintro e w2 ⟨rfl, hw⟩; have HW : Hid (∃ m, w2 = (w1.setCell ⟨r, 1, none⟩ (.int .i64 ((p + (vint n).length + n : Nat) : Int))).drewN m) := hw; clear hw)
        have HR2 : Hid (w2.heap[r]? = some (rdr s (p + (vint n).length + n))) := by
          obtain ⟨m, rfl⟩ := HW.out
          exact rdr_set HR1.out m
        have HK2 : Hid (Kp r w w2) := by
          obtain ⟨m, rfl⟩ := HW.out
          exact HK1.out.set 1 _ m
        clear HW HT HR1 HK1 hsz
        refine (clone_any x _ (by omega)).mono ?_
        rintro e w3 ⟨rfl, hb⟩
        have HK3 : Hid (Kp r w w3) := HK2.out.trans (Kp.of_below hb)
        have HR3 : Hid (w3.heap[r]? = some (rdr s (p + (vint n).length + n))) := by
          show _ = _
          rw [hb.block r (lt_of_block HR2.out)]; exact HR2.out
        clear hb HK2 HR2
        go_wp2
        go_ret
        refine ⟨HK3.out, .inl ⟨x, rfl, by omega, ?_, ?_⟩⟩
        · rw [starts_append, hxs]
          refine ⟨HS1.out, ?_⟩
          rw [HX.out]
          exact List.take_prefix _ _
        · rw [List.length_append, bytesOf_length, hxs, ← Nat.add_assoc]
          exact HR3.out
      · have HNO : Hid (∀ t : ByteArray, t.size ≤ 32 → ¬ Starts (bytesOf s) p (vint t.size ++ bytesOf t)) := by
          intro t ht hst
          rw [starts_append] at hst
          have := vint_one (by omega) (by have := HN.out; omega) hst.1 HS1.out
          rw [this] at hst
          have h2 := starts_len hst.2 (by rw [bytesOf_length]; exact hl1)
          rw [bytesOf_length, bytesOf_length] at h2
          omega
        go_wp2_with (go_at_call 119; refine (takeN_bad r _ n s _ hm (by omega) hin hl1 HR1.out).mono ?_; rintro e w' ⟨rfl, m, rfl⟩)
        exact ⟨rfl, HK1.out.drewN m, .inr ⟨_, rfl, HNO.out⟩⟩
  · have HNO : Hid (∀ t : ByteArray, t.size ≤ 32 → ¬ Starts (bytesOf s) p (vint t.size ++ bytesOf t)) := by
      intro t ht hst
      rw [starts_append] at hst
      exact hno t.size (by omega) hst.1
    have HK1 : Hid (Kp r w w1) := hK1
    clear hno hK1
    go_wp2
    exact ⟨rfl, HK1.out, .inr ⟨q, rfl, HNO.out⟩⟩

theorem box_cells {w : World} {g : Nat} {a b c : Value} {t : TypeId} (h : w.heap[g]? = some (.cells #[a, b, c] t (0, 0))) :
    w.cell? ⟨g, 0, none⟩ = some a ∧ w.cell? ⟨g, 1, none⟩ = some b ∧ w.cell? ⟨g, 2, none⟩ = some c ∧ w.frozen? ⟨g, 0, none⟩ = false ∧ w.frozen? ⟨g, 1, none⟩ = false ∧ w.frozen? ⟨g, 2, none⟩ = false := by
  refine ⟨?_, ?_, ?_, ?_, ?_, ?_⟩ <;> first | simp [World.cell?, h] | simp [World.frozen?, h]

/-- A box of three cells is written anew. -/
theorem box_store {w1 : World} {g : Nat} {a b c : Value} (a' b' c' : Value) {t : TypeId} (h : w1.heap[g]? = some (.cells #[a, b, c] t (0, 0))) (r : Nat) (hr : r ≠ g) {w : World} (hK : Kp r w w1) (hg : w.heap.size ≤ g) :
    let W := ((w1.setCell ⟨g, 0, none⟩ a').setCell ⟨g, 1, none⟩ b').setCell ⟨g, 2, none⟩ c'
    W.cell? ⟨g, 0, none⟩ = some a' ∧ W.cell? ⟨g, 1, none⟩ = some b' ∧ W.cell? ⟨g, 2, none⟩ = some c' ∧ W.heap[r]? = w1.heap[r]? ∧ Kp r w W := by
  have h1 : (w1.setCell ⟨g, 0, none⟩ a').heap[g]? = some (.cells #[a', b, c] t (0, 0)) := by rw [heap_setCell_same w1 g 0 _ _ _ h]; rfl
  have h2 : ((w1.setCell ⟨g, 0, none⟩ a').setCell ⟨g, 1, none⟩ b').heap[g]? = some (.cells #[a', b', c] t (0, 0)) := by rw [heap_setCell_same _ g 1 _ _ _ h1]; rfl
  have h3 : (((w1.setCell ⟨g, 0, none⟩ a').setCell ⟨g, 1, none⟩ b').setCell ⟨g, 2, none⟩ c').heap[g]? = some (.cells #[a', b', c'] t (0, 0)) := by rw [heap_setCell_same _ g 2 _ _ _ h2]; rfl
  have h4 : ∀ k, k ≠ g → (((w1.setCell ⟨g, 0, none⟩ a').setCell ⟨g, 1, none⟩ b').setCell ⟨g, 2, none⟩ c').heap[k]? = w1.heap[k]? := by
    intro k hk
    rw [heap_setCell_other _ _ _ _ (by simpa using hk), heap_setCell_other _ _ _ _ (by simpa using hk), heap_setCell_other _ _ _ _ (by simpa using hk)]
  obtain ⟨c0, c1, c2, _⟩ := box_cells h3
  refine ⟨c0, c1, c2, h4 r hr, hK.os, hK.tape, hK.output, ?_, ?_⟩
  · simpa using hK.size
  · intro i hi hne
    rw [h4 i (by omega)]
    exact World.grownBy.block hK i hi hne

set_option maxRecDepth 100000 in
set_option maxHeartbeats 2000000 in
theorem readPlain1_any (k : Int) (hk : k = 1 ∨ k = 2 ∨ k = 3) (r p : Nat) (s : ByteArray) (w : World) (hm : s.size ≤ maxLen) (hp : p ≤ s.size) (h : w.heap[r]? = some (rdr s p)) :
    Calls Try.prog 142 #[.pointer (some ⟨r, 0, none⟩), .int .i64 k] w fun e w' => Kp r w w' ∧ ((∃ v : Val, e = .returned (.agg #[.bool v.null, .int .i64 v.n, .string v.s]) ∧ VK k v ∧ Starts (bytesOf s) p (plainB k v) ∧ p + (plainB k v).length ≤ s.size ∧ w'.heap[r]? = some (rdr s (p + (plainB k v).length))) ∨
      (∃ q, e = .panicked (badAt q) ∧ ∀ v : Val, VK k v → ¬ Starts (bytesOf s) p (plainB k v))) := by
  have hrl : r < w.heap.size := lt_of_block h
  have HR : Hid (w.heap[r]? = some (rdr s p)) := h
  have HR0 : Hid ((w.alloc (.cells #[.bool false, .int .i64 0, .string ⟨#[]⟩] 39)).heap[r]? = some (rdr s p)) := by
    show _ = _
    rw [Below.heap_alloc _ _ r hrl]; exact h
  have HKA : Hid (Kp r w (w.alloc (.cells #[.bool false, .int .i64 0, .string ⟨#[]⟩] 39))) := (Kp.refl r w).alloc _
  have hlen : ∀ xs, Starts (bytesOf s) p xs → p + xs.length ≤ s.size := fun xs hs => by have := starts_len hs (by rw [bytesOf_length]; exact hp); rwa [bytesOf_length] at this
  have HLEN : Hid (∀ xs, Starts (bytesOf s) p xs → p + xs.length ≤ s.size) := hlen
  clear h hlen
  rcases hk with rfl | rfl | rfl
  · go_enter Try.func142, Try.ntmps142
    go_wp2_with fail
    refine (varint_rd r p s _ hm hp HR0.out).mono ?_
    rintro e w1 ⟨hK1, ⟨n, rfl, hn, hs1, hR1⟩ | ⟨q, rfl, hno⟩⟩
    · have HK1 : Hid (Kp r w w1) := HKA.out.trans hK1
      have hbx : w1.heap[w.heap.size]? = some (.cells #[.bool false, .int .i64 0, .string ⟨#[]⟩] 39 (0, 0)) := Kp.block hK1 (heap_alloc_new w _) (by omega)
      obtain ⟨c0, c1, c2, f0, f1, f2⟩ := box_cells hbx
      have HBX : Hid (w1.heap[w.heap.size]? = some (.cells #[.bool false, .int .i64 0, .string ⟨#[]⟩] 39 (0, 0))) := hbx
      clear hbx
      have HR1 : Hid (w1.heap[r]? = some (rdr s (p + (vint n).length))) := hR1
      have HS1 : Hid (Starts (bytesOf s) p (vint n)) := hs1
      have HN : Hid (n < 18446744073709551616) := hn
      have HUZ : Hid (∀ w, Calls Try.prog 151 #[.int .u64 (n : Int)] w fun e w' => e = .returned (.int .i64 (uz n)) ∧ w' = w) := fun w => unzigzag_any n w hn
      clear hn hs1 hR1 hK1 HR HR0 HKA
      go_wp2_with (go_at_call 151; refine (HUZ.out _).mono ?_; rintro e w' ⟨rfl, rfl⟩)
      clear c0 c1 c2 f0 f1 f2
      obtain ⟨g0, g1, g2, g3, g4⟩ := box_store (.bool false) (.int .i64 (uz n)) (.string ⟨#[]⟩) HBX.out r (by omega) HK1.out (Nat.le_refl _)
      simp [bodyPost, results, Try.results142, go_sem, g0, g1, g2]
      have hpb : plainB 1 ⟨false, uz n, ⟨#[]⟩⟩ = vint n := by show vint (zz (uz n)) = _; rw [zz_uz]
      have hrg := uz_range n HN.out
      refine ⟨g4, ⟨false, uz n, ⟨#[]⟩⟩, ⟨rfl, rfl, rfl⟩, ⟨rfl, hrg.1, hrg.2, fun _ => rfl, fun h => by omega, fun h => by omega⟩, ?_, ?_, ?_⟩
      · rw [hpb]; exact HS1.out
      · rw [hpb]; exact HLEN.out _ HS1.out
      · rw [hpb, g3]; exact HR1.out
    · have HNO : Hid (∀ v : Val, VK 1 v → ¬ Starts (bytesOf s) p (plainB 1 v)) := fun v hv => hno (zz v.n) (zz_lt _ hv.lo hv.hi)
      have HK1 : Hid (Kp r w w1) := HKA.out.trans hK1
      clear hno hK1
      go_wp2
      exact ⟨rfl, HK1.out, .inr ⟨q, rfl, HNO.out⟩⟩
  · go_enter Try.func142, Try.ntmps142
    go_wp2_with fail
    refine (bit_any r p s _ hm hp HR0.out).mono ?_
    rintro e w1 ⟨hK1, ⟨n, rfl, hb, hs1, hR1, hl1⟩ | ⟨q, rfl, hno⟩⟩
    · have HK1 : Hid (Kp r w w1) := HKA.out.trans hK1
      have hbx : w1.heap[w.heap.size]? = some (.cells #[.bool false, .int .i64 0, .string ⟨#[]⟩] 39 (0, 0)) := Kp.block hK1 (heap_alloc_new w _) (by omega)
      obtain ⟨c0, c1, c2, f0, f1, f2⟩ := box_cells hbx
      have HBX : Hid (w1.heap[w.heap.size]? = some (.cells #[.bool false, .int .i64 0, .string ⟨#[]⟩] 39 (0, 0))) := hbx
      clear hbx
      have HR1 : Hid (w1.heap[r]? = some (rdr s (p + 1))) := hR1
      have HS1 : Hid (Starts (bytesOf s) p [n.toNat]) := hs1
      have HB : Hid (n = 0 ∨ n = 1) := hb
      clear hb hs1 hR1 hK1 HR HR0 HKA
      go_wp2
      clear c0 c1 c2 f0 f1 f2
      obtain ⟨g0, g1, g2, g3, g4⟩ := box_store (.bool false) (.int .i64 n) (.string ⟨#[]⟩) HBX.out r (by omega) HK1.out (Nat.le_refl _)
      simp [bodyPost, results, Try.results142, go_sem, g0, g1, g2]
      have hpb : plainB 2 ⟨false, n, ⟨#[]⟩⟩ = [n.toNat] := by show [byteOf n] = _; rw [byteOf_bit HB.out]
      have hb := HB.out
      refine ⟨g4, ⟨false, n, ⟨#[]⟩⟩, ⟨rfl, rfl, rfl⟩, ⟨rfl, by show _ ≤ n; omega, by show n ≤ _; omega, fun h => by omega, fun _ => ⟨hb, rfl⟩, fun h => by omega⟩, ?_, ?_, ?_⟩
      · rw [hpb]; exact HS1.out
      · rw [hpb]; exact hl1
      · rw [hpb, g3]; exact HR1.out
    · have HNO : Hid (∀ v : Val, VK 2 v → ¬ Starts (bytesOf s) p (plainB 2 v)) := fun v hv hs => hno v.n (hv.s2 rfl).1 (by rw [← byteOf_bit (hv.s2 rfl).1]; exact hs)
      have HK1 : Hid (Kp r w w1) := HKA.out.trans hK1
      clear hno hK1
      go_wp2
      exact ⟨rfl, HK1.out, .inr ⟨q, rfl, HNO.out⟩⟩
  · go_enter Try.func142, Try.ntmps142
    go_wp2_with fail
    refine (readText_any r p s _ hm hp HR0.out).mono ?_
    rintro e w1 ⟨hK1, ⟨x, rfl, hx, hs1, hR1⟩ | ⟨q, rfl, hno⟩⟩
    · have HK1 : Hid (Kp r w w1) := HKA.out.trans hK1
      have hbx : w1.heap[w.heap.size]? = some (.cells #[.bool false, .int .i64 0, .string ⟨#[]⟩] 39 (0, 0)) := Kp.block hK1 (heap_alloc_new w _) (by omega)
      obtain ⟨c0, c1, c2, f0, f1, f2⟩ := box_cells hbx
      have HBX : Hid (w1.heap[w.heap.size]? = some (.cells #[.bool false, .int .i64 0, .string ⟨#[]⟩] 39 (0, 0))) := hbx
      clear hbx
      have HR1 : Hid (w1.heap[r]? = some (rdr s (p + (vint x.size ++ bytesOf x).length))) := hR1
      have HS1 : Hid (Starts (bytesOf s) p (vint x.size ++ bytesOf x)) := hs1
      clear hs1 hR1 hK1 HR HR0 HKA
      go_wp2
      clear c0 c1 c2 f0 f1 f2
      obtain ⟨g0, g1, g2, g3, g4⟩ := box_store (.bool false) (.int .i64 0) (.string x) HBX.out r (by omega) HK1.out (Nat.le_refl _)
      simp [bodyPost, results, Try.results142, go_sem, g0, g1, g2]
      have hpb : plainB 3 ⟨false, 0, x⟩ = vint x.size ++ bytesOf x := rfl
      refine ⟨g4, ⟨false, 0, x⟩, ⟨rfl, rfl, rfl⟩, ⟨rfl, by show _ ≤ (0 : Int); omega, by show (0 : Int) ≤ _; omega, fun h => by omega, fun h => by omega, fun _ => ⟨rfl, hx⟩⟩, ?_, ?_, ?_⟩
      · rw [hpb]; exact HS1.out
      · rw [hpb]; exact HLEN.out _ HS1.out
      · rw [hpb, g3]; exact HR1.out
    · have HNO : Hid (∀ v : Val, VK 3 v → ¬ Starts (bytesOf s) p (plainB 3 v)) := fun v hv hs => hno v.s (hv.s3 rfl).2 hs
      have HK1 : Hid (Kp r w w1) := HKA.out.trans hK1
      clear hno hK1
      go_wp2
      exact ⟨rfl, HK1.out, .inr ⟨q, rfl, HNO.out⟩⟩
end Go.Proofs.Ytjidbonhhpkljaa.Ec
