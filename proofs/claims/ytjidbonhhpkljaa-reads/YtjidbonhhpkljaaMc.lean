/- What the proof stands on: WrEncs, WrOpts, WrFile, WrCopy, WrLendA, WrSame, CvBook, CvOwn, CvLooks, WrBand, WrUntil, WrFileC, WrFoot, WrJoin, WrPlain. -/
import Derived.Test.YtjidbonhhpkljaaMb
import Derived.Deep.MidRow
import Derived.Deep.RegionHeld3
import Derived.Deep.AppendLies
import Derived.OrdersHeld
import Derived.RegionTactic
import Derived.Below
import Derived.Outline
import Derived.Lib.SlBytesConst

/- May encodings be: both sides. -/
set_option linter.unusedVariables false
namespace Go.Proofs.Ytjidbonhhpkljaa.Ec
open Go.RowKit Go.Proofs.Ytjidbonhhpkljaa.Pk
/-- May encodings be, of columns? -/
def EncsOk (l : List Col) (es : List Int) : Prop := l.length = es.length ∧ ∀ i, (h : i < l.length) → hasEncB l[i].kind (es.getD i 0) = true

set_option maxRecDepth 100000 in
set_option maxHeartbeats 4000000 in
theorem areEncodings_any (l : List Col) (es : List Int) (cv ev : Value) (w : World) (hm : l.length ≤ maxLen) (hm2 : es.length ≤ maxLen) (hcs : CSl w cv l) (hes : ISl w ev es) :
    Calls Try.prog 91 #[ev, cv] w fun e w' => ∃ bb, e = .returned (.bool bb) ∧ (bb = true ↔ EncsOk l es) ∧ Below w.heap.size w w' := by
  obtain ⟨ao, b, off, cap, rfl, hcap, hr⟩ := hcs
  obtain ⟨eo, eb, eoff, ecap, rfl, ha, hlt0, hc⟩ := hes
  unfold maxLen at hm hm2
  by_cases hl : l.length = es.length
  · have hle : ((es.length : Int) != (l.length : Int)) = false := by simp [hl]
    have HL : Hid (l.length = es.length) := hl
    have HR : Hid (CRow w ao b off l) := hr
    have HEA : Hid (0 < es.length → eo = some ⟨eb, eoff, none⟩) := ha
    have HEL : Hid (0 < es.length → eb < w.heap.size) := hlt0
    have HEC : Hid (∀ j, j < es.length → w.cell? ⟨eb, eoff + j, none⟩ = some (.int .i64 (es.getD j 0))) := hc
    clear hr hl ha hlt0 hc
    go_enter Try.func91, Try.ntmps91
    go_wp2_with fail
    clear hle
    go_loopw [14] (fun i wr => ∃ j : Nat, j ≤ l.length ∧ i = .int .i64 j ∧ (∀ i, (h : i < l.length) → i < j → hasEncB l[i].kind (es.getD i 0) = true) ∧ Below w.heap.size w wr) (fun i _ => l.length - (intOf i).toNat)
    case atStart => exact ⟨0, Nat.zero_le _, rfl, fun t _ h => by omega, Below.refl _ _⟩
    case round =>
      obtain ⟨j, hj, rfl, hall, hbel⟩ := hrel
      have HA : Hid (∀ i, (h : i < l.length) → i < j → hasEncB l[i].kind (es.getD i 0) = true) := hall
      have HB : Hid (Below w.heap.size w wr) := hbel
      have hsz := hbel.size
      clear hall
      by_cases hlt : j < l.length
      · have hr := HR.out.below hbel
        obtain rfl := hr.addr (by omega)
        have hlt2 : j < es.length := by rw [← HL.out]; exact hlt
        obtain rfl := HEA.out (by omega)
        have hebw := HEL.out (by omega)
        have p0 := hr.c0 j hlt
        have p1 := hr.c1 j hlt
        have hq0 : wr.cell? ⟨eb, eoff + j, none⟩ = some (.int .i64 (es.getD j 0)) := (hbel.cell (p := ⟨eb, eoff + j, none⟩) hebw).trans (HEC.out j hlt2)
        have hebr : eb < wr.heap.size := Nat.lt_of_lt_of_le hebw hsz
        have HX : Hid (hasEncB l[j].kind (es.getD j 0) = false → ¬ EncsOk l es) := fun h hc => by
          have := hc.2 j hlt
          rw [h] at this; cases this
        have HY : Hid (hasEncB l[j].kind (es.getD j 0) = true → ∀ i, (h : i < l.length) → i < j + 1 → hasEncB l[i].kind (es.getD i 0) = true) := fun h i hi h2 => by
          by_cases e2 : i = j
          · subst e2; exact h
          · exact HA.out i hi (by omega)
        clear hr hbel HA HR hebw
        generalize l[j] = x at *
        generalize es.getD j 0 = ee at *
        go_upto_region 6 with fail
        obtain ⟨q0, q1⟩ := two_cells wr (.string x.name) (.int .i64 x.kind) 104
        have hb0 : Below wr.heap.size wr (wr.alloc (.cells #[.string x.name, .int .i64 x.kind] 104)) := (Below.refl _ _).alloc (Nat.le_refl _) _
        have q2 := (hb0.cell (p := ⟨eb, eoff + j, none⟩) hebr).trans hq0
        have HBW : Hid (Below w.heap.size w (wr.alloc (.cells #[.string x.name, .int .i64 x.kind] 104))) := HB.out.trans (hb0.mono hsz)
        clear hb0 hq0 p0 p1
        generalize wr.alloc (.cells #[.string x.name, .int .i64 x.kind] 104) = W0 at *
        generalize wr.heap.size = g at *
        have HC := fun W => hasEncoding_any x.kind ee W
        have hjj : (j : Int) < (es.length : Int) := by omega
        cases hb : hasEncB x.kind ee
        · have HX3 : Hid (¬ EncsOk l es) := HX.out hb
          rw [hb] at HC
          clear HX HY hb
          go_quiet ((go_at_call 70; exact Calls.quiet_of_same (HC _)))
          go_wp2
          go_ret
          exact .inl ⟨rfl, HX3.out, below_drewN HBW.out _⟩
        · have HY2 : Hid (∀ i, (h : i < l.length) → i < j + 1 → hasEncB l[i].kind (es.getD i 0) = true) := HY.out hb
          rw [hb] at HC
          clear HX HY hb
          go_quiet ((go_at_call 70; exact Calls.quiet_of_same (HC _)))
          go_wp2
          go_roundw
          case rel => exact ⟨j + 1, by omega, by go_num, HY2.out, below_drewN HBW.out _⟩
          case measure => simp [intOf]; omega
      · have HP : Hid (EncsOk l es) := ⟨HL.out, fun i h => HA.out i h (by omega)⟩
        clear HA hbel
        go_wp2
        go_ret
        exact ⟨true, rfl, by simp only [true_iff]; exact HP.out, HB.out⟩
  · have hle : ((es.length : Int) != (l.length : Int)) = true := by simp; omega
    have HN : Hid (¬ EncsOk l es) := fun h => hl h.1
    clear hr ha hlt0 hc
    go_enter Try.func91, Try.ntmps91
    go_wp2
    all_goals go_ret
    all_goals exact ⟨false, rfl, by simp only [Bool.false_eq_true, false_iff]; exact HN.out, Below.refl _ _⟩

set_option maxRecDepth 100000 in
set_option maxHeartbeats 4000000 in
theorem encodingsMay_any (l : List Col) (es : List Int) (cv ev : Value) (w : World) (hm : l.length ≤ maxLen) (hm2 : es.length ≤ maxLen) (hcs : CSl w cv l) (hes : ISl w ev es) :
    Calls Try.prog 55 #[cv, ev] w fun e w' => ∃ bb, e = .returned (.bool bb) ∧ (bb = true ↔ EncsOk l es) ∧ Below w.heap.size w w' := by
  obtain ⟨ao, b, off, cap, rfl, hcap, hr⟩ := hcs
  obtain ⟨eo, eb, eoff, ecap, rfl, ha, hlt0, hc⟩ := hes
  unfold maxLen at hm hm2
  by_cases hl : l.length = es.length
  · have hle : ((l.length : Int) != (es.length : Int)) = false := by simp [hl]
    have HL : Hid (l.length = es.length) := hl
    have HR : Hid (CRow w ao b off l) := hr
    have HEA : Hid (0 < es.length → eo = some ⟨eb, eoff, none⟩) := ha
    have HEL : Hid (0 < es.length → eb < w.heap.size) := hlt0
    have HEC : Hid (∀ j, j < es.length → w.cell? ⟨eb, eoff + j, none⟩ = some (.int .i64 (es.getD j 0))) := hc
    clear hr hl ha hlt0 hc
    go_enter Try.func55, Try.ntmps55
    go_wp2_with fail
    clear hle
    go_loopw [5] (fun i wr => ∃ j : Nat, j ≤ l.length ∧ i = .int .i64 j ∧ (∀ i, (h : i < l.length) → i < j → hasEncB l[i].kind (es.getD i 0) = true) ∧ Below w.heap.size w wr) (fun i _ => l.length - (intOf i).toNat)
    case atStart => exact ⟨0, Nat.zero_le _, rfl, fun t _ h => by omega, Below.refl _ _⟩
    case round =>
      obtain ⟨j, hj, rfl, hall, hbel⟩ := hrel
      have HA : Hid (∀ i, (h : i < l.length) → i < j → hasEncB l[i].kind (es.getD i 0) = true) := hall
      have HB : Hid (Below w.heap.size w wr) := hbel
      have hsz := hbel.size
      clear hall
      by_cases hlt : j < l.length
      · have hr := HR.out.below hbel
        obtain rfl := hr.addr (by omega)
        have hlt2 : j < es.length := by rw [← HL.out]; exact hlt
        obtain rfl := HEA.out (by omega)
        have hebw := HEL.out (by omega)
        have p1 := hr.c1 j hlt
        have hq0 : wr.cell? ⟨eb, eoff + j, none⟩ = some (.int .i64 (es.getD j 0)) := (hbel.cell (p := ⟨eb, eoff + j, none⟩) hebw).trans (HEC.out j hlt2)
        have HX : Hid (hasEncB l[j].kind (es.getD j 0) = false → ¬ EncsOk l es) := fun h hc => by
          have := hc.2 j hlt
          rw [h] at this; cases this
        have HY : Hid (hasEncB l[j].kind (es.getD j 0) = true → ∀ i, (h : i < l.length) → i < j + 1 → hasEncB l[i].kind (es.getD i 0) = true) := fun h i hi h2 => by
          by_cases e2 : i = j
          · subst e2; exact h
          · exact HA.out i hi (by omega)
        clear hr hbel HA HR hebw
        generalize l[j] = x at *
        generalize es.getD j 0 = ee at *
        have HC := fun W => fits_any x.kind ee W
        have hjj : (j : Int) < (es.length : Int) := by omega
        cases hb : hasEncB x.kind ee
        · have HX3 : Hid (¬ EncsOk l es) := HX.out hb
          rw [hb] at HC
          clear HX HY hb
          go_wp2_with fail
          go_quiet ((go_at_call 40; exact Calls.quiet_of_same (HC _)))
          go_wp2
          go_ret
          exact ⟨false, rfl, by simp only [Bool.false_eq_true, false_iff]; exact HX3.out, below_drewN HB.out _⟩
        · have HY2 : Hid (∀ i, (h : i < l.length) → i < j + 1 → hasEncB l[i].kind (es.getD i 0) = true) := HY.out hb
          rw [hb] at HC
          clear HX HY hb
          go_wp2_with fail
          go_quiet ((go_at_call 40; exact Calls.quiet_of_same (HC _)))
          go_wp2
          go_roundw
          case rel => exact ⟨j + 1, by omega, by go_num, HY2.out, below_drewN HB.out _⟩
          case measure => simp [intOf]; omega
      · have HP : Hid (EncsOk l es) := ⟨HL.out, fun i h => HA.out i h (by omega)⟩
        clear HA hbel
        go_wp2
        go_ret
        exact ⟨true, rfl, by simp only [true_iff]; exact HP.out, HB.out⟩
  · have hle : ((l.length : Int) != (es.length : Int)) = true := by simp; omega
    have HN : Hid (¬ EncsOk l es) := fun h => hl h.1
    clear hr ha hlt0 hc
    go_enter Try.func55, Try.ntmps55
    go_wp2
    all_goals go_ret
    all_goals exact ⟨false, rfl, by simp only [Bool.false_eq_true, false_iff]; exact HN.out, Below.refl _ _⟩
end Go.Proofs.Ytjidbonhhpkljaa.Ec

/- May options be: the program's side. -/
set_option linter.unusedVariables false
namespace Go.Proofs.Ytjidbonhhpkljaa.Ec
open Go.RowKit Go.Proofs.Ytjidbonhhpkljaa.Pk
/-- May options be? -/
def OptsOk (bd : Int) (es : List Int) (cs : List Col) : Prop := 1 ≤ bd ∧ bd ≤ 100 ∧ EncsOk cs es

theorem ISl.lower {w w' : World} {v : Value} {zs : List Int} (h : ISl w v zs) (hb : Below w.heap.size w w') : ISl w' v zs := by
  obtain ⟨ao, b, off, cap, rfl, h1, h2, h3⟩ := h
  exact ⟨ao, b, off, cap, rfl, h1, fun h0 => Nat.lt_of_lt_of_le (h2 h0) hb.size, fun j hj => (hb.cell (p := ⟨b, off + j, none⟩) (h2 (by omega))).trans (h3 j hj)⟩

end Go.Proofs.Ytjidbonhhpkljaa.Ec

/- Files: bands and chunks as plain data, their cells and their bytes. -/
set_option linter.unusedVariables false
namespace Go.Proofs.Ytjidbonhhpkljaa.Ec
open Go.RowKit Go.Proofs.Ytjidbonhhpkljaa.Pk Go.Proofs.Ytjidbonhhpkljaa.Pm
/-- A column of a band: its bytes, its bounds. -/
structure Chk where
  text : ByteArray
  bnd : Bnd
/-- A band: how many rows, its chunks. -/
structure Bd where
  rows : Nat
  chunks : List Chk

theorem flat_at {α : Type} (f : α → List Value) (s : Nat) (hf : ∀ x, (f x).length = s) (l : List α) : ∀ j (h : j < l.length) i u, (f l[j])[i]? = some u → (l.flatMap f)[j * s + i]? = some u := by
  induction l with
  | nil => intro j h; simp at h
  | cons x r ih =>
    intro j h i u hu
    rw [List.flatMap_cons]
    cases j with
    | zero =>
      have hi : i < (f x).length := by
        simp only [List.getElem_cons_zero] at hu
        exact (List.getElem?_eq_some_iff.1 hu).1
      rw [List.getElem?_append_left (by omega)]
      simpa using hu
    | succ j =>
      have := ih j (by simpa using h) i u (by simpa using hu)
      rw [List.getElem?_append_right (by rw [hf, Nat.succ_mul]; omega), hf, show (j + 1) * s + i - s = j * s + i by rw [Nat.succ_mul]; omega]
      exact this
structure GRow {α : Type} (w : World) (f : α → List Value) (s : Nat) (ao : Option Addr) (b off : Nat) (l : List α) : Prop where
  addr : 0 < l.length → ao = some ⟨b, off, none⟩
  lt : 0 < l.length → b < w.heap.size
  c : ∀ j (h : j < l.length) i u, (f l[j])[i]? = some u → w.cell? ⟨b, off + j * s + i, none⟩ = some u
theorem GRow.below {α : Type} {w w' : World} {f : α → List Value} {s : Nat} {ao : Option Addr} {b off : Nat} {l : List α} (h : GRow w f s ao b off l) (hb : Below w.heap.size w w') : GRow w' f s ao b off l :=
  ⟨h.addr, fun h0 => Nat.lt_of_lt_of_le (h.lt h0) hb.size, fun j hj i u hu => (hb.cell (p := ⟨b, off + j * s + i, none⟩) (h.lt (by omega))).trans (h.c j hj i u hu)⟩
/-- A slice of things of some cells each. -/
def GSl {α : Type} (w : World) (f : α → List Value) (s : Nat) (v : Value) (l : List α) : Prop := ∃ ao b off cap, v = .slice ao l.length cap ∧ GRow w f s ao b off l
theorem GSl.below {α : Type} {w w' : World} {f : α → List Value} {s : Nat} {v : Value} {l : List α} (h : GSl w f s v l) (hb : Below w.heap.size w w') : GSl w' f s v l := by
  obtain ⟨ao, b, off, cap, rfl, h⟩ := h
  exact ⟨ao, b, off, cap, rfl, h.below hb⟩
theorem GSl.of_owns {α : Type} {w : World} {f : α → List Value} {s base : Nat} {e : TypeId} {v : Value} {l : List α} (hf : ∀ x, (f x).length = s) (h : w.ownsRow base e s v l.length (l.flatMap f)) : GSl w f s v l := by
  rcases h.2 with ⟨rfl, h0⟩ | ⟨g, cap, cur, rfl, hbg, hgb, hnc, hcm, hcs, htake⟩
  · have : l = [] := List.eq_nil_of_length_eq_zero h0
    subst this
    exact ⟨none, 0, 0, 0, rfl, ⟨fun h => by simp at h, fun h => by simp at h, fun j h => by simp at h⟩⟩
  · have hc := h.cells (g := g) rfl
    refine ⟨some ⟨g, 0, none⟩, g, 0, cap, rfl, ⟨fun _ => rfl, fun _ => (h.lt g rfl).2, ?_⟩⟩
    intro j hj i u hu
    have := hc _ _ (flat_at f s hf l j hj i u hu)
    simpa [Addr.add_lit] using this

/-- The cells of a chunk. -/
def kcell (c : Chk) : List Value := [.string c.text, .bool c.bnd.there, .bool c.bnd.least.null, .int .i64 c.bnd.least.n, .string c.bnd.least.s, .bool c.bnd.most.null, .int .i64 c.bnd.most.n, .string c.bnd.most.s]
def kcells (l : List Chk) : List Value := l.flatMap kcell
/-- The cells of a band, with the slice of its chunks. -/
def dcell (p : Bd × Value) : List Value := [.int .i64 (p.1.rows : Int), p.2]
def dcells (l : List (Bd × Value)) : List Value := l.flatMap dcell
theorem dcell_len (p : Bd × Value) : (dcell p).length = 2 := rfl
/-- The bands of a file, as they lie in memory. -/
structure Bands (w : World) (base : Nat) (v : Value) (L : List (Bd × Value)) : Prop where
  own : w.ownsRow base 152 2 v L.length (dcells L)
  each : ∀ p ∈ L, w.ownsRow base 156 8 p.2 p.1.chunks.length (kcells p.1.chunks)

/-- A chunk of rows. -/
def chkP (rows : List (List Val)) (cs : List Col) (es : List Int) (bo : Bool) (p : Nat) : Chk :=
  ⟨(encOf (colVals rows p) (cs.getD p ⟨⟨#[]⟩, 0⟩).kind (es.getD p 0)).1, if bo then boundsP (colVals rows p) else noBnd⟩
def chksP (rows : List (List Val)) (cs : List Col) (es : List Int) (bo : Bool) (n : Nat) : List Chk := (List.range n).map (chkP rows cs es bo)
theorem chksP_length (rows : List (List Val)) (cs : List Col) (es : List Int) (bo : Bool) (n : Nat) : (chksP rows cs es bo n).length = n := by simp [chksP]
/-- A band of rows. -/
def bandP (rows : List (List Val)) (cs : List Col) (es : List Int) (bo : Bool) : Bd := ⟨rows.length, chksP rows cs es bo cs.length⟩
/-- Some of the rows. -/
def cutR (rows : List (List Val)) (bd j : Nat) : List (List Val) := (rows.drop (j * bd)).take bd
/-- So many bands. -/
def bandsP (rows : List (List Val)) (cs : List Col) (es : List Int) (bo : Bool) (bd n : Nat) : List Bd := (List.range n).map fun j => bandP (cutR rows bd j) cs es bo
/-- How many bands there are. -/
def bandN (len bd : Nat) : Nat := (len + bd - 1) / bd
/-- Bounds as bytes. -/
def boundB (k : Int) (b : Bnd) : List Nat := if b.there then [1] ++ (plainB k b.least ++ plainB k b.most) else [0]
/-- A column as bytes. -/
def colB (cs : List Col) (es : List Int) (i : Nat) : List Nat := vint (cs.getD i ⟨⟨#[]⟩, 0⟩).name.size ++ (bytesOf (cs.getD i ⟨⟨#[]⟩, 0⟩).name ++ [byteOf (cs.getD i ⟨⟨#[]⟩, 0⟩).kind, byteOf (es.getD i 0)])
def colsB (cs : List Col) (es : List Int) (n : Nat) : List Nat := (List.range n).flatMap (colB cs es)
theorem colsB_succ (cs : List Col) (es : List Int) (n : Nat) : colsB cs es (n + 1) = colsB cs es n ++ colB cs es n := by
  unfold colsB
  rw [List.range_succ, List.flatMap_append, List.flatMap_singleton]
/-- What the footer says of a chunk. -/
def partB (cs : List Col) (l : List Chk) (i : Nat) : List Nat := vint (l.getD i ⟨⟨#[]⟩, noBnd⟩).text.size ++ boundB (cs.getD i ⟨⟨#[]⟩, 0⟩).kind (l.getD i ⟨⟨#[]⟩, noBnd⟩).bnd
def partsB (cs : List Col) (l : List Chk) (n : Nat) : List Nat := (List.range n).flatMap (partB cs l)
theorem partsB_succ (cs : List Col) (l : List Chk) (n : Nat) : partsB cs l (n + 1) = partsB cs l n ++ partB cs l n := by
  unfold partsB
  rw [List.range_succ, List.flatMap_append, List.flatMap_singleton]
/-- What the footer says of a band. -/
def bandB (cs : List Col) (b : Bd) : List Nat := vint b.rows ++ partsB cs b.chunks b.chunks.length
def bandsB (cs : List Col) (bs : List Bd) : List Nat := bs.flatMap (bandB cs)
/-- The footer. -/
def footB (cs : List Col) (es : List Int) (bs : List Bd) : List Nat := vint cs.length ++ (colsB cs es cs.length ++ (vint bs.length ++ bandsB cs bs))
/-- The length of the footer. -/
def lenB (n : Nat) : List Nat := [n % 256, n / 256 % 256, n / 65536 % 256, n / 16777216 % 256]
/-- The chunks. -/
def textB (l : List Chk) : List Nat := l.flatMap fun c => bytesOf c.text
theorem textB_snoc (l : List Chk) (c : Chk) : textB (l ++ [c]) = textB l ++ bytesOf c.text := by
  unfold textB
  rw [List.flatMap_append, List.flatMap_singleton]
def bodyB (bs : List Bd) : List Nat := bs.flatMap fun b => textB b.chunks
theorem bodyB_snoc (bs : List Bd) (b : Bd) : bodyB (bs ++ [b]) = bodyB bs ++ textB b.chunks := by
  unfold bodyB
  rw [List.flatMap_append, List.flatMap_singleton]
/-- The mark at both ends. -/
def markB : List Nat := [83, 84, 82, 65]
/-- A file. -/
def fileB (cs : List Col) (es : List Int) (bs : List Bd) : List Nat := markB ++ (bodyB bs ++ (footB cs es bs ++ (lenB (footB cs es bs).length ++ markB)))
end Go.Proofs.Ytjidbonhhpkljaa.Ec

/- A struct of many cells, copied from one box into another, and handed back. -/
set_option linter.unusedVariables false
set_option linter.unusedSimpArgs false
namespace Go.Proofs.Ytjidbonhhpkljaa.Ec
open Go.RowKit Go.Proofs.Ytjidbonhhpkljaa.Pk
theorem row_range {w : World} {g : Nat} {C : Array Value} {t : TypeId} (h : w.heap[g]? = some (.cells C t (0, 0))) : w.rangeAt g 0 C.toList := by
  intro j v hv
  rw [Nat.zero_add]
  simp only [World.cell?, h]
  simpa using hv
theorem row_there {w : World} {g : Nat} {C : Array Value} {t : TypeId} (h : w.heap[g]? = some (.cells C t (0, 0))) : w.there g 0 C.size := by
  intro j hj
  rw [Nat.zero_add]
  refine ⟨?_, ?_⟩
  · simp [World.cell?, h, hj]
  · simp [World.frozen?, h]
theorem below_setCells {n : Nat} {w : World} {g : Nat} (hn : n ≤ w.heap.size) (hg : n ≤ g) : ∀ (vs : List Value) (o : Nat) (w1 : World), Below n w w1 → Below n w (w1.setCells g o vs)
  | [], _, _, h => h
  | v :: r, o, w1, h => below_setCells hn hg r (o + 1) _ (below_put h hn hg o v)
theorem block_setCells {g k : Nat} (h : k ≠ g) : ∀ (vs : List Value) (o : Nat) (w : World), (w.setCells g o vs).heap[k]? = w.heap[k]?
  | [], _, _ => rfl
  | v :: r, o, w => by
    rw [World.setCells, block_setCells h r (o + 1)]
    exact heap_setCell_other _ _ _ _ (by simpa using h)
/-- A function's end whose one result lies in a box. -/
theorem post_cell {P : Program} {fn : Func} {R : Ending → World → Prop} {a : Act} {w : World} {p : Tmp} {ty : TypeId} {g : Nat} {cs : List Value} {d : TypeDesc} (hr : fn.results = #[.cell p ty]) (hd : a.defers = [])
    (hp : a.tmps.getD p undef = .pointer (some ⟨g, 0, none⟩)) (hc : w.rangeAt g 0 cs) (hu : P.underlying ty = some d) (hd2 : d.isRow = true) (hi : (P.info? ty).map (·.size) = some cs.length) (h : R (.returned (.agg cs.toArray)) w) : bodyPost P fn R .ret a w := by
  refine bodyPost_ret (v := .agg cs.toArray) ?_ hd h
  have h1 := run_loadVar_mid w g 0 ty cs d hc hu hd2 hi
  have hp' : a.tmps[p]?.getD undef = .pointer (some ⟨g, 0, none⟩) := by simpa using hp
  simp [results, hr, hp', asAddr, Sem.run_bind, Result.andThen, h1]
end Go.Proofs.Ytjidbonhhpkljaa.Ec

/- A table as a caller hands it in: the columns. -/
set_option linter.unusedVariables false
namespace Go.Proofs.Ytjidbonhhpkljaa.Ec
open Go.RowKit Go.Proofs.Ytjidbonhhpkljaa.Pk Go.Proofs.Ytjidbonhhpkljaa.Pm
theorem ccells_cons (x : Col) (r : List Col) : ccells (x :: r) = [.string x.name, .int .i64 x.kind] ++ ccells r := by simp [ccells]
theorem ccells_append (a b : List Col) : ccells (a ++ b) = ccells a ++ ccells b := by simp [ccells]
theorem ccells_at (l : List Col) (j : Nat) (h : j < l.length) : (ccells l)[j * 2]? = some (.string l[j].name) ∧ (ccells l)[j * 2 + 1]? = some (.int .i64 l[j].kind) :=
  ⟨flat_at _ 2 (fun _ => rfl) l j h 0 _ rfl, flat_at _ 2 (fun _ => rfl) l j h 1 _ rfl⟩
theorem ccells_set (L : List Col) : ∀ (j : Nat) (v : Col), j < L.length → ((ccells L).set (j * 2) (.string v.name)).set (j * 2 + 1) (.int .i64 v.kind) = ccells (L.set j v) := by
  induction L with
  | nil => intro j v h; simp at h
  | cons x r ih =>
    intro j v h
    cases j with
    | zero => simp [ccells_cons]
    | succ j =>
      have := ih j v (by simpa using h)
      rw [List.set_cons_succ, ccells_cons, ccells_cons, ← this]
      rw [show (j + 1) * 2 = j * 2 + 1 + 1 by omega]
      simp [List.set_cons_succ]
theorem Try.info104 : (Try.prog.info? 104).map (fun i => (i.zero, i.size, i.bytes)) = some (some (.agg #[.string ⟨#[]⟩, .int .i64 0]), 2, 24) := by kernel_rfl
end Go.Proofs.Ytjidbonhhpkljaa.Ec

/- Are columns, rows the same? -/
set_option linter.unusedVariables false
namespace Go.Proofs.Ytjidbonhhpkljaa.Ec
open Go.RowKit Go.Proofs.Ytjidbonhhpkljaa.Pk
def ceq (x y : Col) : Bool := (x.name.toList == y.name.toList) && (x.kind == y.kind)
theorem ceq_iff {x y : Col} : ceq x y = true ↔ x = y := by
  obtain ⟨a, b⟩ := x
  obtain ⟨c, d⟩ := y
  unfold ceq
  simp only [Bool.and_eq_true, beq_iff_eq, Col.mk.injEq]
  exact ⟨fun h => ⟨toList_inj h.1, h.2⟩, fun h => ⟨by rw [h.1], h.2⟩⟩
theorem run_neq_col (w : World) (x y : Col) : (binOp .neq 104 (.agg #[.string x.name, .int .i64 x.kind]) (.agg #[.string y.name, .int .i64 y.kind])).run Try.prog w = .ok (.bool (!ceq x y)) w := by
  go_simp
  unfold ceq
  by_cases h1 : x.name.toList = y.name.toList <;> by_cases h2 : x.kind = y.kind <;> simp [h1, h2]

set_option maxRecDepth 100000 in
set_option maxHeartbeats 2000000 in
theorem sameColumns_any (xs ys : List Col) (ao bo : Option Addr) (b off cap b2 off2 cap2 : Nat) (w : World) (hm : xs.length ≤ maxLen) (hm2 : ys.length ≤ maxLen)
    (h1 : CRow w ao b off xs) (h2 : CRow w bo b2 off2 ys) :
    Calls Try.prog 31 #[.slice ao xs.length cap, .slice bo ys.length cap2] w fun e w' => ∃ b, e = .returned (.bool b) ∧ (b = true ↔ xs = ys) ∧ ∃ n, w' = w.drewN n := by
  unfold maxLen at hm hm2
  by_cases hl : xs.length = ys.length
  · have hle : ((xs.length : Int) != (ys.length : Int)) = false := by simp [hl]
    have HL : Hid (xs.length = ys.length) := hl
    clear hl
    go_enter Try.func31, Try.ntmps31
    go_wp2_with fail
    clear hle
    go_loopw [5] (fun i wr => ∃ k : Nat, k ≤ xs.length ∧ i = .int .i64 k ∧ xs.take k = ys.take k ∧ ∃ n, wr = w.drewN n) (fun i _ => xs.length - (intOf i).toNat)
    case atStart => exact ⟨0, Nat.zero_le _, rfl, rfl, 0, rfl⟩
    case round =>
      obtain ⟨k, hk, rfl, htk, n, hwr⟩ := hrel
      have HT : Hid (xs.take k = ys.take k) := htk
      clear htk
      by_cases hlt : k < xs.length
      · have hlt2 : k < ys.length := by rw [← HL.out]; exact hlt
        obtain rfl := h1.addr (by omega)
        obtain rfl := h2.addr (by omega)
        have p0 : wr.cell? ⟨b, off + k * 2, none⟩ = some (.string xs[k].name) := by rw [hwr]; exact h1.c0 k hlt
        have p1 : wr.cell? ⟨b, off + k * 2 + 1, none⟩ = some (.int .i64 xs[k].kind) := by rw [hwr]; exact h1.c1 k hlt
        have q0 : wr.cell? ⟨b2, off2 + k * 2, none⟩ = some (.string ys[k].name) := by rw [hwr]; exact h2.c0 k hlt2
        have q1 : wr.cell? ⟨b2, off2 + k * 2 + 1, none⟩ = some (.int .i64 ys[k].kind) := by rw [hwr]; exact h2.c1 k hlt2
        have HW : Hid (wr = w.drewN n) := hwr
        have HN : Hid (xs[k] ≠ ys[k] → xs ≠ ys) := fun h e => h (by subst e; rfl)
        have HY : Hid (xs[k] = ys[k] → xs.take (k + 1) = ys.take (k + 1)) := fun h => by rw [List.take_succ_eq_append_getElem hlt, List.take_succ_eq_append_getElem hlt2, HT.out, h]
        have hq := fun w => run_neq_col w xs[k] ys[k]
        clear hwr h1 h2 HT
        generalize xs[k] = x at *
        generalize ys[k] = y at *
        by_cases hxy : x = y
        · have hb : ceq x y = true := ceq_iff.2 hxy
          have HY3 : Hid (xs.take (k + 1) = ys.take (k + 1)) := HY.out hxy
          rw [hb] at hq
          clear HY HN hxy hb
          go_wp2_with fail
          go_quiet (fail)
          go_wp2
          go_roundw
          case rel => exact ⟨k + 1, by omega, by go_num, HY3.out, n + nq, by rw [HW.out]; exact World.drewN_drewN _ _ _⟩
          case measure => simp [intOf]; omega
        · have hb : ceq x y = false := by rw [Bool.eq_false_iff]; intro h; exact hxy (ceq_iff.1 h)
          have HN2 : Hid (xs ≠ ys) := HN.out hxy
          rw [hb] at hq
          clear HY HN hxy hb
          go_wp2_with fail
          go_quiet (fail)
          go_wp2
          go_ret
          exact ⟨false, rfl, by simp only [Bool.false_eq_true, false_iff]; exact HN2.out, n + nq, by rw [HW.out]; exact World.drewN_drewN _ _ _⟩
      · have HE : Hid (xs = ys) := by
          have := HT.out
          rw [List.take_of_length_le (by omega), List.take_of_length_le (by have := HL.out; omega)] at this
          exact this
        have HW : Hid (wr = w.drewN n) := hwr
        clear hwr
        go_wp2
        go_ret
        exact ⟨true, rfl, by simp only [true_iff]; exact HE.out, n, HW.out⟩
  · have hle : ((xs.length : Int) != (ys.length : Int)) = true := by simp; omega
    have HN : Hid (xs ≠ ys) := fun e => hl (by rw [e])
    clear hl
    go_enter Try.func31, Try.ntmps31
    go_wp2
    go_ret
    exact ⟨false, rfl, by simp only [Bool.false_eq_true, false_iff]; exact HN.out, 0, rfl⟩
end Go.Proofs.Ytjidbonhhpkljaa.Ec

/- The statement's book of lists of columns that came out: what stays true of it while lists are written over and grow. -/
set_option linter.unusedVariables false
namespace Go.Proofs.Ytjidbonhhpkljaa.Ec
open Go.RowKit Go.Proofs.Ytjidbonhhpkljaa.Pk Go.Proofs.Ytjidbonhhpkljaa.Pm
/-- A mark. -/
def mkC (k : Int) : Col := ⟨⟨#[]⟩, -1 - k⟩

theorem cfull_cells {cur : Array Value} {n : Nat} {k : Int} (h : cur.toList.take (n * 2) = ccells (List.replicate n (mkC k))) {j : Nat} (hj : j < n) : cur[j * 2]? = some (.string ⟨#[]⟩) ∧ cur[j * 2 + 1]? = some (.int .i64 (-1 - k)) := by
  obtain ⟨h1, h2⟩ := ccells_at (List.replicate n (mkC k)) j (by simpa using hj)
  rw [← h, List.getElem?_take, if_pos (by omega)] at h1 h2
  simp only [List.getElem_replicate, Array.getElem?_toList] at h1 h2
  exact ⟨h1, h2⟩

theorem Try.infoCOut : (Try.prog.info? 119).map (fun i => (i.zero, i.size, i.bytes)) = some (some (.agg #[.slice none 0 0, .int .i64 0]), 2, 32) := by kernel_rfl

/-- A list of numbers that reads as its mark says. -/
def CFull (w : World) (v : Value) (m : Int) : Prop :=
  ∃ ao n cap, v = .slice ao n cap ∧ n ≤ 1000 ∧ (0 < n → ∃ g cur, ao = some ⟨g, 0, none⟩ ∧ w.heap[g]? = some (.cells cur 104 (0, 0)) ∧ ∀ j, j < n → cur[j * 2]? = some (.string ⟨#[]⟩) ∧ cur[j * 2 + 1]? = some (.int .i64 (-1 - m)))

/-- The book, with its entries. -/
structure CkInv (w : World) (base B : Nat) (iv : Value) (es : List (Value × Int)) : Prop where
  blk : w.heap[B]? = some (.cells #[.slice none 0 0, .slice none 0 0, .slice none 0 0, iv] 70 (0, 0))
  own : w.ownsRow base 119 2 iv es.length (ecells es)
  full : ∀ e ∈ es, CFull w e.1 e.2

theorem CFull.other {w w' : World} {v : Value} {m : Int} {row : Option Nat} (h : CFull w v m) (hg : w.grownBy w' row)
    (hne : ∀ g cur, v.ownBlock = some g → w.heap[g]? = some (.cells cur 104 (0, 0)) → row ≠ some g) : CFull w' v m := by
  obtain ⟨ao, n, cap, rfl, hn, hf⟩ := h
  refine ⟨ao, n, cap, rfl, hn, fun h0 => ?_⟩
  obtain ⟨g, cur, rfl, hb, hc⟩ := hf h0
  exact ⟨g, cur, rfl, by rw [hg.block g (lt_of_block hb) (fun h => hne g cur rfl hb h.symm)]; exact hb, hc⟩

theorem CkInv.other {w w' : World} {base B : Nat} {iv : Value} {es : List (Value × Int)} {row : Option Nat} (h : CkInv w base B iv es) (hg : w.grownBy w' row)
    (h3 : ∀ g, row = some g → (∃ cur, w.heap[g]? = some (.cells cur 104 (0, 0))) ∧ ∀ e ∈ es, ∀ ao n cap, e.1 = .slice ao n cap → 0 < n → e.1.ownBlock ≠ some g) : CkInv w' base B iv es := by
  refine ⟨?_, ?_, ?_⟩
  · rw [hg.block B (lt_of_block h.blk) (fun hr => ?_)]
    · exact h.blk
    · obtain ⟨⟨cur, hc⟩, _⟩ := h3 B hr.symm
      exact blk_ne hc h.blk (by decide) rfl
  · refine h.own.kept hg ?_
    by_cases hi : iv.ownBlock = none
    · exact .inl hi
    · refine .inr fun hr => ?_
      obtain ⟨g, hgi⟩ := Option.ne_none_iff_exists'.1 hi
      obtain ⟨cur, hc⟩ := owns_blk h.own hgi
      obtain ⟨⟨cur2, hc2⟩, _⟩ := h3 g (by rw [← hr, hgi])
      exact blk_ne hc hc2 (by decide) rfl
  · intro e he
    obtain ⟨ao, n, cap, h1, hn, hf⟩ := h.full e he
    rw [h1]
    refine ⟨ao, n, cap, rfl, hn, fun h0 => ?_⟩
    obtain ⟨g, cur, rfl, hb, hc⟩ := hf h0
    refine ⟨g, cur, rfl, ?_, hc⟩
    rw [hg.block g (lt_of_block hb) (fun hr => ?_)]
    · exact hb
    · exact (h3 g hr.symm).2 e he _ _ _ h1 h0 (by rw [h1]; rfl)

/-- An entry more: behind 'append' on the book's row and the store. -/
theorem CkInv.push {w w1 : World} {base B : Nat} {iv iv' v : Value} {k : Int} {es : List (Value × Int)} {n : Nat} {xs : List Value} (o : Obj) (h : CkInv w base B iv es) (hv : CFull w v k)
    (hl : w.ownsRow base 104 2 v n xs) (hB : base ≤ B) (hown : w1.ownsRow base 119 2 iv' (es.length + 1) (ecells es ++ [v, .int .i64 k])) (hg : (w.alloc o).grownBy w1 iv.ownBlock) :
    CkInv (w1.setCell ⟨B, 3, none⟩ iv') base B iv' (es ++ [(v, k)]) ∧ (w1.setCell ⟨B, 3, none⟩ iv').ownsRow base 104 2 v n xs := by
  have ha : w.grownBy (w.alloc o) none := World.grownBy_alloc w o none
  have hne : ∀ (b : Nat) (c : Array Value) (t : TypeId), w.heap[b]? = some (.cells c t (0, 0)) → t ≠ 119 → w1.heap[b]? = w.heap[b]? := by
    intro b c t hb ht
    rw [hg.block b (by have := lt_of_block hb; simp; omega) (fun hr => ?_), ha.block b (lt_of_block hb) (by simp)]
    obtain ⟨cur, hc⟩ := owns_blk h.own hr.symm
    exact blk_ne hb hc ht rfl
  have hB1 := hne B _ _ h.blk (by decide)
  rw [h.blk] at hB1
  have hB2 := heap_setCell_same w1 B 3 _ _ iv' hB1
  have hne2 : ∀ (b : Nat) (c : Array Value) (t : TypeId), w.heap[b]? = some (.cells c t (0, 0)) → t ≠ 119 → t ≠ 70 → (w1.setCell ⟨B, 3, none⟩ iv').heap[b]? = w.heap[b]? := by
    intro b c t hb ht ht2
    rw [heap_setCell_other w1 ⟨B, 3, none⟩ b iv' (fun hr => ?_), hne b c t hb ht]
    exact blk_ne hb h.blk ht2 hr
  have hfil : ∀ u m, CFull w u m → CFull (w1.setCell ⟨B, 3, none⟩ iv') u m := by
    rintro u m ⟨ao, n', cap, rfl, hn, hf⟩
    refine ⟨ao, n', cap, rfl, hn, fun h0 => ?_⟩
    obtain ⟨g, cur, rfl, hb, hc⟩ := hf h0
    exact ⟨g, cur, rfl, by rw [hne2 g _ _ hb (by decide) (by decide)]; exact hb, hc⟩
  refine ⟨⟨?_, ?_, ?_⟩, ?_⟩
  · rw [hB2]; rfl
  · rw [List.length_append, List.length_singleton, ← ecells_snoc]
    refine ownsRow_setCell_other hown (fun hr => ?_) _
    obtain ⟨cur, hc⟩ := owns_blk hown hr
    exact blk_ne hc hB1 (by decide) rfl
  · intro e he
    rcases List.mem_append.1 he with h1 | h1
    · exact hfil _ _ (h.full e h1)
    · simp at h1
      subst h1
      exact hfil _ _ hv
  · refine ⟨hl.1, ?_⟩
    rcases hl.2 with h1 | ⟨g, cap, cur, h1, h2, h3, h4⟩
    · exact .inl h1
    · exact .inr ⟨g, cap, cur, h1, h2, by rw [hne2 g _ _ h3 (by decide) (by decide)]; exact h3, h4⟩

theorem CFull.mk {w : World} {base : Nat} {v : Value} {n : Nat} {x : Int} (h : w.ownsRow base 104 2 v n (ccells (List.replicate n (mkC x)))) (hn : n ≤ 1000) : CFull w v x := by
  rcases h.2 with ⟨rfl, rfl⟩ | ⟨g, cap, cur, rfl, _, h3, _, _, _, h7⟩
  · exact ⟨none, 0, 0, rfl, by omega, by omega⟩
  · refine ⟨_, n, cap, rfl, hn, fun h0 => ⟨g, cur, rfl, h3, fun j hj => ?_⟩⟩
    exact cfull_cells h7 hj

/-- Of the entries those that stand in the row of v are no longer than n, and bear the mark k. -/
def CShares (v : Value) (n : Nat) (k : Int) (es : List (Value × Int)) : Prop := ∀ e ∈ es, ∀ g n' cap', e.1 = .slice (some ⟨g, 0, none⟩) n' cap' → 0 < n' → v.ownBlock = some g → e.2 = k ∧ n' ≤ n

/-- The list grows by one more mark. -/
theorem CkInv.grow {w w1 : World} {base B : Nat} {iv v v' : Value} {k : Int} {es : List (Value × Int)} {n : Nat} (o : Obj) (h : CkInv w base B iv es) (hs : CShares v n k es)
    (hl : w.ownsRow base 104 2 v n (ccells (List.replicate n (mkC k)))) (hown : w1.ownsRow base 104 2 v' (n + 1) (ccells (List.replicate (n + 1) (mkC k))))
    (hg : ((w.alloc o).grownBy w1 none ∧ w1.ownsRow (w.alloc o).heap.size 104 2 v' (n + 1) (ccells (List.replicate (n + 1) (mkC k)))) ∨ (v'.ownBlock = v.ownBlock ∧ (w.alloc o).grownBy w1 v.ownBlock)) :
    CkInv w1 base B iv es ∧ CShares v' (n + 1) k es := by
  have ha := h.other (World.grownBy_alloc w o none) (fun g hg => by cases hg)
  rcases hg with ⟨hg, hnew⟩ | ⟨hv, hg⟩
  · refine ⟨ha.other hg (fun g hg => by cases hg), ?_⟩
    intro e he g n' cap' h1 h0 hvg
    exfalso
    obtain ⟨ao, n2, cap2, h2, _, hf⟩ := ha.full e he
    rw [h1] at h2
    simp only [Value.slice.injEq] at h2
    obtain ⟨rfl, rfl, rfl⟩ := h2
    obtain ⟨g2, cur, hg2, hb, _⟩ := hf h0
    simp only [Option.some.injEq, Addr.mk.injEq, and_true] at hg2
    subst hg2
    have := lt_of_block hb
    have := (hnew.lt g hvg).1
    omega
  · rcases hown.2 with ⟨_, h0⟩ | ⟨g0, cap0, cur0, rfl, _, hb0, _, _, _, ht0⟩
    · omega
    have hv0 : v.ownBlock = some g0 := by rw [← hv]; rfl
    rw [hv0] at hg
    obtain ⟨curA, hcA⟩ := owns_blk (hl.alloc o) hv0
    have hcell : ∀ j, j < n + 1 → cur0[j * 2]? = some (.string ⟨#[]⟩) ∧ cur0[j * 2 + 1]? = some (.int .i64 (-1 - k)) := fun j hj => cfull_cells ht0 hj
    refine ⟨⟨?_, ?_, ?_⟩, ?_⟩
    · rw [hg.block B (lt_of_block ha.blk) (fun hr => ?_)]
      · exact ha.blk
      · simp at hr
        subst hr
        exact blk_ne hcA ha.blk (by decide) rfl
    · refine ha.own.kept hg ?_
      by_cases hi : iv.ownBlock = none
      · exact .inl hi
      · refine .inr fun hr => ?_
        obtain ⟨cur, hc⟩ := owns_blk ha.own hr
        exact blk_ne hc hcA (by decide) rfl
    · intro e he
      obtain ⟨ao, n2, cap2, h2, hn2, hf⟩ := ha.full e he
      rw [h2]
      refine ⟨ao, n2, cap2, rfl, hn2, fun hp => ?_⟩
      obtain ⟨g, cur, rfl, hb, hc⟩ := hf hp
      by_cases hgg : g = g0
      · subst hgg
        obtain ⟨hm, hle⟩ := hs e he g n2 cap2 h2 hp hv0
        exact ⟨g, cur0, rfl, hb0, fun j hj => by rw [hm]; exact hcell j (by omega)⟩
      · exact ⟨g, cur, rfl, by rw [hg.block g (lt_of_block hb) (by simp; exact hgg)]; exact hb, hc⟩
    · intro e he g n' cap' h1 hp hvg
      obtain ⟨hm, hle⟩ := hs e he g n' cap' h1 hp (by rw [hv0]; exact hvg)
      exact ⟨hm, by omega⟩
end Go.Proofs.Ytjidbonhhpkljaa.Ec

/- The contract of the book's ownColumns: a list is written full of its mark, three more are put behind it, and all four stand in the book. -/
set_option linter.unusedVariables false
namespace Go.Proofs.Ytjidbonhhpkljaa.Ec
open Go.RowKit Go.Proofs.Ytjidbonhhpkljaa.Pk Go.Proofs.Ytjidbonhhpkljaa.Pm
theorem CkInv.cells {w : World} {base B : Nat} {iv : Value} {es : List (Value × Int)} (h : CkInv w base B iv es) : w.cell? ⟨B, 3, none⟩ = some iv ∧ w.frozen? ⟨B, 3, none⟩ = false := by
  have := h.blk
  exact ⟨by simp [World.cell?, this], by simp [World.frozen?, this]⟩

theorem CkInv.cells1 {w w1 : World} {base B : Nat} {iv : Value} {es : List (Value × Int)} (o : Obj) (h : CkInv w base B iv es) (hg : (w.alloc o).grownBy w1 iv.ownBlock) : w1.cell? ⟨B, 3, none⟩ = some iv ∧ w1.frozen? ⟨B, 3, none⟩ = false := by
  have hb : w1.heap[B]? = some (.cells #[.slice none 0 0, .slice none 0 0, .slice none 0 0, iv] 70 (0, 0)) := by
    rw [hg.block B (by have := lt_of_block h.blk; simp; omega) (fun hr => ?_), (World.grownBy_alloc w o none).block B (lt_of_block h.blk) (by simp)]
    · exact h.blk
    · obtain ⟨cur, hc⟩ := owns_blk h.own hr.symm
      exact blk_ne h.blk hc (by decide) rfl
  exact ⟨by simp [World.cell?, hb], by simp [World.frozen?, hb]⟩

theorem set2_grown (w : World) (g j : Nat) (a b : Value) : w.grownBy ((w.setCell ⟨g, j * 2, none⟩ a).setCell ⟨g, j * 2 + 1, none⟩ b) (some g) :=
  (set_grown w g _ a).trans (set_grown _ g _ b)

/-- What the statement's lists have kept of others. -/
def KeepCols (v : Value) (w w' : World) : Prop := ∀ (g : Nat) (cur : Array Value), w.heap[g]? = some (.cells cur 104 (0, 0)) → v.ownBlock ≠ some g → w'.heap[g]? = some (.cells cur 104 (0, 0))

theorem KeepCols.step {v : Value} {w wr w1 : World} {row : Option Nat} (h : KeepCols v w wr) (hg : wr.grownBy w1 row)
    (hne : ∀ (g : Nat) (cur : Array Value), row = some g → wr.heap[g]? = some (.cells cur 104 (0, 0)) → v.ownBlock = some g ∨ w.heap.size ≤ g) : KeepCols v w w1 := by
  intro g cur hb hv
  have h1 := h g cur hb hv
  rw [hg.block g (lt_of_block h1) (fun hr => ?_)]
  · exact h1
  · rcases hne g cur hr.symm h1 with h2 | h2
    · exact hv h2
    · have := lt_of_block hb
      omega

theorem KeepCols.push {v : Value} {w wr w1 : World} {base B : Nat} {iv : Value} {es : List (Value × Int)} {o : Obj} (h : KeepCols v w wr) (hI : CkInv wr base B iv es) (hg : (wr.alloc o).grownBy w1 iv.ownBlock) (u : Value) :
    KeepCols v w (w1.setCell ⟨B, 3, none⟩ u) := by
  have ha := h.step (World.grownBy_alloc wr o none) (fun g _ hg _ => by cases hg)
  have hIa := hI.other (World.grownBy_alloc wr o none) (fun g hg => by cases hg)
  intro g cur hb hv
  have h1 := ha g cur hb hv
  rw [heap_setCell_other w1 ⟨B, 3, none⟩ g u (fun hr => ?_), hg.block g (lt_of_block h1) (fun hr => ?_)]
  · exact h1
  · obtain ⟨c2, h2⟩ := owns_blk hIa.own hr.symm
    exact blk_ne h1 h2 (by decide) rfl
  · exact blk_ne h1 hIa.blk (by decide) hr

theorem cfill_step (l : List Col) (x : Col) (t : Nat) (h : t < l.length) : (List.replicate t x ++ l.drop t).set t x = List.replicate (t + 1) x ++ l.drop (t + 1) := by
  rw [List.set_append_right _ _ (by simp), List.length_replicate, Nat.sub_self, List.drop_eq_getElem_cons h, List.set_cons_zero, List.replicate_succ' (n := t)]
  simp
theorem cfill_snoc (n : Nat) (x : Col) : ccells (List.replicate n x) ++ [.string x.name, .int .i64 x.kind] = ccells (List.replicate (n + 1) x) := by rw [List.replicate_succ', ccells_append]; rfl

/-- A store into the list. -/
theorem CkInv.store {w : World} {base B : Nat} {iv : Value} {es : List (Value × Int)} {g n cap : Nat} {l : List Col} (h : CkInv w base B iv es) (hown : w.ownsRow base 104 2 (.slice (some ⟨g, 0, none⟩) n cap) n (ccells l))
    (hsh : ∀ e ∈ es, ∀ g' n' cap', e.1 = .slice (some ⟨g', 0, none⟩) n' cap' → 0 < n' → g ≠ g') (j : Nat) (x : Col) (hj : j < l.length) :
    CkInv ((w.setCell ⟨g, j * 2, none⟩ (.string x.name)).setCell ⟨g, j * 2 + 1, none⟩ (.int .i64 x.kind)) base B iv es ∧
      ((w.setCell ⟨g, j * 2, none⟩ (.string x.name)).setCell ⟨g, j * 2 + 1, none⟩ (.int .i64 x.kind)).ownsRow base 104 2 (.slice (some ⟨g, 0, none⟩) n cap) n (ccells (l.set j x)) := by
  refine ⟨h.other (set2_grown w g j _ _) ?_, ?_⟩
  · intro g' hg'
    simp at hg'
    subst hg'
    refine ⟨owns_blk hown rfl, ?_⟩
    intro e he ao n' cap' h1 h0 hob
    rw [h1] at hob
    cases ao with
    | none => simp [Value.ownBlock] at hob
    | some a =>
      obtain ⟨ao2, n2, cap2, h2, _, hf⟩ := h.full e he
      rw [h1] at h2
      simp only [Value.slice.injEq] at h2
      obtain ⟨rfl, rfl, rfl⟩ := h2
      obtain ⟨g2, cur, hg2, _⟩ := hf h0
      simp only [Option.some.injEq] at hg2
      subst hg2
      simp [Value.ownBlock] at hob
      exact hsh e he g2 n' cap' h1 h0 hob.symm
  · rw [← ccells_set l j x hj]
    exact (((hown.stored (j * 2) (.string x.name)).1).stored (j * 2 + 1) (.int .i64 x.kind)).1

theorem box2_cells {w : World} {g : Nat} {a b : Value} {t : TypeId} (h : w.heap[g]? = some (.cells #[a, b] t (0, 0))) :
    w.cell? ⟨g, 0, none⟩ = some a ∧ w.cell? ⟨g, 1, none⟩ = some b ∧ ∀ j, w.frozen? ⟨g, j, none⟩ = false :=
  ⟨by simp [World.cell?, h], by simp [World.cell?, h], fun j => by simp [World.frozen?, h]⟩
theorem two_one (x : Col) : ∀ v ∈ [Value.string x.name, .int .i64 x.kind], v.oneCell' = true := by
  intro v hv
  simp at hv
  rcases hv with rfl | rfl <;> rfl

set_option maxRecDepth 100000 in
set_option maxHeartbeats 2000000 in
theorem ownColumns_any (B base : Nat) (v iv : Value) (l : List Col) (es : List (Value × Int)) (w : World) (hl : l.length ≤ 100) (hk : es.length ≤ 10) (h : CkInv w base B iv es)
    (hown : w.ownsRow base 104 2 v l.length (ccells l)) (hB : base ≤ B) (hsh : ∀ e ∈ es, ∀ g' n' cap', e.1 = .slice (some ⟨g', 0, none⟩) n' cap' → 0 < n' → v.ownBlock ≠ some g') :
    Calls Try.prog 32 #[.pointer (some ⟨B, 0, none⟩), v] w fun e w' => e = .returned (.tuple #[]) ∧ ∃ iv' es', es'.length = 4 ∧ CkInv w' base B iv' (es ++ es') ∧ (∀ e ∈ es', e.2 = (es.length : Int)) ∧
      (∀ e ∈ es', ∀ g, e.1.ownBlock = some g → v.ownBlock = some g ∨ w.heap.size ≤ g) ∧ KeepCols v w w' ∧ Below base w w' := by
  obtain ⟨j0, hj, hy0, hy1, hy2⟩ := info_parts Try.info104
  obtain ⟨i1, hi, hz0, hz1, hz2⟩ := info_parts Try.infoCOut
  have hbs : base ≤ w.heap.size := by have := lt_of_block h.blk; omega
  obtain ⟨ao, cap, rfl⟩ := owns_slice hown
  obtain ⟨io, icap, rfl⟩ := owns_slice h.own
  obtain ⟨cB, fB⟩ := h.cells
  have HI : Hid (CkInv w base B (.slice io es.length icap) es) := h
  have HSH : Hid _ := hsh
  clear h hsh
  obtain ⟨mk, hmk⟩ : ∃ mk, mk = mkC (es.length : Int) := ⟨_, rfl⟩
  have hm0 : mk.name = ⟨#[]⟩ := by rw [hmk]; rfl
  have hm1 : mk.kind = -1 - (es.length : Int) := by rw [hmk]; rfl
  have HMKE : Hid (mk = mkC (es.length : Int)) := hmk
  have hIA := HI.out.other (World.grownBy_alloc w (.cells #[.string mk.name, .int .i64 mk.kind] 104) none) (fun g hg => by cases hg)
  have hOA := hown.alloc (.cells #[.string mk.name, .int .i64 mk.kind] 104)
  have hKA : KeepCols (.slice ao l.length cap) w (w.alloc (.cells #[.string mk.name, .int .i64 mk.kind] 104)) := by
    intro g cur hg _
    rw [Below.heap_alloc _ _ g (lt_of_block hg)]; exact hg
  have hBA : Below base w (w.alloc (.cells #[.string mk.name, .int .i64 mk.kind] 104)) := (Below.refl _ _).alloc hbs _
  have hXA : (w.alloc (.cells #[.string mk.name, .int .i64 mk.kind] 104)).heap[w.heap.size]? = some (.cells #[.string mk.name, .int .i64 mk.kind] 104 (0, 0)) := heap_alloc_new w _
  have hSA : w.heap.size + 1 ≤ (w.alloc (.cells #[.string mk.name, .int .i64 mk.kind] 104)).heap.size := by simp
  rw [hm0, hm1] at hIA hOA hKA hBA hXA hSA
  have HIA : Hid _ := hIA
  have HOA : Hid _ := hOA
  have HKA : Hid _ := hKA
  have HBA : Hid _ := hBA
  have HXA : Hid _ := hXA
  have hgnb : ∀ g, (Value.slice ao l.length cap).ownBlock = some g → g ≠ w.heap.size := fun g hg => by have := (hown.lt g hg).2; omega
  have HGNB : Hid (∀ g, (Value.slice ao l.length cap).ownBlock = some g → g ≠ w.heap.size) := hgnb
  clear hIA hOA hKA hBA hXA hmk hgnb
  go_enter Try.func32, Try.ntmps32
  go_wp2_with fail
  clear cB fB
  have hSAA : Hid (w.heap.size + 1 ≤ (w.alloc (.cells #[.string ⟨#[]⟩, .int .i64 (-1 - (es.length : Int))] 104)).heap.size) := hSA
  clear hSA
  generalize w.alloc (.cells #[.string ⟨#[]⟩, .int .i64 (-1 - (es.length : Int))] 104) = WA at *
  go_loopw [6] (fun i wr => ∃ t : Nat, t ≤ l.length ∧ i = .int .i64 t ∧ wr.ownsRow base 104 2 (.slice ao l.length cap) l.length (ccells (List.replicate t mk ++ l.drop t)) ∧ CkInv wr base B (.slice io es.length icap) es ∧ KeepCols (.slice ao l.length cap) w wr ∧ Below base w wr ∧ wr.heap[w.heap.size]? = some (.cells #[.string ⟨#[]⟩, .int .i64 (-1 - (es.length : Int))] 104 (0, 0)) ∧ w.heap.size + 1 ≤ wr.heap.size) (fun i _ => l.length - (intOf i).toNat)
  case atStart => exact ⟨0, Nat.zero_le _, rfl, by simp only [List.replicate_zero, List.nil_append, List.drop_zero]; exact HOA.out, HIA.out, HKA.out, HBA.out, HXA.out, hSAA.out⟩
  case round =>
    clear HI hown HOA HIA HKA HBA HXA hSAA
    obtain ⟨t, ht, rfl, hown, hI, hkp, hbel, hbx, hsz⟩ := hrel
    have HK : Hid (KeepCols (.slice ao l.length cap) w wr) := hkp
    have HI : Hid (CkInv wr base B (.slice io es.length icap) es) := hI
    have HBX : Hid (wr.heap[w.heap.size]? = some (.cells #[.string ⟨#[]⟩, .int .i64 (-1 - (es.length : Int))] 104 (0, 0))) := hbx
    obtain ⟨x0, x1, _⟩ := box2_cells hbx
    clear hkp hI hbx
    by_cases hlt : t < l.length
    · obtain ⟨g, hge⟩ := owns_addr hown (by omega)
      subst hge
      have hLl : (List.replicate t mk ++ l.drop t).length = l.length := by simp; omega
      obtain ⟨v0, v1⟩ := ccells_at (List.replicate t mk ++ l.drop t) t (by rw [hLl]; exact hlt)
      have hc0 := hown.cellAt (t * 2) (by omega)
      have hc1 := hown.cellAt (t * 2 + 1) (by omega)
      rw [v0] at hc0
      rw [v1] at hc1
      obtain ⟨u0, hd0⟩ : ∃ u, wr.cell? ⟨g, t * 2, none⟩ = some u := ⟨_, hc0⟩
      obtain ⟨u1, hd1⟩ : ∃ u, wr.cell? ⟨g, t * 2 + 1, none⟩ = some u := ⟨_, hc1⟩
      clear hc0 hc1
      have hf0 := hown.frozenAt (t * 2)
      have hf1 := hown.frozenAt (t * 2 + 1)
      obtain ⟨s1, s2⟩ := HI.out.store hown (fun e he g' n' cap' h1 h0 hg => HSH.out e he g' n' cap' h1 h0 (by rw [← hg]; rfl)) t mk (by rw [hLl]; exact hlt)
      rw [cfill_step l _ t hlt] at s2
      have hk1 := HK.out.step (set2_grown wr g t (.string mk.name) (.int .i64 mk.kind)) (fun g' _ hg' _ => .inl (by simp at hg'; subst hg'; rfl))
      have hgb : g ≠ w.heap.size := HGNB.out g rfl
      have hbx1 : ((wr.setCell ⟨g, t * 2, none⟩ (.string mk.name)).setCell ⟨g, t * 2 + 1, none⟩ (.int .i64 mk.kind)).heap[w.heap.size]? = some (.cells #[.string ⟨#[]⟩, .int .i64 (-1 - (es.length : Int))] 104 (0, 0)) := by
        rw [(set2_grown wr g t (.string mk.name) (.int .i64 mk.kind)).block w.heap.size (by omega) (fun e => hgb (by cases e; rfl))]
        exact HBX.out
      have hbg : base ≤ g := (hown.lt g rfl).1
      have hbl1 : Below base w ((wr.setCell ⟨g, t * 2, none⟩ (.string mk.name)).setCell ⟨g, t * 2 + 1, none⟩ (.int .i64 mk.kind)) := (hbel.setCell hbg _).setCell hbg _
      rw [hm0, hm1] at s1 s2 hk1 hbx1 hbl1
      have HS1 : Hid _ := s1
      have HS2 : Hid _ := s2
      have HK1 : Hid _ := hk1
      have HBX1 : Hid _ := hbx1
      have HBL1 : Hid _ := hbl1
      clear s1 s2 hown hk1 hbx1 hbl1 v0 v1 hLl
      go_wp2
      go_roundw
      case rel => exact ⟨t + 1, by omega, by go_num, HS2.out, HS1.out, HK1.out, HBL1.out, HBX1.out, by simpa using hsz⟩
      case measure => simp [intOf]; omega
    · have htl : t = l.length := by omega
      subst htl
      rw [List.drop_of_length_le (Nat.le_refl _), List.append_nil] at hown
      obtain ⟨cB, fB⟩ := HI.out.cells
      rw [HMKE.out] at hown
      go_wp2_with (at_builtin; refine wpList_append_own _ rfl _ _ 68 rfl base 119 i1 (.agg #[.slice none 0 0, .int .i64 0]) 2 32 Try.underlying68 hi hz0 hz1 hz2 rfl (by decide) _ _ _ rfl (HI.out.own.alloc _) ⟨wr.heap.size, 0, none⟩ 1 1 [.slice ao l.length cap, .int .i64 (es.length : Int)] rfl rfl (pair_at _ _ _ _) (pair_one _ _ _ _) (by unfold maxLen; omega) (by omega) (by simp; omega) ?_; intro iv1 w1 hown1 hgrow1 _; obtain ⟨cB1, fB1⟩ := HI.out.cells1 _ hgrow1; obtain ⟨io1, icap1, rfl⟩ := owns_slice hown1)
      obtain ⟨p1, p2⟩ := HI.out.push _ (CFull.mk hown (by omega)) hown hB hown1 hgrow1
      have hbel1 : Below base w (w1.setCell ⟨B, 3, none⟩ (.slice io1 (es.length + 1) icap1)) := ((hbel.alloc (by omega) _).grown hgrow1 (by simp; omega) (fun j hj => (HI.out.own.lt j hj).1)).setCell hB _
      have hsz1 : w.heap.size + 1 ≤ (w1.setCell ⟨B, 3, none⟩ (.slice io1 (es.length + 1) icap1)).heap.size := by have := hgrow1.size; simp at this ⊢; omega
      have HK1 : Hid _ := HK.out.push (o := .cells #[.slice ao l.length cap, .int .i64 (es.length : Int)] 119) HI.out hgrow1 (.slice io1 (es.length + 1) icap1)
      have HX1 : Hid ((w1.setCell ⟨B, 3, none⟩ (.slice io1 (es.length + 1) icap1)).heap[w.heap.size]? = some (.cells #[.string ⟨#[]⟩, .int .i64 (-1 - (es.length : Int))] 104 (0, 0))) := by
        show _ = _
        have hbo := HI.out.blk
        rw [heap_setCell_other w1 ⟨B, 3, none⟩ w.heap.size _ (fun e => blk_ne HBX.out hbo (by decide) e), hgrow1.block w.heap.size (by simp; omega) (fun e => by
          obtain ⟨cur, hc⟩ := owns_blk HI.out.own e.symm
          exact blk_ne HBX.out hc (by decide) rfl), Below.heap_alloc wr _ w.heap.size (by omega)]
        exact HBX.out
      have HP1 : Hid _ := p1
      have HP2 : Hid _ := p2
      clear p1 p2 hown1 hgrow1 hown HI HK hbel cB fB cB1 fB1 hsz HBX x0 x1
      go_loopw [1, 7] (fun lv i wr => ∃ (t n : Nat) (iv : Value) (es' : List (Value × Int)), t ≤ 3 ∧ i = .int .i64 t ∧ n ≤ 100 + t ∧ es'.length = t + 1 ∧ (∀ e ∈ es', e.2 = (es.length : Int)) ∧ CkInv wr base B iv (es ++ es') ∧ wr.ownsRow base 104 2 lv n (ccells (List.replicate n (mkC (es.length : Int)))) ∧
          CShares lv n (es.length : Int) (es ++ es') ∧ (∀ e ∈ es', ∀ g, e.1.ownBlock = some g → (Value.slice ao l.length cap).ownBlock = some g ∨ w.heap.size ≤ g) ∧ (∀ g, lv.ownBlock = some g → ((Value.slice ao l.length cap).ownBlock = some g ∨ w.heap.size ≤ g) ∧ g ≠ w.heap.size) ∧ KeepCols (.slice ao l.length cap) w wr ∧ Below base w wr ∧ wr.heap[w.heap.size]? = some (.cells #[.string ⟨#[]⟩, .int .i64 (-1 - (es.length : Int))] 104 (0, 0)) ∧ w.heap.size + 1 ≤ wr.heap.size) (fun _ i _ => 3 - (intOf i).toNat)
      case atStart =>
        refine ⟨0, l.length, _, [(.slice ao l.length cap, (es.length : Int))], by omega, rfl, by omega, rfl, by simp, HP1.out, HP2.out, ?_, ?_, fun g hg => ⟨.inl hg, HGNB.out g hg⟩, HK1.out, hbel1, HX1.out, hsz1⟩
        · intro e he g n' cap' h1 h0 hvg
          rcases List.mem_append.1 he with h2 | h2
          · exact absurd hvg (HSH.out e h2 g n' cap' h1 h0)
          · simp at h2
            subst h2
            simp only [Value.slice.injEq] at h1
            exact ⟨rfl, by omega⟩
        · intro e he g hg
          simp at he
          subst he
          exact .inl hg
      case round =>
        clear HP1 HP2 hbel1 hsz1 HK1 HX1
        clear w1
        obtain ⟨t, n, iv, es', ht, rfl, hn, hel, hmk, hI, hown, hshr, hblk, hlvb, hkp, hbel, hbx, hsz⟩ := hrel
        have HK : Hid (KeepCols (.slice ao l.length cap) w wr) := hkp
        have HBX : Hid (wr.heap[w.heap.size]? = some (.cells #[.string ⟨#[]⟩, .int .i64 (-1 - (es.length : Int))] 104 (0, 0))) := hbx
        obtain ⟨x0, x1, _⟩ := box2_cells hbx
        clear hkp hbx
        have HI : Hid (CkInv wr base B iv (es ++ es')) := hI
        have HEL : Hid (es'.length = t + 1) := hel
        have HMK : Hid (∀ e ∈ es', e.2 = (es.length : Int)) := hmk
        clear hI hel hmk
        have hne : (es ++ es').length ≤ 14 := by rw [List.length_append, HEL.out]; omega
        generalize hfs : es ++ es' = fs at *
        have HFS : Hid (es ++ es' = fs) := hfs
        clear hfs
        obtain ⟨io, icap, rfl⟩ := owns_slice HI.out.own
        by_cases h3 : t < 3
        · obtain ⟨lo, lcap, rfl⟩ := owns_slice hown
          go_wp2_with (first
            | (at_builtin; refine wpList_append_keep _ rfl (.tmp 42) (.tmp 44) 49 rfl base 104 j0 _ 2 24 Try.underlying49 hj hy0 hy1 hy2 rfl (by decide) _ n _ rfl (hown.alloc _) ⟨wr.heap.size, 0, none⟩ 1 1 [.string ⟨#[]⟩, .int .i64 (-1 - (es.length : Int))] rfl (by decide) rfl (pair_at _ _ _ _) (two_one (mkC (es.length : Int))) (by unfold maxLen; omega) (by omega) (by simp; omega) ?_; intro lv1 w1 hown1 hgr1; rw [show [Value.string ⟨#[]⟩, .int .i64 (-1 - (es.length : Int))] = [.string (mkC (es.length : Int)).name, .int .i64 (mkC (es.length : Int)).kind] from rfl, cfill_snoc] at hown1 hgr1; obtain ⟨hI1, hshr1⟩ := HI.out.grow _ hshr hown hown1 hgr1; have HI1 : Hid _ := hI1; obtain ⟨cB, fB⟩ := hI1.cells; obtain ⟨lo1, lcap1, rfl⟩ := owns_slice hown1; clear hI1)
            | (at_builtin; refine wpList_append_own _ rfl (.tmp 50) (.tmp 54) 68 rfl base 119 i1 (.agg #[.slice none 0 0, .int .i64 0]) 2 32 Try.underlying68 hi hz0 hz1 hz2 rfl (by decide) _ _ _ rfl (HI1.out.own.alloc _) ⟨w1.heap.size, 0, none⟩ 1 1 [.slice lo1 (n + 1) lcap1, .int .i64 (es.length : Int)] rfl rfl (pair_at _ _ _ _) (pair_one _ _ _ _) (by unfold maxLen; omega) (by omega) (by have := lt_of_block HI1.out.blk; simp; omega) ?_; intro iv2 w2 hown2 hgrow2 _; obtain ⟨cB2, fB2⟩ := HI1.out.cells1 _ hgrow2; obtain ⟨io2, icap2, rfl⟩ := owns_slice hown2))
          obtain ⟨q1, q2⟩ := HI1.out.push _ (CFull.mk hown1 (by omega)) hown1 hB hown2 hgrow2
          have hw1 : Below base w w1 ∧ wr.heap.size ≤ w1.heap.size := by
            rcases hgr1 with ⟨g1, _⟩ | ⟨_, g1⟩
            · exact ⟨(hbel.alloc (by omega) _).grown g1 (by simp; omega) (by simp), by have := g1.size; simp at this; omega⟩
            · exact ⟨(hbel.alloc (by omega) _).grown g1 (by simp; omega) (fun j hj => (hown.lt j hj).1), by have := g1.size; simp at this; omega⟩
          have hw2 : Below base w w2 := (hw1.1.alloc (by omega) _).grown hgrow2 (by simp; omega) (fun j hj => (HI1.out.own.lt j hj).1)
          have hs2 : w1.heap.size ≤ w2.heap.size := by have := hgrow2.size; simp at this; omega
          have hlv1 : ∀ g, (Value.slice lo1 (n + 1) lcap1).ownBlock = some g → ((Value.slice ao l.length cap).ownBlock = some g ∨ w.heap.size ≤ g) ∧ g ≠ w.heap.size := by
            intro g hg
            rcases hgr1 with ⟨_, g2⟩ | ⟨g1, _⟩
            · have := (g2.lt g hg).1
              simp at this
              exact ⟨.inr (by omega), by omega⟩
            · exact hlvb g (Eq.trans (Eq.symm g1) hg)
          have hx1 : w1.heap[w.heap.size]? = some (.cells #[.string ⟨#[]⟩, .int .i64 (-1 - (es.length : Int))] 104 (0, 0)) := by
            rcases hgr1 with ⟨g1, _⟩ | ⟨_, g1⟩
            · rw [g1.block w.heap.size (by simp; omega) (by simp), Below.heap_alloc wr _ w.heap.size (by omega)]; exact HBX.out
            · rw [g1.block w.heap.size (by simp; omega) (fun e => (hlvb _ e.symm).2 rfl), Below.heap_alloc wr _ w.heap.size (by omega)]; exact HBX.out
          have hx2 : (w2.setCell ⟨B, 3, none⟩ (.slice io2 (fs.length + 1) icap2)).heap[w.heap.size]? = some (.cells #[.string ⟨#[]⟩, .int .i64 (-1 - (es.length : Int))] 104 (0, 0)) := by
            have hbo := HI1.out.blk
            rw [heap_setCell_other w2 ⟨B, 3, none⟩ w.heap.size _ (fun e => blk_ne hx1 hbo (by decide) e), hgrow2.block w.heap.size (by simp; omega) (fun e => by
              obtain ⟨cur, hc⟩ := owns_blk HI1.out.own e.symm
              exact blk_ne hx1 hc (by decide) rfl), Below.heap_alloc w1 _ w.heap.size (by omega)]
            exact hx1
          have hk1 : KeepCols (.slice ao l.length cap) w w1 := by
            have hka := HK.out.step (World.grownBy_alloc wr (.cells #[.string ⟨#[]⟩, .int .i64 (-1 - (es.length : Int))] 104) none) (fun g _ hg _ => by cases hg)
            rcases hgr1 with ⟨g1, _⟩ | ⟨_, g1⟩
            · exact hka.step g1 (fun g _ hg _ => by cases hg)
            · exact hka.step g1 (fun g _ hg _ => (hlvb g hg).1)
          have hk2 := hk1.push (o := .cells #[.slice lo1 (n + 1) lcap1, .int .i64 (es.length : Int)] 119) HI1.out hgrow2 (.slice io2 (fs.length + 1) icap2)
          refine ⟨⟨t + 1, n + 1, _, es' ++ [(.slice lo1 (n + 1) lcap1, (es.length : Int))], by omega, by go_num, by omega, by rw [List.length_append, HEL.out]; rfl, marks_snoc HMK.out, by rw [← List.append_assoc, HFS.out]; exact q1, q2, ?_, ?_, hlv1, hk2, hw2.setCell hB _, hx2, by simp; omega⟩, by simp [intOf]; omega⟩
          · rw [← List.append_assoc, HFS.out]
            intro e he g n' cap' h1 h0 hvg
            rcases List.mem_append.1 he with h2 | h2
            · exact hshr1 e h2 g n' cap' h1 h0 hvg
            · simp at h2
              subst h2
              simp only [Value.slice.injEq] at h1
              exact ⟨rfl, by omega⟩
          · intro e he g hg
            rcases List.mem_append.1 he with h2 | h2
            · exact hblk e h2 g hg
            · simp at h2
              subst h2
              exact (hlv1 g hg).1
        · go_wp2
          go_end0
          exact ⟨rfl, _, es', by rw [HEL.out]; omega, by rw [HFS.out]; exact HI.out, HMK.out, hblk, HK.out, hbel⟩
end Go.Proofs.Ytjidbonhhpkljaa.Ec

/- The contract of the book's looks: where only lists of columns stand in it, and each reads as its mark says, it answers true. -/
set_option linter.unusedVariables false
namespace Go.Proofs.Ytjidbonhhpkljaa.Ec
open Go.RowKit Go.Proofs.Ytjidbonhhpkljaa.Pk Go.Proofs.Ytjidbonhhpkljaa.Pm
theorem cbook_cells {w : World} {base B : Nat} {iv : Value} {es : List (Value × Int)} (h : CkInv w base B iv es) :
    w.cell? ⟨B, 0, none⟩ = some (.slice none 0 0) ∧ w.cell? ⟨B, 1, none⟩ = some (.slice none 0 0) ∧ w.cell? ⟨B, 2, none⟩ = some (.slice none 0 0) ∧ w.cell? ⟨B, 3, none⟩ = some iv := by
  have := h.blk
  exact ⟨by simp [World.cell?, this], by simp [World.cell?, this], by simp [World.cell?, this], by simp [World.cell?, this]⟩

theorem cneq_mark (w : World) (m : Int) : (binOp .neq 104 (.agg #[.string ⟨#[]⟩, .int .i64 (-1 - m)]) (.agg #[.string ⟨#[]⟩, .int .i64 (-1 - m)])).run Try.prog w = .ok (.bool false) w := by
  have := run_neq_col w (mkC m) (mkC m)
  rw [ceq_iff.2 rfl] at this
  exact this

set_option maxRecDepth 100000 in
set_option maxHeartbeats 4000000 in
theorem clooks_any (B base : Nat) (iv : Value) (es : List (Value × Int)) (w : World) (hk : es.length ≤ 100) (h : CkInv w base B iv es) (hmk : ∀ e ∈ es, 0 ≤ e.2 ∧ e.2 ≤ 100) :
    Calls Try.prog 33 #[.pointer (some ⟨B, 0, none⟩)] w fun e w' => e = .returned (.bool true) ∧ Below w.heap.size w w' := by
  obtain ⟨io, icap, rfl⟩ := owns_slice h.own
  obtain ⟨c0, c1, c2, c3⟩ := cbook_cells h
  have HBL : Hid (B < w.heap.size) := lt_of_block h.blk
  have HI : Hid (CkInv w base B (.slice io es.length icap) es) := h
  have HMK : Hid (∀ e ∈ es, 0 ≤ e.2 ∧ e.2 ≤ 100) := hmk
  clear h hmk
  go_enter Try.func33, Try.ntmps33
  go_wp2_with fail
  refine wp_loop_rounds 1 ?_
  rw [rounds_succ]
  go_wp2_with fail
  refine wp_loop_rounds 1 ?_
  rw [rounds_succ]
  go_wp2_with fail
  refine wp_loop_rounds 1 ?_
  rw [rounds_succ]
  go_wp2_with fail
  have C0 : Hid _ := c0
  have C1 : Hid _ := c1
  have C2 : Hid _ := c2
  have C3 : Hid _ := c3
  clear c0 c1 c2 c3
  go_loopw [11] (fun i wr => ∃ t : Nat, t ≤ es.length ∧ i = .int .i64 t ∧ Below w.heap.size w wr) (fun i _ => es.length - (intOf i).toNat)
  case atStart => exact ⟨0, Nat.zero_le _, rfl, Below.refl _ _⟩
  case round =>
    obtain ⟨t, ht, rfl, hb⟩ := hrel
    have hbl := HBL.out
    have d1 : wr.cell? ⟨B, 3, none⟩ = some (.slice io es.length icap) := (hb.cell (p := ⟨B, 3, none⟩) hbl).trans C3.out
    have HB : Hid (Below w.heap.size w wr) := hb
    have hsz := hb.size
    clear hb
    by_cases hlt : t < es.length
    · obtain ⟨gi, hgi⟩ := owns_addr HI.out.own (by omega)
      subst hgi
      have hgl : gi < w.heap.size := (HI.out.own.lt gi rfl).2
      have hx := ecells_get es t hlt
      have e0 := HI.out.own.cellAt (t * 2) (by omega)
      rw [show t * 2 = 2 * t by omega, hx.1] at e0
      have e1 := HI.out.own.cellAt (t * 2 + 1) (by omega)
      rw [show t * 2 + 1 = 2 * t + 1 by omega, hx.2] at e1
      obtain ⟨ao, n', cap', hv, hn', hf⟩ := HI.out.full es[t] (List.getElem_mem hlt)
      obtain ⟨m0, m1⟩ := HMK.out es[t] (List.getElem_mem hlt)
      rw [hv] at e0
      have HF : Hid (0 < n' → ∃ g cur, ao = some ⟨g, 0, none⟩ ∧ w.heap[g]? = some (.cells cur 104 (0, 0)) ∧ ∀ j, j < n' → cur[j * 2]? = some (.string ⟨#[]⟩) ∧ cur[j * 2 + 1]? = some (.int .i64 (-1 - es[t].2))) := hf
      clear hf hv hx
      generalize es[t].2 = m at *
      have E0 : wr.cell? ⟨gi, t * 2, none⟩ = some (.slice ao n' cap') := (HB.out.cell (p := ⟨gi, t * 2, none⟩) hgl).trans (by rw [show t * 2 = 2 * t by omega]; exact e0)
      have E1 : wr.cell? ⟨gi, t * 2 + 1, none⟩ = some (.int .i64 m) := (HB.out.cell (p := ⟨gi, t * 2 + 1, none⟩) hgl).trans (by rw [show t * 2 + 1 = 2 * t + 1 by omega]; exact e1)
      have HE0 : Hid (w.cell? ⟨gi, t * 2, none⟩ = some (.slice ao n' cap')) := by show _ = _; rw [show t * 2 = 2 * t by omega]; exact e0
      have hqn := fun w => cneq_mark w m
      clear e0 e1
      go_wp2_with fail
      clear E0 E1 d1
      have hbx := heap_alloc_new wr (.cells #[.string ⟨#[]⟩, .int .i64 (-1 - m)] 104 (0, 0))
      have HB1 : Hid (Below w.heap.size w (wr.alloc (.cells #[.string ⟨#[]⟩, .int .i64 (-1 - m)] 104))) := HB.out.alloc hsz _
      have HBX : Hid _ := hbx
      clear hbx
      generalize hgW : wr.heap.size = gW at *
      generalize wr.alloc (.cells #[.string ⟨#[]⟩, .int .i64 (-1 - m)] 104) = w1 at *
      go_loopw [13] (fun i wq => ∃ u : Nat, u ≤ n' ∧ i = .int .i64 u ∧ ∃ n, wq = w1.drewN n) (fun i _ => n' - (intOf i).toNat)
      case atStart => exact ⟨0, Nat.zero_le _, rfl, 0, rfl⟩
      case round =>
        obtain ⟨u, hu, rfl, n, hwr⟩ := hrel
        rename World => wq
        have d1 : wq.cell? ⟨B, 3, none⟩ = some (.slice (some ⟨gi, 0, none⟩) es.length icap) := by rw [hwr]; exact (HB1.out.cell (p := ⟨B, 3, none⟩) hbl).trans C3.out
        have E0 : wq.cell? ⟨gi, t * 2, none⟩ = some (.slice ao n' cap') := by rw [hwr]; exact (HB1.out.cell (p := ⟨gi, t * 2, none⟩) hgl).trans HE0.out
        have hbq : wq.heap[gW]? = some (.cells #[.string ⟨#[]⟩, .int .i64 (-1 - m)] 104 (0, 0)) := by rw [hwr]; exact HBX.out
        obtain ⟨x0, x1, _⟩ := box2_cells hbq
        have HW : Hid (wq = w1.drewN n) := hwr
        clear hbq
        by_cases hul : u < n'
        · obtain ⟨g, cur, hgo, hb, hc⟩ := HF.out (by omega)
          subst hgo
          obtain ⟨v0, v1⟩ := hc u hul
          have hb1 : w1.heap[g]? = some (.cells cur 104 (0, 0)) := by rw [HB1.out.block g (lt_of_block hb)]; exact hb
          have E2 : wq.cell? ⟨g, u * 2, none⟩ = some (.string ⟨#[]⟩) := by
            rw [hwr, show (w1.drewN n).cell? ⟨g, u * 2, none⟩ = w1.cell? ⟨g, u * 2, none⟩ from rfl, cell_of_row w1 g (u * 2) cur 104 (0, 0) hb1]
            exact v0
          have E3 : wq.cell? ⟨g, u * 2 + 1, none⟩ = some (.int .i64 (-1 - m)) := by
            rw [hwr, show (w1.drewN n).cell? ⟨g, u * 2 + 1, none⟩ = w1.cell? ⟨g, u * 2 + 1, none⟩ from rfl, cell_of_row w1 g (u * 2 + 1) cur 104 (0, 0) hb1]
            exact v1
          clear hwr hb hc hb1 v0 v1
          go_wp2_with fail
          go_quiet (fail)
          go_wp2
          go_roundw
          case rel => exact ⟨u + 1, by omega, by go_num, n + nq, by rw [HW.out]; exact World.drewN_drewN _ _ _⟩
          case measure => simp [intOf]; omega
        · have HBQ : Hid (Below w.heap.size w wq) := by rw [hwr]; exact below_drewN HB1.out n
          clear hwr
          go_wp2
          go_roundw
          case rel => exact ⟨t + 1, by omega, by go_num, HBQ.out⟩
          case measure => simp [intOf]; omega
    · go_wp2
      go_ret
      exact ⟨rfl, HB.out⟩
end Go.Proofs.Ytjidbonhhpkljaa.Ec

/- A band of rows: the program's side. -/
set_option linter.unusedVariables false
namespace Go.Proofs.Ytjidbonhhpkljaa.Ec
open Go.RowKit Go.Proofs.Ytjidbonhhpkljaa.Pk Go.Proofs.Ytjidbonhhpkljaa.Pm
theorem Grew.lies {w w1 : World} {v : Value} {o : Obj} {g n cap : Nat} (hg : (w.alloc o).grownBy w1 v.ownBlock) (hat : v.ownBlock = some g ∨ g = (w.alloc o).heap.size) : Grew w w1 v (.slice (some ⟨g, 0, none⟩) n cap) := by
  refine ((Grew.refl w v).alloc o).trans ⟨hg, fun k hk => ?_⟩
  simp [Value.ownBlock] at hk
  subst hk
  rcases hat with h | h
  · exact .inl h
  · exact .inr (by omega)

theorem own_form {w : World} {base : Nat} {e : TypeId} {size : Nat} {v : Value} {n : Nat} {xs : List Value} (h : w.ownsRow base e size v n xs) : ∃ ao cap, v = .slice ao n cap := by
  rcases h.2 with ⟨rfl, rfl⟩ | ⟨g, cap, cur, rfl, -⟩
  · exact ⟨none, 0, rfl⟩
  · exact ⟨_, cap, rfl⟩
theorem own_at {w : World} {base : Nat} {e : TypeId} {size : Nat} {v : Value} {n : Nat} {xs : List Value} {g : Nat} (h : w.ownsRow base e size v n xs) (hg : v.ownBlock = some g) : ∃ cur, w.heap[g]? = some (.cells cur e (0, 0)) := by
  rcases h.2 with ⟨rfl, -⟩ | ⟨g', cap, cur, rfl, -, h3, -⟩
  · simp [Value.ownBlock] at hg
  · simp [Value.ownBlock] at hg
    subst hg
    exact ⟨cur, h3⟩
theorem own_far {w : World} {base : Nat} {e : TypeId} {size : Nat} {v : Value} {n : Nat} {xs : List Value} {g : Nat} {cs : Array Value} {t : TypeId} (h : w.ownsRow base e size v n xs) (hb : w.heap[g]? = some (.cells cs t (0, 0))) (hne : t ≠ e) : some g ≠ v.ownBlock := by
  intro hg
  obtain ⟨cur, hc⟩ := own_at h hg.symm
  rw [hb] at hc
  simp at hc
  exact hne hc.2
theorem apart_of {w : World} {base base2 : Nat} {e e2 : TypeId} {size size2 : Nat} {v v2 : Value} {n n2 : Nat} {xs xs2 : List Value} (h : w.ownsRow base e size v n xs) (h2 : w.ownsRow base2 e2 size2 v2 n2 xs2) (hne : e ≠ e2) : Apart v v2 := by
  cases hv : v.ownBlock with
  | none => exact .inl hv
  | some g =>
    right
    rw [hv]
    obtain ⟨cur, hc⟩ := own_at h hv
    exact own_far h2 hc hne

/-- Where bandOf stands. -/
structure BdSt (w W : World) (bd : Int) (ev : Value) (bo : Bool) (n : Nat) (kv : Value) (l : List Chk) : Prop where
  opt : W.heap[w.heap.size]? = some (.cells #[.int .i64 bd, ev, .bool bo] 54 (0, 0))
  res : W.heap[w.heap.size + 1]? = some (.cells #[.int .i64 0, .slice none 0 0] 152 (0, 0))
  box : W.heap[w.heap.size + 2]? = some (.cells #[.int .i64 (n : Int), kv] 152 (0, 0))
  own : W.ownsRow w.heap.size 156 8 kv l.length (kcells l)
  bel : Below w.heap.size w W
theorem BdSt.below {w W W1 : World} {bd : Int} {ev : Value} {bo : Bool} {n : Nat} {kv : Value} {l : List Chk} (h : BdSt w W bd ev bo n kv l) (hb : Below W.heap.size W W1) : BdSt w W1 bd ev bo n kv l :=
  ⟨(hb.block _ (lt_of_block h.opt)).trans h.opt, (hb.block _ (lt_of_block h.res)).trans h.res, (hb.block _ (lt_of_block h.box)).trans h.box, ownsRow_below h.own hb, h.bel.trans (hb.mono h.bel.size)⟩
theorem BdSt.grew {w W W1 : World} {bd : Int} {ev : Value} {bo : Bool} {n : Nat} {kv kv' : Value} {l l' : List Chk} (h : BdSt w W bd ev bo n kv l) (hg : Grew W W1 kv kv') (ho : W1.ownsRow w.heap.size 156 8 kv' l'.length (kcells l')) :
    BdSt w (W1.setCell ⟨w.heap.size + 2, 1, none⟩ kv') bd ev bo n kv' l' := by
  have h1 := (hg.by_.block _ (lt_of_block h.opt) (own_far h.own h.opt (by decide))).trans h.opt
  have h2 := (hg.by_.block _ (lt_of_block h.res) (own_far h.own h.res (by decide))).trans h.res
  have h3 := (hg.by_.block _ (lt_of_block h.box) (own_far h.own h.box (by decide))).trans h.box
  have h4 := heap_setCell_same W1 (w.heap.size + 2) 1 _ _ kv' h3
  have hbb := h.bel.trans (hg.below (fun g hg => (h.own.lt g hg).1) h.bel.size)
  refine ⟨?_, ?_, h4, ?_, ?_⟩
  · rw [heap_setCell_other _ _ _ _ (by simp)]; exact h1
  · rw [heap_setCell_other _ _ _ _ (by simp)]; exact h2
  · exact ho.kept (box_set_grown W1 _ 1 kv') (.inr (own_far ho h3 (by decide)).symm)
  · exact below_set hbb hbb.size (by omega) _ _
theorem BdSt.cells {w W : World} {bd : Int} {ev : Value} {bo : Bool} {n : Nat} {kv : Value} {l : List Chk} (h : BdSt w W bd ev bo n kv l) :
    W.cell? ⟨w.heap.size, 1, none⟩ = some ev ∧ W.cell? ⟨w.heap.size, 2, none⟩ = some (.bool bo) ∧ W.cell? ⟨w.heap.size + 2, 0, none⟩ = some (.int .i64 (n : Int)) ∧ W.cell? ⟨w.heap.size + 2, 1, none⟩ = some kv ∧ W.frozen? ⟨w.heap.size + 2, 1, none⟩ = false := by
  have h1 := h.opt
  have h2 := h.box
  exact ⟨by simp [World.cell?, h1], by simp [World.cell?, h1], by simp [World.cell?, h2], by simp [World.cell?, h2], by simp [World.frozen?, h2]⟩

theorem eight_at (w : World) (c : Chk) (t : TypeId) : ∀ (j : Nat) (u : Value), (kcell c)[j]? = some u → (w.alloc (.cells (kcell c).toArray t)).cell? ((⟨w.heap.size, 0, none⟩ : Addr).add j) = some u := by
  intro j u hj
  have hlt : j < 8 := by
    have := (List.getElem?_eq_some_iff.1 hj).1
    simpa [kcell] using this
  have : j = 0 ∨ j = 1 ∨ j = 2 ∨ j = 3 ∨ j = 4 ∨ j = 5 ∨ j = 6 ∨ j = 7 := by omega
  rcases this with rfl | rfl | rfl | rfl | rfl | rfl | rfl | rfl <;> (simp [kcell] at hj; subst hj; simp [Addr.add, kcell])
theorem eight_one (c : Chk) : ∀ u ∈ kcell c, u.oneCell' = true := by
  intro u hu
  simp [kcell] at hu
  rcases hu with rfl | rfl | rfl | rfl | rfl | rfl | rfl | rfl <;> rfl

theorem colVals_length (rows : List (List Val)) (pl : Nat) : (colVals rows pl).length = rows.length := by simp [colVals]

theorem Try.info156 : (Try.prog.info? 156).map (fun i => (i.zero, i.size, i.bytes)) = some (some (.agg #[.string ⟨#[]⟩, .bool false, .bool false, .int .i64 0, .string ⟨#[]⟩, .bool false, .int .i64 0, .string ⟨#[]⟩]), 8, 88) := by kernel_rfl

theorem BdSt.put {w W : World} {bd : Int} {ev : Value} {bo : Bool} {n : Nat} {kv : Value} {l : List Chk} (h : BdSt w W bd ev bo n kv l) {g : Nat} (hg : w.heap.size + 2 < g) (hne : kv.ownBlock ≠ some g) (o : Nat) (v : Value) :
    BdSt w (W.setCell ⟨g, o, none⟩ v) bd ev bo n kv l := by
  refine ⟨?_, ?_, ?_, h.own.kept (box_set_grown W g o v) (.inr hne), below_set h.bel h.bel.size (by omega) _ _⟩
  · rw [heap_setCell_other _ _ _ _ (by simp; omega)]; exact h.opt
  · rw [heap_setCell_other _ _ _ _ (by simp; omega)]; exact h.res
  · rw [heap_setCell_other _ _ _ _ (by simp; omega)]; exact h.box
/-- Bounds that are written into a box of a chunk leave the rest. -/
theorem BdSt.far {w W : World} {bd : Int} {ev : Value} {bo : Bool} {n : Nat} {kv : Value} {l : List Chk} (h : BdSt w W bd ev bo n kv l) {g : Nat} (hg : w.heap.size + 2 < g) (hne : kv.ownBlock ≠ some g) (b : Bnd) :
    BdSt w (((((((W.setCell ⟨g, 1, none⟩ (.bool b.there)).setCell ⟨g, 2, none⟩ (.bool b.least.null)).setCell ⟨g, 3, none⟩ (.int .i64 b.least.n)).setCell ⟨g, 4, none⟩ (.string b.least.s)).setCell ⟨g, 5, none⟩ (.bool b.most.null)).setCell ⟨g, 6, none⟩ (.int .i64 b.most.n)).setCell ⟨g, 7, none⟩ (.string b.most.s)) bd ev bo n kv l :=
  ((((((h.put hg hne _ _).put hg hne _ _).put hg hne _ _).put hg hne _ _).put hg hne _ _).put hg hne _ _).put hg hne _ _

theorem BdSt.kept {w W W1 : World} {bd : Int} {ev : Value} {bo : Bool} {n : Nat} {kv kv' : Value} {l : List Chk} (h : BdSt w W bd ev bo n kv l) (hg : Grew W W1 kv kv') :
    W1.cell? ⟨w.heap.size + 2, 1, none⟩ = some kv ∧ W1.frozen? ⟨w.heap.size + 2, 1, none⟩ = false := by
  have h3 := (hg.by_.block _ (lt_of_block h.box) (own_far h.own h.box (by decide))).trans h.box
  exact ⟨by simp [World.cell?, h3], by simp [World.frozen?, h3]⟩

theorem chkP_at {rows : List (List Val)} {cs : List Col} {es : List Int} {bo : Bool} {k : Nat} (h1 : k < cs.length) (h2 : k < es.length) :
    chkP rows cs es bo k = ⟨(encOf (colVals rows k) cs[k].kind (es.getD k 0)).1, if bo then boundsP (colVals rows k) else noBnd⟩ := by
  unfold chkP
  rw [List.getD_eq_getElem?_getD (l := cs), List.getElem?_eq_getElem h1]
  rfl

end Go.Proofs.Ytjidbonhhpkljaa.Ec

/- Regions that draw their order, in which a cell is read first and written at the end: what is held of the world is held until a certain operation has come up, which waits for the reading. -/
set_option linter.unusedVariables false
namespace Go.Proofs.Ytjidbonhhpkljaa.Un
open Go.RowKit
section
variable {P : Program} {ops : Array Oper} {Q : Exit → Act → World → Prop} {md : Region.Mode} {S : World → Prop} {u : Nat}
/-- Whatever order is picked; S holds behind whatever comes up ahead of number u. -/
def Any (P : Program) (md : Region.Mode) (ops : Array Oper) (Q : Exit → Act → World → Prop) (S : World → Prop) (u : Nat) : Nat → Array Bool → Act → World → Prop
  | 0, listed, a, w => Region.ready md ops listed = [] ∧ Q .normal a w
  | n + 1, listed, a, w => (Region.ready md ops listed = [] → Q .normal a w) ∧
      ∀ i ∈ Region.ready md ops listed, wpOp P ops Q i (fun a' w' => ((listed.setIfInBounds i true).getD u true = false → S w') ∧ Any P md ops Q S u n (listed.setIfInBounds i true) a' w') a w

theorem any_of : ∀ (n : Nat) (listed : Array Bool) (a : Act) (w : World), Any P md ops Q S u n listed a w → wpAny P md ops Q n listed a w
  | 0, _, _, _, h => h
  | n + 1, _, _, _, h => ⟨h.1, fun i hi => wpOp_mono (fun a' w' x => any_of n _ a' w' x.2) (h.2 i hi)⟩

/-- Number u waits for number i. -/
def waits (md : Region.Mode) (ops : Array Oper) (u i : Nat) : Bool :=
  match ops[u]? with
  | some o => o.after.any fun e => Region.binds md e && e.on == i
  | none => false

theorem not_ready {i : Nat} {listed : Array Bool} (hw : waits md ops u i = true) (hi : listed.getD i true = false) : u ∉ Region.ready md ops listed := by
  intro hu
  obtain ⟨-, o, ho, hall⟩ := mem_ready.1 hu
  unfold waits at hw
  rw [ho] at hw
  obtain ⟨e, he, hb⟩ := Array.any_eq_true'.1 hw
  simp only [Bool.and_eq_true, beq_iff_eq] at hb
  have h1 := hall e he hb.1
  rw [hb.2] at h1
  rcases Nat.lt_or_ge i listed.size with h' | h'
  · simp [h'] at hi h1; rw [hi] at h1; cases h1
  · simp [Array.getElem?_eq_none h'] at h1

theorem first {i : Nat} {oi : Oper} {v : Value} (hi : ops[i]? = some oi) (hsel : ∀ (j : Nat) (o : Oper) cs b, ops[j]? = some o → o.op ≠ .select cs b) (hwt : waits md ops u i = true) (hne : u ≠ i)
    (hQ : ∀ c a w, Q (.panic c) (a.put oi.dst v) w → Q (.panic c) a w) :
    ∀ (n : Nat) (listed : Array Bool) (a : Act) (w : World),
      (∀ j oj, ops[j]? = some oj → j ≠ i → listed.getD j true = false → (∀ e ∈ oj.after, Region.binds md e = true → e.on ≠ i) → oi.apart ops oj = true) →
      i ∈ Region.ready md ops listed → listed.getD u true = false → YieldsIf P ops S oi v a → S w →
      Any P md ops Q S u n (listed.setIfInBounds i true) (a.put oi.dst v) w → Any P md ops Q S u (n + 1) listed a w := by
  intro n
  induction n with
  | zero =>
    intro listed a w _ hr hu hy hS H
    refine ⟨fun h => (by rw [h] at hr; cases hr), fun j hj => ?_⟩
    by_cases hji : j = i
    · subst hji; exact hy.wpOp hi hS ⟨fun _ => hS, H⟩
    · have := ready_mono hj hji
      rw [H.1] at this
      cases this
  | succ n ih =>
    intro listed a w hfree hr hu hy hS H
    refine ⟨fun h => (by rw [h] at hr; cases hr), fun j hj => ?_⟩
    by_cases hji : j = i
    · subst hji; exact hy.wpOp hi hS ⟨fun _ => hS, H⟩
    · have h0 := (mem_ready.1 hr).1
      have hju : j ≠ u := fun e => not_ready hwt h0 (e ▸ hj)
      have h1 := H.2 j (ready_mono hj hji)
      obtain ⟨hjun, oj, hoj, hall⟩ := mem_ready.1 hj
      have hnot : ∀ e ∈ oj.after, Region.binds md e = true → e.on ≠ i := fun e he hb heq => by
        have h1 := hall e he hb
        rw [heq] at h1
        rcases Nat.lt_or_ge i listed.size with h' | h'
        · simp [h'] at h0 h1; rw [h0] at h1; cases h1
        · simp [Array.getElem?_eq_none h'] at h1
      have h2 := wpOp_putIf hoj (hfree j oj hoj hji hjun hnot) (fun cs b => hsel i oi cs b hi) (fun cs b => hsel j oj cs b hoj) hQ hy h1
      have hfree' : ∀ k ok, ops[k]? = some ok → k ≠ i → (listed.setIfInBounds j true).getD k true = false →
          (∀ e ∈ ok.after, Region.binds md e = true → e.on ≠ i) → oi.apart ops ok = true := fun k ok hk hki hun hno => by
        refine hfree k ok hk hki ?_ hno
        by_cases hjk : j = k
        · subst hjk; exact hjun
        · rw [getD_set_ne true hjk] at hun; exact hun
      have hu1 : (listed.setIfInBounds j true).getD u true = false := by rw [getD_set_ne true hju]; exact hu
      have hu2 : ((listed.setIfInBounds i true).setIfInBounds j true).getD u true = false := by rw [getD_set_ne true hju, getD_set_ne true hne.symm]; exact hu
      refine wpOp_mono (fun a' w' h3 => ⟨fun _ => h3.2.1 hu2, ih (listed.setIfInBounds j true) a' w' hfree' (ready_mono hr (Ne.symm hji)) hu1 h3.1 (h3.2.1 hu2) ?_⟩) h2
      rw [Array.setIfInBounds_comm _ _ hji]
      exact h3.2.2

/-- What yields its value whatever the world is may be taken first at any time. -/
theorem ever {i : Nat} {oi : Oper} {v : Value} (hi : ops[i]? = some oi) (hsel : ∀ (j : Nat) (o : Oper) cs b, ops[j]? = some o → o.op ≠ .select cs b) (hne : u ≠ i)
    (hQ : ∀ c a w, Q (.panic c) (a.put oi.dst v) w → Q (.panic c) a w) :
    ∀ (n : Nat) (listed : Array Bool) (a : Act) (w : World),
      (∀ j oj, ops[j]? = some oj → j ≠ i → listed.getD j true = false → (∀ e ∈ oj.after, Region.binds md e = true → e.on ≠ i) → oi.apart ops oj = true) →
      i ∈ Region.ready md ops listed → (listed.getD u true = false → S w) → YieldsIf P ops (fun _ => True) oi v a →
      Any P md ops Q S u n (listed.setIfInBounds i true) (a.put oi.dst v) w → Any P md ops Q S u (n + 1) listed a w := by
  intro n
  induction n with
  | zero =>
    intro listed a w _ hr hu hy H
    refine ⟨fun h => (by rw [h] at hr; cases hr), fun j hj => ?_⟩
    by_cases hji : j = i
    · subst hji; exact hy.wpOp hi trivial ⟨fun h => hu (by rw [getD_set_ne true hne.symm] at h; exact h), H⟩
    · have := ready_mono hj hji
      rw [H.1] at this
      cases this
  | succ n ih =>
    intro listed a w hfree hr hu hy H
    refine ⟨fun h => (by rw [h] at hr; cases hr), fun j hj => ?_⟩
    by_cases hji : j = i
    · subst hji; exact hy.wpOp hi trivial ⟨fun h => hu (by rw [getD_set_ne true hne.symm] at h; exact h), H⟩
    · have h0 := (mem_ready.1 hr).1
      have h1 := H.2 j (ready_mono hj hji)
      obtain ⟨hjun, oj, hoj, hall⟩ := mem_ready.1 hj
      have hnot : ∀ e ∈ oj.after, Region.binds md e = true → e.on ≠ i := fun e he hb heq => by
        have h1 := hall e he hb
        rw [heq] at h1
        rcases Nat.lt_or_ge i listed.size with h' | h'
        · simp [h'] at h0 h1; rw [h0] at h1; cases h1
        · simp [Array.getElem?_eq_none h'] at h1
      have h2 := wpOp_putIf hoj (hfree j oj hoj hji hjun hnot) (fun cs b => hsel i oi cs b hi) (fun cs b => hsel j oj cs b hoj) hQ hy h1
      have hfree' : ∀ k ok, ops[k]? = some ok → k ≠ i → (listed.setIfInBounds j true).getD k true = false →
          (∀ e ∈ ok.after, Region.binds md e = true → e.on ≠ i) → oi.apart ops ok = true := fun k ok hk hki hun hno => by
        refine hfree k ok hk hki ?_ hno
        by_cases hjk : j = k
        · subst hjk; exact hjun
        · rw [getD_set_ne true hjk] at hun; exact hun
      have hui : ((listed.setIfInBounds i true).setIfInBounds j true).getD u true = (listed.setIfInBounds j true).getD u true := by
        rw [Array.setIfInBounds_comm _ _ (Ne.symm hji), getD_set_ne true hne.symm]
      refine wpOp_mono (fun a' w' h3 => ⟨fun h => h3.2.1 (hui.trans h), ih (listed.setIfInBounds j true) a' w' hfree' (ready_mono hr (Ne.symm hji)) (fun h => h3.2.1 (hui.trans h)) h3.1 ?_⟩) h2
      rw [Array.setIfInBounds_comm _ _ hji]
      exact h3.2.2

/-- Take a reading first. -/
theorem take {i : Nat} {oi : Oper} {v : Value} {n : Nat} {listed : Array Bool} {a : Act} {w : World} (hi : ops[i]? = some oi)
    (hs : Region.noSelect ops = true) (hf : Region.free md ops listed i = true) (hr : (Region.ready md ops listed).contains i = true) (hw : waits md ops u i = true) (hne : (u == i) = false) (hu : listed.getD u true = false)
    (hQ : ∀ c a w, Q (.panic c) (a.put oi.dst v) w → Q (.panic c) a w) (hy : YieldsIf P ops S oi v a) (hS : S w)
    (h : Any P md ops Q S u n (listed.setIfInBounds i true) (a.put oi.dst v) w) : Any P md ops Q S u (n + 1) listed a w :=
  first hi (Region.noSelect_spec hs) hw (by simpa using hne) hQ n listed a w (Region.free_spec hi hf) (by simpa using hr) hu hy hS h
/-- Take first what looks at no memory. -/
theorem pick {i : Nat} {oi : Oper} {v : Value} {n : Nat} {listed : Array Bool} {a : Act} {w : World} (hi : ops[i]? = some oi)
    (hs : Region.noSelect ops = true) (hf : Region.free md ops listed i = true) (hr : (Region.ready md ops listed).contains i = true) (hne : (u == i) = false)
    (hQ : ∀ c a w, Q (.panic c) (a.put oi.dst v) w → Q (.panic c) a w) (hy : YieldsIf P ops (fun _ => True) oi v a) (hS : S w)
    (h : Any P md ops Q S u n (listed.setIfInBounds i true) (a.put oi.dst v) w) : Any P md ops Q S u (n + 1) listed a w :=
  ever hi (Region.noSelect_spec hs) (by simpa using hne) hQ n listed a w (Region.free_spec hi hf) (by simpa using hr) (fun _ => hS) hy h
/-- One alone may come up. -/
theorem one {i : Nat} {o : Oper} {n : Nat} {listed : Array Bool} {a : Act} {w : World} (hr : Region.ready md ops listed = [i]) (ho : ops[i]? = some o)
    (h : ∀ K : Act → World → Prop, Hid (∀ a' w', ((listed.setIfInBounds i true).getD u true = false → S w') → Any P md ops Q S u n (listed.setIfInBounds i true) a' w' → K a' w') → if Region.wanted o (yielded ops a.tmps) = true then Oper.wp P o a w K Q else K (a.put o.dst undef) w) :
    Any P md ops Q S u (n + 1) listed a w := by
  refine ⟨fun h0 => (by rw [hr] at h0; cases h0), fun j hj => ?_⟩
  rw [hr] at hj
  simp at hj
  subst hj
  exact wpOp_step ho fun K hK => h K (fun a' w' h1 h2 => hK a' w' ⟨h1, h2⟩)
/-- Two may come up. -/
theorem pair {i j : Nat} {o o' : Oper} {n : Nat} {listed : Array Bool} {a : Act} {w : World} (hr : Region.ready md ops listed = [i, j]) (ho : ops[i]? = some o) (ho' : ops[j]? = some o')
    (h : ∀ K : Act → World → Prop, Hid (∀ a' w', ((listed.setIfInBounds i true).getD u true = false → S w') → Any P md ops Q S u n (listed.setIfInBounds i true) a' w' → K a' w') → if Region.wanted o (yielded ops a.tmps) = true then Oper.wp P o a w K Q else K (a.put o.dst undef) w)
    (h' : ∀ K : Act → World → Prop, Hid (∀ a' w', ((listed.setIfInBounds j true).getD u true = false → S w') → Any P md ops Q S u n (listed.setIfInBounds j true) a' w' → K a' w') → if Region.wanted o' (yielded ops a.tmps) = true then Oper.wp P o' a w K Q else K (a.put o'.dst undef) w) :
    Any P md ops Q S u (n + 1) listed a w := by
  refine ⟨fun h0 => (by rw [hr] at h0; cases h0), fun k hk => ?_⟩
  rw [hr] at hk
  simp at hk
  rcases hk with rfl | rfl
  · exact wpOp_step ho fun K hK => h K (fun a' w' h1 h2 => hK a' w' ⟨h1, h2⟩)
  · exact wpOp_step ho' fun K hK => h' K (fun a' w' h1 h2 => hK a' w' ⟨h1, h2⟩)
theorem done {listed : Array Bool} {a : Act} {w : World} (hr : Region.ready md ops listed = []) (h : Q .normal a w) : ∀ n, Any P md ops Q S u n listed a w
  | 0 => ⟨hr, h⟩
  | _ + 1 => ⟨fun _ => h, by rw [hr]; simp⟩
theorem begin_ {id : Nat} {a : Act} {w : World} (S : World → Prop) (u : Nat) (hm : P.follows .mixedOrders = true)
    (h : Any P .any ops Q S u ops.size (Array.replicate ops.size false) a w.drew) : (Code.region id ops true).wp P Q a w :=
  wp_region_any hm (any_of _ _ _ _ h)
end
end Go.Proofs.Ytjidbonhhpkljaa.Un

/- A table parted into bands: the program's side. -/
set_option linter.unusedVariables false
set_option linter.unusedSimpArgs false
namespace Go.Proofs.Ytjidbonhhpkljaa.Ec
open Go.RowKit Go.Proofs.Ytjidbonhhpkljaa.Pk Go.Proofs.Ytjidbonhhpkljaa.Pm
theorem Bands.below {w w' : World} {base : Nat} {v : Value} {L : List (Bd × Value)} (h : Bands w base v L) (hb : Below w.heap.size w w') : Bands w' base v L :=
  ⟨ownsRow_below h.own hb, fun p hp => ownsRow_below (h.each p hp) hb⟩
/-- A store into a box that is no row of these. -/
theorem Bands.put {w : World} {base : Nat} {v : Value} {L : List (Bd × Value)} (h : Bands w base v L) {g : Nat} {cs : Array Value} {t : TypeId} (hg : w.heap[g]? = some (.cells cs t (0, 0))) (h1 : t ≠ 152) (h2 : t ≠ 156) (o : Nat) (u : Value) : Bands (w.setCell ⟨g, o, none⟩ u) base v L :=
  ⟨h.own.kept (box_set_grown w g o u) (.inr (own_far h.own hg h1).symm), fun p hp => (h.each p hp).kept (box_set_grown w g o u) (.inr (own_far (h.each p hp) hg h2).symm)⟩
/-- One band more. -/
theorem Bands.snoc {w w1 : World} {base : Nat} {v v1 : Value} {L : List (Bd × Value)} (h : Bands w base v L) (hg : Grew w w1 v v1) {b : Bd} {kv : Value} (hk : w.ownsRow base 156 8 kv b.chunks.length (kcells b.chunks))
    (ho : w1.ownsRow base 152 2 v1 (L ++ [(b, kv)]).length (dcells (L ++ [(b, kv)]))) : Bands w1 base v1 (L ++ [(b, kv)]) := by
  refine ⟨ho, fun p hp => ?_⟩
  have key : ∀ {q : Value} {n : Nat} {xs : List Value}, w.ownsRow base 156 8 q n xs → w1.ownsRow base 156 8 q n xs := fun hq =>
    kept_grew hq hg (apart_of hq h.own (by decide))
  rcases List.mem_append.1 hp with hp | hp
  · exact key (h.each p hp)
  · simp at hp
    subst hp
    exact key hk

/-- Where fileOf stands. -/
structure FlSt (w W : World) (cv rv ev : Value) (bd : Int) (bo : Bool) (bv : Value) (L : List (Bd × Value)) : Prop where
  tbl : W.heap[w.heap.size]? = some (.cells #[cv, rv] 52 (0, 0))
  opt : W.heap[w.heap.size + 1]? = some (.cells #[.int .i64 bd, ev, .bool bo] 54 (0, 0))
  res : W.heap[w.heap.size + 2]? = some (.cells #[.slice none 0 0, .slice none 0 0, .slice none 0 0] 110 (0, 0))
  box : W.heap[w.heap.size + 3]? = some (.cells #[cv, ev, bv] 110 (0, 0))
  bands : Bands W w.heap.size bv L
  bel : Below w.heap.size w W
theorem FlSt.below {w W W1 : World} {cv rv ev : Value} {bd : Int} {bo : Bool} {bv : Value} {L : List (Bd × Value)} (h : FlSt w W cv rv ev bd bo bv L) (hb : Below W.heap.size W W1) : FlSt w W1 cv rv ev bd bo bv L :=
  ⟨(hb.block _ (lt_of_block h.tbl)).trans h.tbl, (hb.block _ (lt_of_block h.opt)).trans h.opt, (hb.block _ (lt_of_block h.res)).trans h.res, (hb.block _ (lt_of_block h.box)).trans h.box, h.bands.below hb, h.bel.trans (hb.mono h.bel.size)⟩
theorem FlSt.cells {w W : World} {cv rv ev : Value} {bd : Int} {bo : Bool} {bv : Value} {L : List (Bd × Value)} (h : FlSt w W cv rv ev bd bo bv L) :
    (W.cell? ⟨w.heap.size, 0, none⟩ = some cv ∧ W.cell? ⟨w.heap.size, 1, none⟩ = some rv) ∧ (W.cell? ⟨w.heap.size + 1, 0, none⟩ = some (.int .i64 bd) ∧ W.cell? ⟨w.heap.size + 1, 1, none⟩ = some ev ∧ W.cell? ⟨w.heap.size + 1, 2, none⟩ = some (.bool bo)) ∧
    (W.cell? ⟨w.heap.size + 3, 0, none⟩ = some cv ∧ W.cell? ⟨w.heap.size + 3, 1, none⟩ = some ev ∧ W.cell? ⟨w.heap.size + 3, 2, none⟩ = some bv ∧ W.frozen? ⟨w.heap.size + 3, 2, none⟩ = false) := by
  have h1 := h.tbl
  have h2 := h.opt
  have h3 := h.box
  exact ⟨⟨by simp [World.cell?, h1], by simp [World.cell?, h1]⟩, ⟨by simp [World.cell?, h2], by simp [World.cell?, h2], by simp [World.cell?, h2]⟩, by simp [World.cell?, h3], by simp [World.cell?, h3], by simp [World.cell?, h3], by simp [World.frozen?, h3]⟩
theorem FlSt.kept {w W W1 : World} {cv rv ev : Value} {bd : Int} {bo : Bool} {bv bv' : Value} {L : List (Bd × Value)} (h : FlSt w W cv rv ev bd bo bv L) (hg : Grew W W1 bv bv') :
    W1.cell? ⟨w.heap.size + 3, 2, none⟩ = some bv ∧ W1.frozen? ⟨w.heap.size + 3, 2, none⟩ = false := by
  have h3 := (hg.by_.block _ (lt_of_block h.box) (own_far h.bands.own h.box (by decide))).trans h.box
  exact ⟨by simp [World.cell?, h3], by simp [World.frozen?, h3]⟩
theorem FlSt.grew {w W W1 : World} {cv rv ev : Value} {bd : Int} {bo : Bool} {bv bv' : Value} {L : List (Bd × Value)} (h : FlSt w W cv rv ev bd bo bv L) (hg : Grew W W1 bv bv') {b : Bd} {kv : Value} (hk : W.ownsRow w.heap.size 156 8 kv b.chunks.length (kcells b.chunks))
    (ho : W1.ownsRow w.heap.size 152 2 bv' (L ++ [(b, kv)]).length (dcells (L ++ [(b, kv)]))) : FlSt w (W1.setCell ⟨w.heap.size + 3, 2, none⟩ bv') cv rv ev bd bo bv' (L ++ [(b, kv)]) := by
  have h1 := (hg.by_.block _ (lt_of_block h.tbl) (own_far h.bands.own h.tbl (by decide))).trans h.tbl
  have h2 := (hg.by_.block _ (lt_of_block h.opt) (own_far h.bands.own h.opt (by decide))).trans h.opt
  have h3 := (hg.by_.block _ (lt_of_block h.res) (own_far h.bands.own h.res (by decide))).trans h.res
  have h4 := (hg.by_.block _ (lt_of_block h.box) (own_far h.bands.own h.box (by decide))).trans h.box
  have h5 := heap_setCell_same W1 (w.heap.size + 3) 2 _ _ bv' h4
  have hbb := h.bel.trans (hg.below (fun g hg => (h.bands.own.lt g hg).1) h.bel.size)
  refine ⟨?_, ?_, ?_, h5, (h.bands.snoc hg hk ho).put h4 (by decide) (by decide) _ _, below_set hbb hbb.size (by omega) _ _⟩
  · rw [heap_setCell_other _ _ _ _ (by simp)]; exact h1
  · rw [heap_setCell_other _ _ _ _ (by simp)]; exact h2
  · rw [heap_setCell_other _ _ _ _ (by simp)]; exact h3

theorem two_atB (w : World) (b : Bd) (kv : Value) (t : TypeId) : ∀ (j : Nat) (u : Value), (dcell (b, kv))[j]? = some u → (w.alloc (.cells (dcell (b, kv)).toArray t)).cell? ((⟨w.heap.size, 0, none⟩ : Addr).add j) = some u :=
  World.news_of_block (alloc_at w _)
theorem Try.info152 : (Try.prog.info? 152).map (fun i => (i.zero, i.size, i.bytes)) = some (some (.agg #[.int .i64 0, .slice none 0 0]), 2, 32) := by kernel_rfl

theorem cutR_length {rows : List (List Val)} {bd k : Nat} : (cutR rows bd k).length = min bd (rows.length - k * bd) := by simp [cutR]

end Go.Proofs.Ytjidbonhhpkljaa.Ec

/- The footer as bytes: the program's side. -/
set_option linter.unusedVariables false
namespace Go.Proofs.Ytjidbonhhpkljaa.Ec
open Go.RowKit Go.Proofs.Ytjidbonhhpkljaa.Pk Go.Proofs.Ytjidbonhhpkljaa.Pm
theorem vint_len (n : Nat) : (vint n).length ≤ 10 := by unfold vint; exact vintF_length 10 n
theorem boundB_len (k : Int) (b : Bnd) (h1 : b.least.s.size ≤ 32) (h2 : b.most.s.size ≤ 32) : (boundB k b).length ≤ 85 := by
  have a1 := plainB_length k b.least h1
  have a2 := plainB_length k b.most h2
  unfold boundB
  split
  · simp only [List.length_append, List.length_cons, List.length_nil]; omega
  · simp
theorem flat_le {α : Type} (f : α → List Nat) (m : Nat) (l : List α) (h : ∀ x ∈ l, (f x).length ≤ m) : (l.flatMap f).length ≤ l.length * m := by
  induction l with
  | nil => simp
  | cons x r ih =>
    rw [List.flatMap_cons, List.length_append, List.length_cons, Nat.succ_mul]
    have h1 := h x (by simp)
    have h2 := ih (fun y hy => h y (by simp [hy]))
    omega
/-- What is asked of bands ahead of being written. -/
structure BdOk (n : Nat) (b : Bd) : Prop where
  rows : b.rows < 2147483648
  len : b.chunks.length = n
  size : ∀ c ∈ b.chunks, c.text.size < 2147483648
  least : ∀ c ∈ b.chunks, VOk c.bnd.least
  most : ∀ c ∈ b.chunks, VOk c.bnd.most
theorem colB_len {cs : List Col} {es : List Int} (h : ∀ c ∈ cs, c.name.size ≤ 16) {i : Nat} (hi : i < cs.length) : (colB cs es i).length ≤ 28 := by
  have h1 := vint_len (cs.getD i ⟨⟨#[]⟩, 0⟩).name.size
  have h2 := h _ (by rw [List.getD_eq_getElem?_getD, List.getElem?_eq_getElem hi]; exact List.getElem_mem hi : cs.getD i ⟨⟨#[]⟩, 0⟩ ∈ cs)
  unfold colB
  rw [List.length_append, List.length_append, bytesOf_length]
  simp only [List.length_cons, List.length_nil]
  omega
theorem colsB_len {cs : List Col} {es : List Int} (h : ∀ c ∈ cs, c.name.size ≤ 16) (k : Nat) (hk : k ≤ cs.length) : (colsB cs es k).length ≤ k * 28 := by
  have := flat_le (colB cs es) 28 (List.range k) (fun i hi => colB_len h (by have := List.mem_range.1 hi; omega))
  simpa [colsB] using this

/-- Where appendFooter stands. -/
structure FtSt (w W : World) (cv ev bv u : Value) (pre : List Nat) : Prop where
  box : W.heap[w.heap.size]? = some (.cells #[cv, ev, bv] 110 (0, 0))
  own : W.ownsRow w.heap.size 5 1 u pre.length (bcells pre)
  bel : Below w.heap.size w W
theorem FtSt.alloc {w W : World} {cv ev bv u : Value} {pre : List Nat} (h : FtSt w W cv ev bv u pre) (o : Obj) : FtSt w (W.alloc o) cv ev bv u pre :=
  ⟨alloc_old o (lt_of_block h.box) h.box, h.own.alloc o, h.bel.alloc h.bel.size o⟩
theorem FtSt.drew {w W : World} {cv ev bv u : Value} {pre : List Nat} (h : FtSt w W cv ev bv u pre) : FtSt w W.drew cv ev bv u pre :=
  ⟨h.box, ownsRow_below h.own (Below.refl _ _).drew, h.bel.drew⟩
theorem FtSt.grew {w W W1 : World} {cv ev bv u u' : Value} {pre pre' : List Nat} (h : FtSt w W cv ev bv u pre) (hg : Grew W W1 u u') (ho : W1.ownsRow w.heap.size 5 1 u' pre'.length (bcells pre')) : FtSt w W1 cv ev bv u' pre' :=
  ⟨(hg.by_.block _ (lt_of_block h.box) (own_far h.own h.box (by decide))).trans h.box, ho, h.bel.trans (hg.below (fun g hg => (h.own.lt g hg).1) h.bel.size)⟩
theorem FtSt.cells {w W : World} {cv ev bv u : Value} {pre : List Nat} (h : FtSt w W cv ev bv u pre) : W.cell? ⟨w.heap.size, 0, none⟩ = some cv ∧ W.cell? ⟨w.heap.size, 1, none⟩ = some ev ∧ W.cell? ⟨w.heap.size, 2, none⟩ = some bv := val_cells h.box
/-- A box beside. -/
theorem FtSt.far {w W W1 : World} {cv ev bv u u' : Value} {pre : List Nat} (h : FtSt w W cv ev bv u pre) (hg : Grew W W1 u u') {g : Nat} {cs : Array Value} {t : TypeId} (hb : W.heap[g]? = some (.cells cs t (0, 0))) (ht : t ≠ 5) : W1.heap[g]? = some (.cells cs t (0, 0)) :=
  (hg.by_.block _ (lt_of_block hb) (own_far h.own hb ht)).trans hb
theorem two_of {w : World} {g : Nat} {a b : Value} {t : TypeId} (h : w.heap[g]? = some (.cells #[a, b] t (0, 0))) : w.cell? ⟨g, 0, none⟩ = some a ∧ w.cell? ⟨g, 1, none⟩ = some b := by
  refine ⟨?_, ?_⟩ <;> simp [World.cell?, h]

theorem two_atC (w : World) (a b : Value) (t : TypeId) : ∀ (j : Nat) (u : Value), [a, b][j]? = some u → (w.alloc (.cells #[a, b] t)).cell? ((⟨w.heap.size, 0, none⟩ : Addr).add j) = some u :=
  World.news_of_block (alloc_at w _)
end Go.Proofs.Ytjidbonhhpkljaa.Ec

/- A file as bytes: the program's side. -/
set_option linter.unusedVariables false
namespace Go.Proofs.Ytjidbonhhpkljaa.Ec
open Go.RowKit Go.Proofs.Ytjidbonhhpkljaa.Pk Go.Proofs.Ytjidbonhhpkljaa.Pm
/-- Bytes of the call's own: a row, or the first mark, as '[]byte' of a constant lays it. -/
def MRow (w : World) (base : Nat) (v : Value) (pre : List Nat) : Prop :=
  w.ownsRow base 5 1 v pre.length (bcells pre) ∨ (pre = markB ∧ ∃ g, v = .slice (some ⟨g, 0, none⟩) 4 4 ∧ base ≤ g ∧ w.heap[g]? = some (.cells (bcells markB).toArray 5 (4, 5)))
theorem MRow.lt {w : World} {base : Nat} {v : Value} {pre : List Nat} (h : MRow w base v pre) : ∀ g, v.ownBlock = some g → base ≤ g ∧ g < w.heap.size := by
  rcases h with h | ⟨-, g, rfl, hb, hg⟩
  · exact h.lt
  · intro k hk
    simp [Value.ownBlock] at hk
    subst hk
    exact ⟨hb, (Array.getElem?_eq_some_iff.1 hg).1⟩
theorem MRow.far {w : World} {base : Nat} {v : Value} {pre : List Nat} (h : MRow w base v pre) {g : Nat} {cs : Array Value} {t : TypeId} (hb : w.heap[g]? = some (.cells cs t (0, 0))) (hne : t ≠ 5) : some g ≠ v.ownBlock := by
  rcases h with h | ⟨-, k, rfl, -, hk⟩
  · exact own_far h hb hne
  · intro e
    simp [Value.ownBlock] at e
    subst e
    rw [hb] at hk
    simp at hk
theorem MRow.below {w w' : World} {base : Nat} {v : Value} {pre : List Nat} (h : MRow w base v pre) (hb : Below w.heap.size w w') : MRow w' base v pre := by
  rcases h with h | ⟨h1, g, h2, h3, h4⟩
  · exact .inl (ownsRow_below h hb)
  · exact .inr ⟨h1, g, h2, h3, (hb.block _ (Array.getElem?_eq_some_iff.1 h4).1).trans h4⟩
/-- Where Join stands. -/
structure JnSt (w W : World) (cv ev bv u : Value) (pre : List Nat) : Prop where
  box : W.heap[w.heap.size]? = some (.cells #[cv, ev, bv] 110 (0, 0))
  own : MRow W w.heap.size u pre
  bel : Below w.heap.size w W
theorem JnSt.below {w W W1 : World} {cv ev bv u : Value} {pre : List Nat} (h : JnSt w W cv ev bv u pre) (hb : Below W.heap.size W W1) : JnSt w W1 cv ev bv u pre :=
  ⟨(hb.block _ (lt_of_block h.box)).trans h.box, h.own.below hb, h.bel.trans (hb.mono h.bel.size)⟩
theorem JnSt.alloc {w W : World} {cv ev bv u : Value} {pre : List Nat} (h : JnSt w W cv ev bv u pre) (o : Obj) : JnSt w (W.alloc o) cv ev bv u pre := h.below ((Below.refl _ _).alloc (Nat.le_refl _) o)
theorem JnSt.grew {w W W1 : World} {cv ev bv u u' : Value} {pre pre' : List Nat} (h : JnSt w W cv ev bv u pre) (hg : Grew W W1 u u') (ho : W1.ownsRow w.heap.size 5 1 u' pre'.length (bcells pre')) : JnSt w W1 cv ev bv u' pre' :=
  ⟨(hg.by_.block _ (lt_of_block h.box) (h.own.far h.box (by decide))).trans h.box, .inl ho, h.bel.trans (hg.below (fun g hg => (h.own.lt g hg).1) h.bel.size)⟩
theorem JnSt.cells {w W : World} {cv ev bv u : Value} {pre : List Nat} (h : JnSt w W cv ev bv u pre) : W.cell? ⟨w.heap.size, 0, none⟩ = some cv ∧ W.cell? ⟨w.heap.size, 1, none⟩ = some ev ∧ W.cell? ⟨w.heap.size, 2, none⟩ = some bv := val_cells h.box
theorem JnSt.far {w W W1 : World} {cv ev bv u u' : Value} {pre : List Nat} (h : JnSt w W cv ev bv u pre) (hg : Grew W W1 u u') {g : Nat} {cs : Array Value} {t : TypeId} (hb : W.heap[g]? = some (.cells cs t (0, 0))) (ht : t ≠ 5) : W1.heap[g]? = some (.cells cs t (0, 0)) :=
  (hg.by_.block _ (lt_of_block hb) (h.own.far hb ht)).trans hb
theorem vint_pos (n : Nat) : 0 < (vint n).length := by
  unfold vint vintF
  split <;> simp
end Go.Proofs.Ytjidbonhhpkljaa.Ec

/- Files as plain data: what the bands of a table that may be are. -/
set_option linter.unusedVariables false
namespace Go.Proofs.Ytjidbonhhpkljaa.Ec
open Go.RowKit Go.Proofs.Ytjidbonhhpkljaa.Pk Go.Proofs.Ytjidbonhhpkljaa.Pm
theorem names_of_ok {cs : List Col} (h : ColsOk cs) : ∀ c ∈ cs, c.name.size ≤ 16 := by
  intro c hc
  obtain ⟨i, hi, rfl⟩ := List.getElem_of_mem hc
  have := (h.2.2 i hi).1
  simp [colOk] at this
  omega
theorem bstep_ok {P : Val → Prop} {b : Bnd} {v : Val} (h1 : P b.least) (h2 : P b.most) (hv : P v) : P (bstep b v).least ∧ P (bstep b v).most := by
  unfold bstep
  split
  · exact ⟨h1, h2⟩
  · dsimp only
    constructor <;> split <;> assumption
theorem boundsP_ok {P : Val → Prop} (h0 : P ⟨false, 0, ⟨#[]⟩⟩) (l : List Val) (h : ∀ x ∈ l, P x) : P (boundsP l).least ∧ P (boundsP l).most := by
  have : ∀ (l : List Val) (b : Bnd), P b.least → P b.most → (∀ x ∈ l, P x) → P (l.foldl bstep b).least ∧ P (l.foldl bstep b).most := by
    intro l
    induction l with
    | nil => intro b h1 h2 _; exact ⟨h1, h2⟩
    | cons x r ih =>
      intro b h1 h2 h
      rw [List.foldl_cons]
      have hs := bstep_ok h1 h2 (h x (by simp))
      exact ih _ hs.1 hs.2 (fun y hy => h y (by simp [hy]))
  exact this l noBnd h0 h0 h
theorem vok_zero : VOk ⟨false, 0, ⟨#[]⟩⟩ := ⟨by decide, by decide, by decide⟩

theorem runsB_pos {l : List Int} (h : 0 < l.length) : 0 < (runsB l).length := by
  cases l with
  | nil => simp at h
  | cons x r =>
    unfold runsB runsF
    simp
    omega
theorem columnB_pos {k e : Int} {l : List Val} (h : 0 < l.length) : 0 < (columnB k e l).length := by
  unfold columnB
  rw [List.length_append]
  have := runsB_pos (l := l.map lev) (by simpa using h)
  omega
theorem columnB_le {k e : Int} {l : List Val} (h : ∀ x ∈ l, VOk x) (hl : l.length ≤ 100) : (columnB k e l).length ≤ 110000 := by
  unfold columnB
  rw [List.length_append]
  have h1 := runsB_length (l.map lev) (by simpa using hl)
  have h2 := codedB_length k e (there l) (fun x hx => h x (there_mem hx)) (by have := there_length l; omega)
  omega

/-- What is known of a table that may be, with values of 64 bits. -/
structure Tbl (cs : List Col) (rows : List (List Val)) (es : List Int) (bd : Nat) : Prop where
  table : TableOk cs rows
  encs : EncsOk cs es
  lo : 1 ≤ bd
  hi : bd ≤ 100
  vals : ∀ r ∈ rows, ∀ x ∈ r, VIn x
theorem Tbl.len {cs : List Col} {rows : List (List Val)} {es : List Int} {bd : Nat} (h : Tbl cs rows es bd) : ∀ r ∈ rows, r.length = cs.length := by
  intro r hr
  obtain ⟨i, hi, rfl⟩ := List.getElem_of_mem hr
  exact (h.table.2.2 i hi).1
theorem cutR_mem {rows : List (List Val)} {bd j : Nat} {r : List Val} (h : r ∈ cutR rows bd j) : r ∈ rows := List.mem_of_mem_drop (List.mem_of_mem_take h)
/-- The values of a column of a band. -/
theorem Tbl.col {cs : List Col} {rows : List (List Val)} {es : List Int} {bd : Nat} (h : Tbl cs rows es bd) (j p : Nat) (hp : p < cs.length) : ∀ x ∈ colVals (cutR rows bd j) p, mayB x cs[p].kind = true ∧ VOk x := by
  intro x hx
  unfold colVals at hx
  obtain ⟨r, hr, rfl⟩ := List.mem_map.1 hx
  have hr2 := cutR_mem hr
  obtain ⟨i, hi, hri⟩ := List.getElem_of_mem hr2
  have hrow := h.table.2.2 i hi
  rw [hri] at hrow
  have hpl : p < r.length := by rw [hrow.1]; exact hp
  have hm := hrow.2 p hpl hp
  rw [List.getD_eq_getElem?_getD, List.getElem?_eq_getElem hpl]
  exact ⟨hm, vok_of_may (h.vals r hr2 _ (List.getElem_mem hpl)) hm⟩
theorem Tbl.cut {cs : List Col} {rows : List (List Val)} {es : List Int} {bd : Nat} (h : Tbl cs rows es bd) (j p : Nat) : (colVals (cutR rows bd j) p).length ≤ 100 := by
  rw [colVals_length, cutR_length]
  have := h.hi
  omega
theorem Tbl.elen {cs : List Col} {rows : List (List Val)} {es : List Int} {bd : Nat} (h : Tbl cs rows es bd) : es.length = cs.length := h.encs.1.symm
/-- The chunk, as the document has it. -/
theorem Tbl.chk {cs : List Col} {rows : List (List Val)} {es : List Int} {bd : Nat} (h : Tbl cs rows es bd) (bo : Bool) (j p : Nat) (hp : p < cs.length) :
    chkP (cutR rows bd j) cs es bo p = ⟨strOf (columnB cs[p].kind (es.getD p 0) (colVals (cutR rows bd j) p)), if bo then boundsP (colVals (cutR rows bd j) p) else noBnd⟩ := by
  rw [chkP_at hp (by rw [h.elen]; exact hp)]
  have hc := h.col j p hp
  rw [enc_ok (by have := h.cut j p; omega) (h.encs.2 p hp) (fun i hi => (hc _ (List.getElem_mem hi)).1)]
theorem Tbl.chunks {cs : List Col} {rows : List (List Val)} {es : List Int} {bd : Nat} (h : Tbl cs rows es bd) (bo : Bool) (j : Nat) : ∀ c ∈ chksP (cutR rows bd j) cs es bo cs.length, c.text.size ≤ 110000 ∧ VOk c.bnd.least ∧ VOk c.bnd.most ∧ (j * bd < rows.length → 0 < c.text.size) := by
  intro c hc
  unfold chksP at hc
  obtain ⟨p, hp, rfl⟩ := List.mem_map.1 hc
  have hp := List.mem_range.1 hp
  rw [h.chk bo j p hp]
  have hv : ∀ x ∈ colVals (cutR rows bd j) p, VOk x := fun x hx => (h.col j p hp x hx).2
  have hb := boundsP_ok vok_zero _ hv
  have hb2 : VOk (if bo = true then boundsP (colVals (cutR rows bd j) p) else noBnd).least ∧ VOk (if bo = true then boundsP (colVals (cutR rows bd j) p) else noBnd).most := by
    cases bo
    · exact ⟨vok_zero, vok_zero⟩
    · exact hb
  refine ⟨?_, hb2.1, hb2.2, fun hj => ?_⟩
  · show (strOf _).size ≤ _
    rw [strOf_size]
    exact columnB_le hv (h.cut j p)
  · show 0 < (strOf _).size
    rw [strOf_size]
    refine columnB_pos ?_
    rw [colVals_length, cutR_length]
    have := h.lo
    omega
theorem Tbl.band {cs : List Col} {rows : List (List Val)} {es : List Int} {bd : Nat} (h : Tbl cs rows es bd) (bo : Bool) (j : Nat) : BdOk cs.length (bandP (cutR rows bd j) cs es bo) := by
  have hc := h.chunks bo j
  refine ⟨?_, chksP_length _ _ _ _ _, fun c hx => ?_, fun c hx => (hc c hx).2.1, fun c hx => (hc c hx).2.2.1⟩
  · show (cutR rows bd j).length < _
    rw [cutR_length]
    have := h.hi
    omega
  · have := (hc c hx).1
    omega
theorem Tbl.bands {cs : List Col} {rows : List (List Val)} {es : List Int} {bd : Nat} (h : Tbl cs rows es bd) (bo : Bool) (n : Nat) : ∀ b ∈ bandsP rows cs es bo bd n, BdOk cs.length b := by
  intro b hb
  unfold bandsP at hb
  obtain ⟨j, -, rfl⟩ := List.mem_map.1 hb
  exact h.band bo j
/-- The bytes of a file. -/
def wfile (cs : List Col) (rows : List (List Val)) (es : List Int) (bo : Bool) (bd : Nat) : List Nat := fileB cs es (bandsP rows cs es bo bd (bandN rows.length bd))
/-- What Write answers. -/
def WRes (cs : List Col) (rows : List (List Val)) (bd : Int) (es : List Int) (bo : Bool) (s : ByteArray) (n : Int) : Prop :=
  (¬ TableOk cs rows ∧ s = ⟨#[]⟩ ∧ n = 1) ∨ (TableOk cs rows ∧ ¬ OptsOk bd es cs ∧ s = ⟨#[]⟩ ∧ n = 2) ∨
  (TableOk cs rows ∧ OptsOk bd es cs ∧ 65536 < (wfile cs rows es bo bd.toNat).length ∧ s = ⟨#[]⟩ ∧ n = 6) ∨
  (TableOk cs rows ∧ OptsOk bd es cs ∧ ¬ 65536 < (wfile cs rows es bo bd.toNat).length ∧ s = strOf (wfile cs rows es bo bd.toNat) ∧ n = 0)
theorem WRes.uni {cs : List Col} {rows : List (List Val)} {bd : Int} {es : List Int} {bo : Bool} {s s' : ByteArray} {n n' : Int} (h : WRes cs rows bd es bo s n) (h' : WRes cs rows bd es bo s' n') : s = s' ∧ n = n' := by
  rcases h with ⟨a, rfl, rfl⟩ | ⟨a, b, rfl, rfl⟩ | ⟨a, b, c, rfl, rfl⟩ | ⟨a, b, c, rfl, rfl⟩ <;> rcases h' with ⟨a', rfl, rfl⟩ | ⟨a', b', rfl, rfl⟩ | ⟨a', b', c', rfl, rfl⟩ | ⟨a', b', c', rfl, rfl⟩ <;>
    first | exact ⟨rfl, rfl⟩ | exact absurd a' a | exact absurd a a' | exact absurd b' b | exact absurd b b' | exact absurd c' c | exact absurd c c'
end Go.Proofs.Ytjidbonhhpkljaa.Ec
