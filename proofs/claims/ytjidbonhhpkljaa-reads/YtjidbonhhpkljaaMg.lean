/- What the proof stands on: RdPart, RdColumns, RdRefP, RdLoose, RdLooseB. -/
import Derived.Test.YtjidbonhhpkljaaMf

/- Part: a file out of its bytes, or none; and the columns and rows of a file: the program's side. -/
set_option linter.unusedVariables false
namespace Go.Proofs.Ytjidbonhhpkljaa.Ec
open Go.RowKit Go.Proofs.Ytjidbonhhpkljaa.Pk Go.Proofs.Ytjidbonhhpkljaa.Pm
/-- What ReadWhole answers of a footer and chunks. -/
def RWf (w : World) (s z : ByteArray) (e : Ending) (w' : World) : Prop :=
  Below w.heap.size w w' ∧ ((∃ (l : List (Col × Int)) (bs : List Bd) (L : List (Bd × Value)) (a b c : Value), e = .returned (.tuple #[.agg #[a, b, c], .bool true]) ∧ FOk l bs ∧ L.map Prod.fst = bs ∧ bytesOf s = ftB l bs ∧ bytesOf z = bodyB bs ∧ FileAt w' w.heap.size l L a b c ∧ (∀ l' bs', FOk l' bs' → bytesOf s = ftB l' bs' → bytesOf z = bodyB bs' → l' = l ∧ bs' = bs)) ∨
    (e = .returned (.tuple #[.agg #[.slice none 0 0, .slice none 0 0, .slice none 0 0], .bool false]) ∧ ∀ l bs, FOk l bs → bytesOf s = ftB l bs → bytesOf z ≠ bodyB bs))
theorem catchF_at {w w4 : World} {x y z v : Value} (q : Nat) (hL : w4.heap[w.heap.size]? = some (.cells #[x, y, z] 110 (0, 0))) (hE : w4.heap[w.heap.size + 1]? = some (.cells #[v] 4 (0, 0))) :
    CallsD Try.prog 132 #[.pointer (some ⟨w.heap.size, 0, none⟩), .pointer (some ⟨w.heap.size + 1, 0, none⟩)] (.panicking (badAt q)) w4 fun e u' w' =>
      e = .returned (.tuple #[]) ∧ u' = .panicking [{ v := .iface 183 (.agg #[.int .i64 (q : Int)]), recovered := true }] ∧ w' = (put3 (w4.alloc (.cells noFile 110)) w.heap.size (.slice none 0 0) (.slice none 0 0) (.slice none 0 0)).setCell ⟨w.heap.size + 1, 0, none⟩ (.bool false) :=
  catchF_panicking _ _ _ _ _ _ _ _ [] w4 (by omega) hL hE
/-- The boxes of the answer, as they are left. -/
theorem wholeF_end {w w4 : World} {x y z v : Value} (a b c u : Value) (hL : w4.heap[w.heap.size]? = some (.cells #[x, y, z] 110 (0, 0))) (hE : w4.heap[w.heap.size + 1]? = some (.cells #[v] 4 (0, 0))) (hB : Below w.heap.size w w4) :
    let W := (put3 w4 w.heap.size a b c).setCell ⟨w.heap.size + 1, 0, none⟩ u
    (W.cell? ⟨w.heap.size, 0, none⟩ = some a ∧ W.cell? ⟨w.heap.size, 1, none⟩ = some b ∧ W.cell? ⟨w.heap.size, 2, none⟩ = some c) ∧ W.cell? ⟨w.heap.size + 1, 0, none⟩ = some u ∧ Below w.heap.size w W := by
  have a1 := put3_at a b c hL
  have a2 : (put3 w4 w.heap.size a b c).heap[w.heap.size + 1]? = some (.cells #[v] 4 (0, 0)) := by rw [put3_other _ _ _ (by omega)]; exact hE
  refine ⟨(three_of (t := 110) (by rw [heap_setCell_other _ _ _ _ (by simp)]; exact a1)).1, (one_frozen (one_set u a2)).1, ?_⟩
  exact (put3_below _ _ _ hB (Nat.le_refl _) (Nat.le_refl _)).setCell (Nat.le_succ _) _

set_option maxRecDepth 100000 in
set_option maxHeartbeats 4000000 in
theorem wholeF_any (cb : Nat) (s z : ByteArray) (w : World) (hm : s.size ≤ 65536) (hz : z.size ≤ 65536) (hcb : w.heap[cb]? = some (.cells #[.string z] 9 (0, 0))) :
    Calls Try.prog 97 #[.string s, .func (.func 98) #[] #[.pointer (some ⟨cb, 0, none⟩)]] w (RWf w s z) := by
  have hcl : cb < w.heap.size := lt_of_block hcb
  have hm2 : s.size ≤ maxLen := by unfold maxLen; omega
  have HCB : Hid (w.heap[cb]? = some (.cells #[.string z] 9 (0, 0))) := hcb
  clear hcb
  have hmf : ∀ (fn : Fn) (first cap : Array Value) (w : World), (Instr.makeFunc fn first cap).run Try.prog w = .ok (.func fn first cap) w := fun _ _ _ _ => rfl
  go_enter_defers Try.func97, Try.ntmps97
  go_wp2_with (go_at_call 100; refine (newReader_any s _).mono ?_; rintro e w' ⟨rfl, rfl⟩)
  have hL : (((w.alloc (.cells #[.slice none 0 0, .slice none 0 0, .slice none 0 0] 110)).alloc (.cells #[.bool false] 4)).alloc (rdr s 0)).heap[w.heap.size]? = some (.cells #[.slice none 0 0, .slice none 0 0, .slice none 0 0] 110 (0, 0)) := three_0 _ _ _ _
  have hE : (((w.alloc (.cells #[.slice none 0 0, .slice none 0 0, .slice none 0 0] 110)).alloc (.cells #[.bool false] 4)).alloc (rdr s 0)).heap[w.heap.size + 1]? = some (.cells #[.bool false] 4 (0, 0)) := three_1 _ _ _ _
  have hR : (((w.alloc (.cells #[.slice none 0 0, .slice none 0 0, .slice none 0 0] 110)).alloc (.cells #[.bool false] 4)).alloc (rdr s 0)).heap[w.heap.size + 1 + 1]? = some (rdr s 0) := three_2 _ _ _ _
  have hS : (((w.alloc (.cells #[.slice none 0 0, .slice none 0 0, .slice none 0 0] 110)).alloc (.cells #[.bool false] 4)).alloc (rdr s 0)).heap.size = w.heap.size + 3 := by simp
  have hB : Below w.heap.size w (((w.alloc (.cells #[.slice none 0 0, .slice none 0 0, .slice none 0 0] 110)).alloc (.cells #[.bool false] 4)).alloc (rdr s 0)) := (((Below.refl _ _).alloc (Nat.le_refl _) _).alloc (by simp) _).alloc (by simp; omega) _
  generalize (((w.alloc (.cells #[.slice none 0 0, .slice none 0 0, .slice none 0 0] 110)).alloc (.cells #[.bool false] 4)).alloc (rdr s 0)) = W3 at *
  refine (partC_any (w.heap.size + 1 + 1) cb s z W3 hm hz hR ((hB.block cb hcl).trans HCB.out)).mono ?_
  rintro e w4 ⟨hK4, ⟨l, bs, L, a, b, c, rfl, hf, hLL, hs, hle, hR4, hbz, hF, hun⟩ | ⟨q, rfl, hN⟩⟩
  · have hL4 : w4.heap[w.heap.size]? = some (.cells #[.slice none 0 0, .slice none 0 0, .slice none 0 0] 110 (0, 0)) := Kp.block hK4 hL (by omega)
    have hE4 : w4.heap[w.heap.size + 1]? = some (.cells #[.bool false] 4 (0, 0)) := Kp.block hK4 hE (by omega)
    have hB4 : Below w.heap.size w w4 := hB.trans ((hK4.below (by omega)).mono (by omega))
    have hF4 : FileAt w4 w.heap.size l L a b c := hF.base (by omega)
    obtain ⟨ao, ac, bo, bc, co, cc, rfl, rfl, rfl⟩ := hF4.forms
    have HF5 : Hid (FileAt (put3 w4 w.heap.size (.slice ao l.length ac) (.slice bo l.length bc) (.slice co L.length cc)) w.heap.size l L (.slice ao l.length ac) (.slice bo l.length bc) (.slice co L.length cc)) := hF4.put3 _ _ _ hL4
    have hL5 : (put3 w4 w.heap.size (.slice ao l.length ac) (.slice bo l.length bc) (.slice co L.length cc)).heap[w.heap.size]? = some (.cells #[.slice ao l.length ac, .slice bo l.length bc, .slice co L.length cc] 110 (0, 0)) := put3_at _ _ _ hL4
    have hE5 : (put3 w4 w.heap.size (.slice ao l.length ac) (.slice bo l.length bc) (.slice co L.length cc)).heap[w.heap.size + 1]? = some (.cells #[.bool false] 4 (0, 0)) := by rw [put3_other _ _ _ (by omega)]; exact hE4
    have hR5 : (put3 w4 w.heap.size (.slice ao l.length ac) (.slice bo l.length bc) (.slice co L.length cc)).heap[w.heap.size + 1 + 1]? = some (rdr s (ftB l bs).length) := by rw [put3_other _ _ _ (by omega)]; exact hR4
    have hB5 : Below w.heap.size w (put3 w4 w.heap.size (.slice ao l.length ac) (.slice bo l.length bc) (.slice co L.length cc)) := put3_below _ _ _ hB4 (Nat.le_refl _) (Nat.le_refl _)
    obtain ⟨⟨x0, x1, x2⟩, f0, f1, f2⟩ := three_of hL4
    have HFO : Hid (FOk l bs) := hf
    have HLL : Hid (L.map Prod.fst = bs) := hLL
    have HS : Hid (Starts (bytesOf s) 0 (ftB l bs)) := hs
    have HZ : Hid (bytesOf z = bodyB bs) := hbz
    have HUN : Hid (∀ l' bs', FOk l' bs' → bytesOf s = ftB l' bs' → bytesOf z = bodyB bs' → l' = l ∧ bs' = bs) := fun l' bs' h1 h2 h3 => hun l' bs' h1 (starts_of_eq h2.symm) h3
    have HL5 : Hid _ := hL5
    have HE5 : Hid _ := hE5
    have HB5 : Hid _ := hB5
    have HR5 : Hid ((put3 w4 w.heap.size (.slice ao l.length ac) (.slice bo l.length bc) (.slice co L.length cc)).heap[w.heap.size + 1 + 1]? = some (rdr s (ftB l bs).length)) := hR5
    clear hL hE hR hS hB hL4 hE4 hB4 hF4 hF hK4 hR4 hf hLL hs hbz hun hL5 hE5 hR5 hB5 HCB
    clear W3
    go_upto_region 4 with fail
    unfold put3 at HF5 HL5 HE5 HB5 HR5
    generalize ((w4.setCell ⟨w.heap.size, 0, none⟩ (.slice ao l.length ac)).setCell ⟨w.heap.size, 1, none⟩ (.slice bo l.length bc)).setCell ⟨w.heap.size, 2, none⟩ (.slice co L.length cc) = W5 at *
    clear x0 x1 x2 f0 f1 f2
    by_cases hend : (ftB l bs).length < s.size
    · have HNO : Hid (∀ l bs, FOk l bs → bytesOf s = ftB l bs → bytesOf z ≠ bodyB bs) := fun l' bs' h1 h2 h3 => by
        obtain ⟨e1, e2⟩ := HUN.out l' bs' h1 h2 h3
        have := congrArg List.length h2
        rw [bytesOf_length, e1, e2] at this
        omega
      go_wp2_with (go_at_call 111; refine (end_bad (w.heap.size + 1 + 1) _ s _ hm2 hend HR5.out).mono ?_; rintro e w' ⟨rfl, m, rfl⟩)
      have hL6 : (W5.drewN m).heap[w.heap.size]? = some (.cells #[.slice ao l.length ac, .slice bo l.length bc, .slice co L.length cc] 110 (0, 0)) := HL5.out
      have hE6 : (W5.drewN m).heap[w.heap.size + 1]? = some (.cells #[.bool false] 4 (0, 0)) := HE5.out
      have hB6 : Below w.heap.size w (W5.drewN m) := below_drewN HB5.out m
      generalize W5.drewN m = w6 at *
      obtain ⟨⟨f1, f2, f3⟩, f4, f5⟩ := wholeF_end (.slice none 0 0) (.slice none 0 0) (.slice none 0 0) (.bool false) (w4 := w6.alloc (.cells noFile 110)) (by rw [Below.heap_alloc _ _ _ (lt_of_block hL6)]; exact hL6) (by rw [Below.heap_alloc _ _ _ (lt_of_block hE6)]; exact hE6) (hB6.alloc (by have := lt_of_block hL6; omega) _)
      refine leaves_cons (f := 132) (args := #[.pointer (some ⟨w.heap.size, 0, none⟩), .pointer (some ⟨w.heap.size + 1, 0, none⟩)]) (by simp) (by simp [go_sem]) ?_
      refine (catchF_at _ hL6 hE6).mono ?_
      rintro e u' w'' ⟨rfl, rfl, rfl⟩
      simp [Leaves, settle, results, Try.results97, go_sem, f1, f2, f3, f4]
      exact ⟨f5, .inr ⟨rfl, HNO.out⟩⟩
    · have HEQ : Hid (bytesOf s = ftB l bs) := starts_all HS.out (by rw [bytesOf_length]; omega)
      go_upto_region 5 with (go_at_call 111; refine (end_ok (w.heap.size + 1 + 1) _ s _ hm2 hend HR5.out).mono ?_; rintro e w' ⟨rfl, m, rfl⟩)
      have hL6 : (W5.drewN m).heap[w.heap.size]? = some (.cells #[.slice ao l.length ac, .slice bo l.length bc, .slice co L.length cc] 110 (0, 0)) := HL5.out
      have hE6 : (W5.drewN m).heap[w.heap.size + 1]? = some (.cells #[.bool false] 4 (0, 0)) := HE5.out
      have hB6 : Below w.heap.size w (W5.drewN m) := below_drewN HB5.out m
      have hF6 : FileAt (W5.drewN m) w.heap.size l L (.slice ao l.length ac) (.slice bo l.length bc) (.slice co L.length cc) := HF5.out.below (below_drewN (Below.refl _ _) _)
      generalize W5.drewN m = w6 at *
      obtain ⟨⟨g1, g2, g3⟩, g4, g5⟩ := wholeF_end (.slice ao l.length ac) (.slice bo l.length bc) (.slice co L.length cc) (.bool true) hL6 hE6 hB6
      have HB7 : Hid _ := g5
      have hE7 : (put3 w6 w.heap.size (.slice ao l.length ac) (.slice bo l.length bc) (.slice co L.length cc)).heap[w.heap.size + 1]? = some (.cells #[.bool false] 4 (0, 0)) := by rw [put3_other _ _ _ (by omega)]; exact hE6
      have HF7 : Hid (FileAt ((put3 w6 w.heap.size (.slice ao l.length ac) (.slice bo l.length bc) (.slice co L.length cc)).setCell ⟨w.heap.size + 1, 0, none⟩ (.bool true)) w.heap.size l L (.slice ao l.length ac) (.slice bo l.length bc) (.slice co L.length cc)) := (hF6.put3 _ _ _ hL6).put hE7 (.inr (.inl rfl)) _ _
      obtain ⟨⟨x0, x1, x2⟩, f0, f1, f2⟩ := three_of hL6
      obtain ⟨e0, e1⟩ := one_frozen hE7
      clear g5 hF6 hB6 HF5 HL5 HE5 HB5 HR5 hE7
      unfold put3 at *
      go_wp2
      generalize (((w6.setCell ⟨w.heap.size, 0, none⟩ (.slice ao l.length ac)).setCell ⟨w.heap.size, 1, none⟩ (.slice bo l.length bc)).setCell ⟨w.heap.size, 2, none⟩ (.slice co L.length cc)).setCell ⟨w.heap.size + 1, 0, none⟩ (.bool true) = Wf at *
      refine leaves_cons (f := 132) (args := #[.pointer (some ⟨w.heap.size, 0, none⟩), .pointer (some ⟨w.heap.size + 1, 0, none⟩)]) (by simp) (by simp [go_sem]) ?_
      refine (catchF_idle ⟨w.heap.size, 0, none⟩ ⟨w.heap.size + 1, 0, none⟩ _).mono ?_
      rintro e u' w'' ⟨rfl, rfl, rfl⟩
      simp [Leaves, settle, results, Try.results97, go_sem, g1, g2, g3, g4]
      exact ⟨HB7.out, .inl ⟨l, bs, L, _, _, _, rfl, HFO.out, HLL.out, HEQ.out, HZ.out, HF7.out, HUN.out⟩⟩
  · have hL4 : w4.heap[w.heap.size]? = some (.cells #[.slice none 0 0, .slice none 0 0, .slice none 0 0] 110 (0, 0)) := Kp.block hK4 hL (by omega)
    have hE4 : w4.heap[w.heap.size + 1]? = some (.cells #[.bool false] 4 (0, 0)) := Kp.block hK4 hE (by omega)
    have hB4 : Below w.heap.size w w4 := hB.trans ((hK4.below (by omega)).mono (by omega))
    have HNO : Hid (∀ l bs, FOk l bs → bytesOf s = ftB l bs → bytesOf z ≠ bodyB bs) := fun l' bs' h1 h2 => hN l' bs' h1 (starts_of_eq h2.symm)
    clear hL hE hR hS hB hK4 hN
    clear W3
    obtain ⟨⟨f1, f2, f3⟩, f4, f5⟩ := wholeF_end (.slice none 0 0) (.slice none 0 0) (.slice none 0 0) (.bool false) (w4 := w4.alloc (.cells noFile 110)) (by rw [Below.heap_alloc _ _ _ (lt_of_block hL4)]; exact hL4) (by rw [Below.heap_alloc _ _ _ (lt_of_block hE4)]; exact hE4) (hB4.alloc (by have := lt_of_block hL4; omega) _)
    refine leaves_cons (f := 132) (args := #[.pointer (some ⟨w.heap.size, 0, none⟩), .pointer (some ⟨w.heap.size + 1, 0, none⟩)]) (by simp) (by simp [go_sem]) ?_
    refine (catchF_at _ hL4 hE4).mono ?_
    rintro e u' w'' ⟨rfl, rfl, rfl⟩
    simp [Leaves, settle, results, Try.results97, go_sem, f1, f2, f3, f4]
    exact ⟨f5, .inr ⟨rfl, HNO.out⟩⟩
end Go.Proofs.Ytjidbonhhpkljaa.Ec

/- Part and Columns: the program's side. -/
set_option linter.unusedVariables false
set_option linter.unusedSimpArgs false
namespace Go.Proofs.Ytjidbonhhpkljaa.Ec
open Go.RowKit Go.Proofs.Ytjidbonhhpkljaa.Pk Go.Proofs.Ytjidbonhhpkljaa.Pm
/-- What Part answers. -/
def RPart (w : World) (s : ByteArray) (e : Ending) (w' : World) : Prop :=
  Below w.heap.size w w' ∧ ((∃ (l : List (Col × Int)) (bs : List Bd) (L : List (Bd × Value)) (a b c : Value), e = .returned (.tuple #[.agg #[a, b, c], .bool true]) ∧ IsFile s l bs ∧ L.map Prod.fst = bs ∧ FileAt w' w.heap.size l L a b c ∧ (∀ l' bs', IsFile s l' bs' → l' = l ∧ bs' = bs)) ∨
    (e = .returned (.tuple #[.agg #[.slice none 0 0, .slice none 0 0, .slice none 0 0], .bool false]) ∧ ∀ l bs, ¬ IsFile s l bs))

set_option maxRecDepth 100000 in
set_option maxHeartbeats 4000000 in
theorem lPart_any (s : ByteArray) (w : World) (hm : s.size ≤ maxLen) :
    Calls Try.prog 64 #[.string s] w (RPart w s) := by
  have HX : Hid ((w.alloc (.cells #[.slice none 0 0, .slice none 0 0, .slice none 0 0] 110)).heap[w.heap.size]? = some (.cells #[.slice none 0 0, .slice none 0 0, .slice none 0 0] 110 (0, 0))) := alloc_at w _
  have HB : Hid (Below w.heap.size w (w.alloc (.cells #[.slice none 0 0, .slice none 0 0, .slice none 0 0] 110))) := (Below.refl _ _).alloc (Nat.le_refl _) _
  have hmf : ∀ (fn : Fn) (first cap : Array Value) (w : World), (Instr.makeFunc fn first cap).run Try.prog w = .ok (.func fn first cap) w := fun _ _ _ _ => rfl
  go_enter Try.func64, Try.ntmps64
  go_wp2_with fail
  refine (cut_any s _ hm).mono ?_
  rintro e w1 ⟨hc, hb1⟩
  have HX1 : Hid (w1.heap[w.heap.size]? = some (.cells #[.slice none 0 0, .slice none 0 0, .slice none 0 0] 110 (0, 0))) := (hb1.block _ (lt_of_block HX.out)).trans HX.out
  have HB1 : Hid (Below w.heap.size w w1) := HB.out.trans (hb1.mono (by simp))
  have hlt : w.heap.size < w1.heap.size := lt_of_block HX1.out
  clear HX HB hb1
  rcases hc with ⟨C, F, rfl, hcut⟩ | ⟨rfl, hno⟩
  rotate_left
  · have HNO : Hid (∀ l bs, ¬ IsFile s l bs) := fun l bs h => hno _ _ h.2
    have hX2 : (w1.alloc (.cells #[.string ⟨#[]⟩] 9)).heap[w.heap.size]? = some (.cells #[.slice none 0 0, .slice none 0 0, .slice none 0 0] 110 (0, 0)) := by rw [Below.heap_alloc _ _ _ hlt]; exact HX1.out
    have hB2 : Below w.heap.size w (w1.alloc (.cells #[.string ⟨#[]⟩] 9)) := HB1.out.alloc (by omega) _
    clear hno
    go_upto_region 2 with fail
    generalize w1.alloc (.cells #[.string ⟨#[]⟩] 9) = W2 at *
    have HB3 : Hid (Below w.heap.size w (put3 W2 w.heap.size (.slice none 0 0) (.slice none 0 0) (.slice none 0 0))) := put3_below _ _ _ hB2 (Nat.le_refl _) (Nat.le_refl _)
    obtain ⟨⟨x0, x1, x2⟩, f0, f1, f2⟩ := three_of hX2
    obtain ⟨⟨y0, y1, y2⟩, -⟩ := three_of (put3_at (.slice none 0 0) (.slice none 0 0) (.slice none 0 0) hX2)
    clear hX2 hB2
    unfold put3 at *
    go_wp2
    simp [bodyPost, results, Try.results64, go_sem, y0, y1, y2]
    exact ⟨HB3.out, .inr ⟨rfl, HNO.out⟩⟩
  · have HC : Hid (Cut s (bytesOf C) (bytesOf F)) := hcut
    have hlen := hcut.len
    have hs6 := hcut.1
    rw [bytesOf_length, bytesOf_length] at hlen
    have hX2 : (w1.alloc (.cells #[.string C] 9)).heap[w.heap.size]? = some (.cells #[.slice none 0 0, .slice none 0 0, .slice none 0 0] 110 (0, 0)) := by rw [Below.heap_alloc _ _ _ hlt]; exact HX1.out
    have hB2 : Below w.heap.size w (w1.alloc (.cells #[.string C] 9)) := HB1.out.alloc (by omega) _
    have hCB : (w1.alloc (.cells #[.string C] 9)).heap[w1.heap.size]? = some (.cells #[.string C] 9 (0, 0)) := alloc_at w1 _
    have hz2 : w.heap.size ≤ (w1.alloc (.cells #[.string C] 9)).heap.size := hB2.size
    have hF6 : F.size ≤ 65536 := by omega
    have hC6 : C.size ≤ 65536 := by omega
    clear hcut hlen hs6
    go_upto_region 2 with fail
    generalize w1.alloc (.cells #[.string C] 9) = W2 at *
    generalize w1.heap.size = cb at *
    have HX2 : Hid (W2.heap[w.heap.size]? = some (.cells #[.slice none 0 0, .slice none 0 0, .slice none 0 0] 110 (0, 0))) := hX2
    have HB2 : Hid (Below w.heap.size w W2) := hB2
    have HCB : Hid (W2.heap[cb]? = some (.cells #[.string C] 9 (0, 0))) := hCB
    clear hX2 hB2 hCB HX1 HB1
    go_wp2_with fail
    refine (wholeF_any cb F C W2 hF6 hC6 HCB.out).mono ?_
    rintro e w3 ⟨hb3, ⟨l, bs, L, a, b, c, rfl, hf, hL, he1, he2, hF, hun⟩ | ⟨rfl, hno⟩⟩
    · have hX3 : w3.heap[w.heap.size]? = some (.cells #[.slice none 0 0, .slice none 0 0, .slice none 0 0] 110 (0, 0)) := (hb3.block _ (lt_of_block HX2.out)).trans HX2.out
      have hB3 : Below w.heap.size w w3 := HB2.out.trans (hb3.mono hz2)
      have hF3 : FileAt w3 w.heap.size l L a b c := hF.base hz2
      obtain ⟨ao, ac, bo, bc, co, cc, rfl, rfl, rfl⟩ := hF3.forms
      have HF4 : Hid (FileAt (put3 w3 w.heap.size (.slice ao l.length ac) (.slice bo l.length bc) (.slice co L.length cc)) w.heap.size l L (.slice ao l.length ac) (.slice bo l.length bc) (.slice co L.length cc)) := hF3.put3 _ _ _ hX3
      have HB4 : Hid (Below w.heap.size w (put3 w3 w.heap.size (.slice ao l.length ac) (.slice bo l.length bc) (.slice co L.length cc))) := put3_below _ _ _ hB3 (Nat.le_refl _) (Nat.le_refl _)
      have HIS : Hid (IsFile s l bs) := ⟨hf, by rw [← he1, ← he2]; exact HC.out⟩
      have HUN : Hid (∀ l' bs', IsFile s l' bs' → l' = l ∧ bs' = bs) := fun l' bs' h => by
        obtain ⟨g1, g2⟩ := HC.out.uni h.2
        exact hun l' bs' h.1 g2 g1
      have HL : Hid (L.map Prod.fst = bs) := hL
      obtain ⟨⟨x0, x1, x2⟩, f0, f1, f2⟩ := three_of hX3
      obtain ⟨⟨y0, y1, y2⟩, -⟩ := three_of (put3_at (.slice ao l.length ac) (.slice bo l.length bc) (.slice co L.length cc) hX3)
      clear hX3 hB3 hF3 hF hf he1 he2 hun hb3 hL
      unfold put3 at *
      go_wp2
      simp [bodyPost, results, Try.results64, go_sem, y0, y1, y2]
      exact ⟨HB4.out, .inl ⟨l, bs, L, _, _, _, rfl, HIS.out, HL.out, HF4.out, HUN.out⟩⟩
    · have hX3 : w3.heap[w.heap.size]? = some (.cells #[.slice none 0 0, .slice none 0 0, .slice none 0 0] 110 (0, 0)) := (hb3.block _ (lt_of_block HX2.out)).trans HX2.out
      have hB3 : Below w.heap.size w w3 := HB2.out.trans (hb3.mono hz2)
      have HB4 : Hid (Below w.heap.size w (put3 w3 w.heap.size (.slice none 0 0) (.slice none 0 0) (.slice none 0 0))) := put3_below _ _ _ hB3 (Nat.le_refl _) (Nat.le_refl _)
      have HNO : Hid (∀ l bs, ¬ IsFile s l bs) := fun l bs h => by
        obtain ⟨g1, g2⟩ := HC.out.uni h.2
        exact hno l bs h.1 g2 g1
      obtain ⟨⟨x0, x1, x2⟩, f0, f1, f2⟩ := three_of hX3
      obtain ⟨⟨y0, y1, y2⟩, -⟩ := three_of (put3_at (.slice none 0 0) (.slice none 0 0) (.slice none 0 0) hX3)
      clear hX3 hB3 hno hb3
      unfold put3 at *
      go_wp2
      simp [bodyPost, results, Try.results64, go_sem, y0, y1, y2]
      exact ⟨HB4.out, .inr ⟨rfl, HNO.out⟩⟩

set_option maxRecDepth 100000 in
set_option maxHeartbeats 4000000 in
theorem sColumns_any (s : ByteArray) (w : World) (hm : s.size ≤ maxLen) :
    Calls Try.prog 30 #[.string s] w fun e w' => Below w.heap.size w w' ∧ ∃ (cs : List Col) (n m : Nat) (cv : Value), e = .returned (.tuple #[cv, .int .i64 (n : Int), .int .i64 (m : Int)]) ∧ CRes s cs n m ∧ w'.ownsRow w.heap.size 104 2 cv cs.length (ccells cs) ∧ (m ≠ 0 → cv = .slice none 0 0) := by
  go_enter Try.func30, Try.ntmps30
  go_wp2_with fail
  refine (lPart_any s _ hm).mono ?_
  rintro e w1 ⟨hb1, ⟨l, bs, L, a, b, c, rfl, his, hL, hF, hun⟩ | ⟨rfl, hno⟩⟩
  rotate_left
  · have HB : Hid (Below w.heap.size w (w1.alloc (.cells #[.slice none 0 0, .slice none 0 0, .slice none 0 0] 110))) := hb1.alloc hb1.size _
    have HNO : Hid (∀ l bs, ¬ IsFile s l bs) := hno
    clear hb1 hno
    go_wp2
    simp [bodyPost, results, Try.results30, go_sem]
    exact ⟨HB.out, [], 0, 3, _, ⟨rfl, rfl, rfl⟩, .inr ⟨HNO.out, rfl, rfl, rfl⟩, World.ownsRow_nil _ _ _ _, fun _ => rfl⟩
  · obtain ⟨ao, ac, bo, bc, co, cc, rfl, rfl, rfl⟩ := hF.forms
    have HB : Hid (Below w.heap.size w (w1.alloc (.cells #[.slice ao l.length ac, .slice bo l.length bc, .slice co L.length cc] 110))) := hb1.alloc hb1.size _
    have hbx := alloc_at w1 (.cells #[.slice ao l.length ac, .slice bo l.length bc, .slice co L.length cc] 110)
    have HF : Hid (FileAt (w1.alloc (.cells #[.slice ao l.length ac, .slice bo l.length bc, .slice co L.length cc] 110)) w.heap.size l L (.slice ao l.length ac) (.slice bo l.length bc) (.slice co L.length cc)) := hF.below ((Below.refl _ _).alloc (Nat.le_refl _) _)
    obtain ⟨⟨x0, x1, x2⟩, -⟩ := three_of hbx
    have HCR : Hid (CRes s (l.map Prod.fst) (rowsN bs) 0) := .inl ⟨l, bs, his, rfl, rfl, rfl, fun l' bs' h => ⟨(hun l' bs' h).1, by rw [(hun l' bs' h).2]⟩⟩
    have HL : Hid (L.map Prod.fst = bs) := hL
    have h3 := rowsN_ge bs (fun b hb => (his.1.bands b hb).lo)
    have h4 := his.1.rows
    have hLn : L.length ≤ 65536 := by rw [← List.length_map (f := Prod.fst), hL]; omega
    have hr1 : ∀ b ∈ L.map Prod.fst, b.rows ≤ 100 := by rw [hL]; exact fun b hb => (his.1.bands b hb).hi
    clear hb1 hF his hun hbx h3 h4 hL
    go_upto_region 4 with fail
    have HRW : Hid (Calls Try.prog 65 #[.agg #[.slice ao l.length ac, .slice bo l.length bc, .slice co L.length cc]] (w1.alloc (.cells #[.slice ao l.length ac, .slice bo l.length bc, .slice co L.length cc] 110)).drew fun e w' => e = .returned (.int .i64 (rowsN (L.map Prod.fst) : Int)) ∧ Below (w1.alloc (.cells #[.slice ao l.length ac, .slice bo l.length bc, .slice co L.length cc] 110)).drew.heap.size (w1.alloc (.cells #[.slice ao l.length ac, .slice bo l.length bc, .slice co L.length cc] 110)).drew w') := fRows_any ao bo _ _ _ _ w.heap.size _ L _ (HF.out.bands.below ((Below.refl _ _).drew)) hLn hr1
    have HGL : w1.heap.size < (w1.alloc (.cells #[.slice ao l.length ac, .slice bo l.length bc, .slice co L.length cc] 110)).heap.size := by simp
    generalize w1.alloc (.cells #[.slice ao l.length ac, .slice bo l.length bc, .slice co L.length cc] 110) = W2 at *
    generalize w1.heap.size = g at *
    have hgl : g < W2.heap.size := HGL
    refine Un.begin_ (fun W => W.cell? ⟨g, 0, none⟩ = some (.slice ao l.length ac) ∧ W.cell? ⟨g, 1, none⟩ = some (.slice bo l.length bc) ∧ W.cell? ⟨g, 2, none⟩ = some (.slice co L.length cc)) 6 (by kernel_rfl) ?_
    have hHeld : (fun W => W.cell? ⟨g, 0, none⟩ = some (.slice ao l.length ac) ∧ W.cell? ⟨g, 1, none⟩ = some (.slice bo l.length bc) ∧ W.cell? ⟨g, 2, none⟩ = some (.slice co L.length cc)) W2.drew := ⟨x0, x1, x2⟩
    refine Un.pick (i := 0) (v := ?_) rfl (by kernel_rfl) (by kernel_rfl) (by kernel_rfl) (by kernel_rfl) (fun _ _ _ h => h) (Or.inl ⟨by rfl, ?_⟩) (by assumption) ?_
    rotate_left
    · intro w _; go_simp
      try with_reducible rfl
    try simp only [Act.put, List.setIfInBounds_toArray, List.set_cons_zero, List.set_cons_succ]
    refine Un.take (i := 1) (v := ?_) rfl (by kernel_rfl) (by kernel_rfl) (by kernel_rfl) (by kernel_rfl) (by kernel_rfl) (by kernel_rfl) (fun _ _ _ h => h) (Or.inl ⟨by rfl, ?_⟩) (by assumption) ?_
    rotate_left
    · intro w hSw; (try dsimp only at hSw); go_simp
      try with_reducible rfl
    try simp only [Act.put, List.setIfInBounds_toArray, List.set_cons_zero, List.set_cons_succ]
    refine Un.take (i := 2) (v := ?_) rfl (by kernel_rfl) (by kernel_rfl) (by kernel_rfl) (by kernel_rfl) (by kernel_rfl) (by kernel_rfl) (fun _ _ _ h => h) (Or.inl ⟨by rfl, ?_⟩) (by assumption) ?_
    rotate_left
    · intro w hSw; (try dsimp only at hSw); go_simp
      try with_reducible rfl
    try simp only [Act.put, List.setIfInBounds_toArray, List.set_cons_zero, List.set_cons_succ]
    refine Un.one (i := 3) (by kernel_rfl) rfl (fun K hK => ?_)
    rw [if_pos (by rfl)]
    go_simp
    go_at_call 65
    refine HRW.out.mono ?_
    rintro e w3 ⟨rfl, hb3⟩
    have hb4 : Below W2.heap.size W2 w3 := (Below.refl W2.heap.size W2).drew.trans hb3
    have HB3 : Hid (Below w.heap.size w w3) := HB.out.trans (hb4.mono HB.out.size)
    have HF3 : Hid (FileAt w3 w.heap.size l L (.slice ao l.length ac) (.slice bo l.length bc) (.slice co L.length cc)) := HF.out.below hb4
    have y0 := (hb4.cell (p := ⟨g, 0, none⟩) hgl).trans x0
    have y1 := (hb4.cell (p := ⟨g, 1, none⟩) hgl).trans x1
    have y2 := (hb4.cell (p := ⟨g, 2, none⟩) hgl).trans x2
    refine hK.out _ _ (fun _ => ⟨y0, y1, y2⟩) ?_
    clear hK K hHeld hb3 hb4 HRW HB HF x0 x1 x2
    try simp only [Act.put, List.setIfInBounds_toArray, List.set_cons_zero, List.set_cons_succ]
    have hHeld : (fun W => W.cell? ⟨g, 0, none⟩ = some (.slice ao l.length ac) ∧ W.cell? ⟨g, 1, none⟩ = some (.slice bo l.length bc) ∧ W.cell? ⟨g, 2, none⟩ = some (.slice co L.length cc)) w3 := ⟨y0, y1, y2⟩
    refine Un.pick (i := 4) (v := ?_) rfl (by kernel_rfl) (by kernel_rfl) (by kernel_rfl) (by kernel_rfl) (fun _ _ _ h => h) (Or.inl ⟨by rfl, ?_⟩) (by assumption) ?_
    rotate_left
    · intro w _; go_simp
      try with_reducible rfl
    try simp only [Act.put, List.setIfInBounds_toArray, List.set_cons_zero, List.set_cons_succ]
    refine Un.pick (i := 5) (v := ?_) rfl (by kernel_rfl) (by kernel_rfl) (by kernel_rfl) (by kernel_rfl) (fun _ _ _ h => h) (Or.inl ⟨by rfl, ?_⟩) (by assumption) ?_
    rotate_left
    · intro w _; go_simp
      try with_reducible rfl
    try simp only [Act.put, List.setIfInBounds_toArray, List.set_cons_zero, List.set_cons_succ]
    refine Un.one (i := 6) (by kernel_rfl) rfl (fun K hK => ?_)
    rw [if_pos (by rfl)]
    go_simp
    refine hK.out _ _ (fun h => absurd h (by decide)) ?_
    clear hK K
    try simp only [Act.put, List.setIfInBounds_toArray, List.set_cons_zero, List.set_cons_succ]
    clear hHeld y0 y1 y2
    refine Un.done (by kernel_rfl) ?_ _
    try simp only [Act.put, List.setIfInBounds_toArray, List.set_cons_zero, List.set_cons_succ]
    go_wp2
    simp [bodyPost, results, Try.results30, go_sem]
    exact ⟨HB3.out, l.map Prod.fst, rowsN bs, 0, _, ⟨rfl, by rw [HL.out], rfl⟩, HCR.out, by rw [List.length_map]; exact HF3.out.cols, fun h => absurd rfl h⟩
end Go.Proofs.Ytjidbonhhpkljaa.Ec

/- The document's file, as it is parsed: the sizes of the chunks stand for the chunks. -/
set_option linter.unusedVariables false
namespace Go.Proofs.Ytjidbonhhpkljaa.Ec
open Go.RowKit Go.Proofs.Ytjidbonhhpkljaa.Pk Go.Proofs.Ytjidbonhhpkljaa.Pm
structure PtOk (cs : List Col) (i : Nat) (p : Prt) : Prop where
  n : p.size ≤ 65536
  b : BOk (cs.getD i ⟨⟨#[]⟩, 0⟩).kind p.bnd
  t : p.text = ⟨#[]⟩
structure RGood (cs : List Col) (b : RBd) : Prop where
  lo : 1 ≤ b.rows
  hi : b.rows ≤ 100
  len : b.parts.length = cs.length
  each : AllI (PtOk cs) b.parts
def rowsR (rs : List RBd) : Nat := (rs.map fun b => b.rows).sum
theorem rowsR_snoc (rs : List RBd) (b : RBd) : rowsR (rs ++ [b]) = rowsR rs + b.rows := by simp [rowsR]
structure ROk (l : List (Col × Int)) (rs : List RBd) : Prop where
  pl : PlOk l
  bands : ∀ b ∈ rs, RGood (l.map Prod.fst) b
  rows : rowsR rs ≤ 2000
/-- A chunk's place in the footer, without its bytes. -/
def toC (c : Chk) : Prt := ⟨c.text.size, c.bnd, ⟨#[]⟩⟩
def toS (b : Bd) : RBd := ⟨b.rows, b.chunks.map toC⟩
theorem rowsR_toS (bs : List Bd) : rowsR (bs.map toS) = rowsN bs := by simp [rowsR, rowsN, toS, List.map_map, Function.comp_def]
theorem prtB_toC (cs : List Col) (l : List Chk) (i : Nat) (h : i < l.length) : prtB cs (l.map toC) i = partB cs l i := by
  unfold prtB partB
  have h1 : (l.map toC).getD i noPrt = toC l[i] := by rw [List.getD_eq_getElem?_getD, List.getElem?_eq_getElem (by simpa using h)]; simp
  have h2 : l.getD i ⟨⟨#[]⟩, noBnd⟩ = l[i] := by rw [List.getD_eq_getElem?_getD, List.getElem?_eq_getElem h]; rfl
  rw [h1, h2]
  rfl
theorem rbandB_toS (cs : List Col) (b : Bd) : rbandB cs (toS b) = bandB cs b := by
  unfold rbandB bandB
  show vint b.rows ++ prtsB cs (b.chunks.map toC) (b.chunks.map toC).length = _
  rw [List.length_map]
  congr 1
  exact flatMap_congr' (fun i hi => prtB_toC cs b.chunks i (List.mem_range.1 hi))
theorem ftR_toS (l : List (Col × Int)) (bs : List Bd) : ftR l (bs.map toS) = ftB l bs := by
  unfold ftR ftB
  rw [List.length_map]
  congr 2
  unfold rbandsB bandsB
  rw [List.flatMap_map]
  exact flatMap_congr' (fun b _ => rbandB_toS _ b)
/-- How many bytes the chunks have. -/
def szs (ps : List Prt) : Nat := (ps.map fun p => p.size).sum
def tot (rs : List RBd) : Nat := (rs.map fun b => szs b.parts).sum
theorem szs_toC (l : List Chk) : szs (l.map toC) = (textB l).length := by
  induction l with
  | nil => rfl
  | cons c r ih =>
    have : textB (c :: r) = bytesOf c.text ++ textB r := by simp [textB]
    rw [this, List.length_append, bytesOf_length, ← ih]
    simp [szs, toC]
theorem tot_toS (bs : List Bd) : tot (bs.map toS) = (bodyB bs).length := by
  induction bs with
  | nil => rfl
  | cons b r ih =>
    have : bodyB (b :: r) = textB b.chunks ++ bodyB r := by simp [bodyB]
    rw [this, List.length_append, ← ih, ← szs_toC]
    simp [tot, toS]
theorem text_le {l : List Chk} {c : Chk} (h : c ∈ l) : c.text.size ≤ (textB l).length := by
  induction l with
  | nil => simp at h
  | cons d r ih =>
    have : textB (d :: r) = bytesOf d.text ++ textB r := by simp [textB]
    rw [this, List.length_append, bytesOf_length]
    rcases List.mem_cons.1 h with rfl | h
    · omega
    · have := ih h; omega
theorem body_le {bs : List Bd} {b : Bd} (h : b ∈ bs) : (textB b.chunks).length ≤ (bodyB bs).length := by
  induction bs with
  | nil => simp at h
  | cons d r ih =>
    have : bodyB (d :: r) = textB d.chunks ++ bodyB r := by simp [bodyB]
    rw [this, List.length_append]
    rcases List.mem_cons.1 h with rfl | h
    · omega
    · have := ih h; omega
theorem rok_of_fok {l : List (Col × Int)} {bs : List Bd} (h : FOk l bs) (hb : (bodyB bs).length ≤ 65536) : ROk l (bs.map toS) := by
  refine ⟨h.pl, fun b hb' => ?_, by rw [rowsR_toS]; exact h.rows⟩
  obtain ⟨d, hd, rfl⟩ := List.mem_map.1 hb'
  have g := h.bands d hd
  refine ⟨g.lo, g.hi, by show (d.chunks.map toC).length = _; rw [List.length_map]; exact g.len, ?_⟩
  intro i hi
  have hi2 : i < d.chunks.length := by have : i < (d.chunks.map toC).length := hi; simpa using this
  have e : (toS d).parts[i] = toC d.chunks[i] := by simp [toS]
  rw [e]
  have hk := g.each i hi2
  refine ⟨?_, hk.b, rfl⟩
  show d.chunks[i].text.size ≤ 65536
  have h1 := text_le (List.getElem_mem hi2)
  have h2 := body_le hd
  omega
/-- Chunks out of their sizes. -/
def fillP (z : ByteArray) : Nat → List Prt → List Chk
  | _, [] => []
  | t, p :: r => ⟨z.extract t (t + p.size), p.bnd⟩ :: fillP z (t + p.size) r
def fillB (z : ByteArray) : Nat → List RBd → List Bd
  | _, [] => []
  | t, b :: r => ⟨b.rows, fillP z t b.parts⟩ :: fillB z (t + szs b.parts) r
theorem fillP_toC {z : ByteArray} : ∀ (ps : List Prt) (t : Nat), t + szs ps ≤ z.size → (∀ p ∈ ps, p.text = ⟨#[]⟩) → (fillP z t ps).map toC = ps
  | [], _, _, _ => rfl
  | p :: r, t, h, hp => by
    have h1 : szs (p :: r) = p.size + szs r := by simp [szs]
    rw [fillP, List.map_cons, fillP_toC r (t + p.size) (by omega) (fun x hx => hp x (by simp [hx]))]
    have h2 := hp p (by simp)
    obtain ⟨a, b, c⟩ := p
    simp only at h2
    subst h2
    simp only [toC]
    rw [show (z.extract t (t + a)).size = a by rw [ByteArray.size_extract]; simp at h1; omega]
theorem fillB_toS {z : ByteArray} : ∀ (rs : List RBd) (t : Nat), t + tot rs ≤ z.size → (∀ b ∈ rs, ∀ p ∈ b.parts, p.text = ⟨#[]⟩) → (fillB z t rs).map toS = rs
  | [], _, _, _ => rfl
  | b :: r, t, h, hp => by
    have h1 : tot (b :: r) = szs b.parts + tot r := by simp [tot]
    rw [fillB, List.map_cons, fillB_toS r (t + szs b.parts) (by omega) (fun x hx => hp x (by simp [hx]))]
    unfold toS
    simp only
    rw [fillP_toC b.parts t (by omega) (hp b (by simp))]
theorem take_drop_add (B : List Nat) (t a b : Nat) : (B.drop t).take (a + b) = (B.drop t).take a ++ (B.drop (t + a)).take b := by
  rw [List.take_add, List.drop_drop]
theorem textB_fill {z : ByteArray} : ∀ (ps : List Prt) (t : Nat), textB (fillP z t ps) = ((bytesOf z).drop t).take (szs ps)
  | [], _ => by simp [fillP, textB, szs]
  | p :: r, t => by
    have h1 : szs (p :: r) = p.size + szs r := by simp [szs]
    have h2 : ∀ (c : Chk) (m : List Chk), textB (c :: m) = bytesOf c.text ++ textB m := by simp [textB]
    rw [fillP, h2, textB_fill r, h1, take_drop_add]
    show bytesOf (z.extract t (t + p.size)) ++ _ = _
    rw [bytesOf_extract, show t + p.size - t = p.size by omega]
theorem bodyB_fill {z : ByteArray} : ∀ (rs : List RBd) (t : Nat), bodyB (fillB z t rs) = ((bytesOf z).drop t).take (tot rs)
  | [], _ => by simp [fillB, bodyB, tot]
  | b :: r, t => by
    have h1 : tot (b :: r) = szs b.parts + tot r := by simp [tot]
    have h2 : ∀ (c : Bd) (m : List Bd), bodyB (c :: m) = textB c.chunks ++ bodyB m := by simp [bodyB]
    rw [fillB, h2, bodyB_fill r, h1, take_drop_add]
    show textB (fillP z t b.parts) ++ _ = _
    rw [textB_fill]
theorem fok_of_rok {l : List (Col × Int)} {bs : List Bd} (h : ROk l (bs.map toS)) : FOk l bs := by
  refine ⟨h.pl, fun b hb => ?_, by have := h.rows; rwa [rowsR_toS] at this⟩
  have g := h.bands (toS b) (List.mem_map.2 ⟨b, hb, rfl⟩)
  have hl : b.chunks.length = (toS b).parts.length := by simp [toS]
  refine ⟨g.lo, g.hi, by rw [hl]; exact g.len, fun i hi => ?_⟩
  have hk := g.each i (by rw [← hl]; exact hi)
  have e : (toS b).parts[i]'(by rw [← hl]; exact hi) = toC b.chunks[i] := by simp [toS]
  rw [e] at hk
  exact ⟨by have h1 : b.chunks[i].text.size ≤ 65536 := hk.n; omega, hk.b⟩
/-- What the document's answer rests on. -/
structure Psd (F : List Nat) (l : List (Col × Int)) (rs : List RBd) : Prop where
  ok : ROk l rs
  eq : F = ftR l rs
  uni : ∀ l' rs', ROk l' rs' → F = ftR l' rs' → l' = l ∧ rs' = rs
theorem file_in {s C F : ByteArray} {l : List (Col × Int)} {rs : List RBd} (hc : Cut s (bytesOf C) (bytesOf F)) (hp : Psd (bytesOf F) l rs) {l' : List (Col × Int)} {bs' : List Bd} (h : IsFile s l' bs') : l' = l ∧ bs'.map toS = rs ∧ tot rs = C.size := by
  obtain ⟨e1, e2⟩ := hc.uni h.2
  have hlen := h.2.len
  have hsz := h.2.1
  obtain ⟨a1, a2⟩ := hp.uni l' (bs'.map toS) (rok_of_fok h.1 (by omega)) (by rw [ftR_toS]; exact e2)
  refine ⟨a1, a2, ?_⟩
  rw [← a2, tot_toS, ← e1, bytesOf_length]
theorem file_yes {s C F : ByteArray} {l : List (Col × Int)} {rs : List RBd} (hc : Cut s (bytesOf C) (bytesOf F)) (hp : Psd (bytesOf F) l rs) (ht : tot rs = C.size) : CRes s (l.map Prod.fst) (rowsR rs) 0 := by
  have hb := bodyB_fill (z := C) rs 0
  have hs := fillB_toS (z := C) rs 0 (by omega) (fun b hb p hpp => by
    obtain ⟨i, hi, rfl⟩ := List.getElem_of_mem hpp
    exact ((hp.ok.bands b hb).each i hi).t)
  have hbe : bodyB (fillB C 0 rs) = bytesOf C := by
    rw [hb, List.drop_zero, ht, ← bytesOf_length C, List.take_length]
  have hok : ROk l ((fillB C 0 rs).map toS) := by rw [hs]; exact hp.ok
  refine .inl ⟨l, fillB C 0 rs, ⟨fok_of_rok hok, ?_⟩, rfl, ?_, rfl, fun l' bs' h' => ?_⟩
  · rw [hbe, ← ftR_toS, hs, ← hp.eq]
    exact hc
  · rw [← rowsR_toS, hs]
  · obtain ⟨a1, a2, -⟩ := file_in hc hp h'
    exact ⟨a1, by rw [← rowsR_toS, a2, ← rowsR_toS, hs]⟩
theorem file_no {s C F : ByteArray} {l : List (Col × Int)} {rs : List RBd} (hc : Cut s (bytesOf C) (bytesOf F)) (hp : Psd (bytesOf F) l rs) (ht : tot rs ≠ C.size) : CRes s [] 0 3 :=
  .inr ⟨fun l' bs' h' => ht (file_in hc hp h').2.2, rfl, rfl, rfl⟩
theorem file_none {s C F : ByteArray} (hc : Cut s (bytesOf C) (bytesOf F)) (hn : ∀ l rs, ROk l rs → bytesOf F ≠ ftR l rs) : CRes s [] 0 3 := by
  refine .inr ⟨fun l' bs' h' => ?_, rfl, rfl, rfl⟩
  obtain ⟨e1, e2⟩ := hc.uni h'.2
  have hlen := h'.2.len
  have hsz := h'.2.1
  exact hn l' (bs'.map toS) (rok_of_fok h'.1 (by omega)) (by rw [ftR_toS]; exact e2)
theorem file_uncut {s : ByteArray} (hn : ∀ C F, ¬ Cut s C F) : CRes s [] 0 3 := .inr ⟨fun l' bs' h' => hn _ _ h'.2, rfl, rfl, rfl⟩
end Go.Proofs.Ytjidbonhhpkljaa.Ec

/- The document's reader of footers: what it stands on, and where parsed stands. -/
set_option linter.unusedVariables false
namespace Go.Proofs.Ytjidbonhhpkljaa.Ec
open Go.RowKit Go.Proofs.Ytjidbonhhpkljaa.Pk Go.Proofs.Ytjidbonhhpkljaa.Pm
theorem rtakeS_any (r p c : Nat) (bad : Bool) (s : ByteArray) (w : World) (hc : c ≤ 100000) (hm : s.size ≤ maxLen) (hp : p ≤ s.size) (h : w.heap[r]? = some (rb s p bad)) :
    Calls Try.prog 126 #[.pointer (some ⟨r, 0, none⟩), .int .i64 (c : Int)] w fun e w' => Kp r w w' ∧ ∃ (t : ByteArray) (q : Nat) (b : Bool), e = .returned (.string t) ∧ t.size ≤ c ∧ q ≤ s.size ∧ w'.heap[r]? = some (rb s q b) ∧
      (∀ x : ByteArray, x.size = c → Starts (bytesOf s) p (bytesOf x) → t = x ∧ q = p + c ∧ b = bad) ∧ (bad = true → b = true) := by
  by_cases hin : p + c ≤ s.size
  · refine (rtake_ok r p c bad s w hm hin h).mono ?_
    rintro e w' ⟨hK, rfl, hR⟩
    refine ⟨hK, _, p + c, bad, rfl, by rw [ByteArray.size_extract]; omega, hin, hR, fun x hx hs => ⟨?_, rfl, rfl⟩, id⟩
    apply bytesOf_inj
    rw [bytesOf_extract, show p + c - p = c by omega]
    refine starts_same (B := bytesOf s) (p := p) (List.take_prefix _ _) hs ?_
    rw [List.length_take, List.length_drop, bytesOf_length, bytesOf_length]
    omega
  · refine (rtake_bad r p (c : Int) bad s w hm (by omega) (by omega) hp (.inr (by omega)) h).mono ?_
    rintro e w' ⟨hK, rfl, hR⟩
    refine ⟨hK, _, p, true, rfl, by show (⟨#[]⟩ : ByteArray).size ≤ c; exact Nat.zero_le _, hp, hR, fun x hx hs => ?_, fun _ => rfl⟩
    have := starts_len hs (by rw [bytesOf_length]; exact hp)
    rw [bytesOf_length, bytesOf_length] at this
    omega
theorem rbyteS_any (r p : Nat) (bad : Bool) (s : ByteArray) (w : World) (hm : s.size ≤ maxLen) (hp : p ≤ s.size) (h : w.heap[r]? = some (rb s p bad)) :
    Calls Try.prog 127 #[.pointer (some ⟨r, 0, none⟩)] w fun e w' => Kp r w w' ∧ ∃ (c q : Nat) (b : Bool), e = .returned (.int .i64 (c : Int)) ∧ c < 256 ∧ q ≤ s.size ∧ w'.heap[r]? = some (rb s q b) ∧ (∀ x, Starts (bytesOf s) p [x] → c = x ∧ q = p + 1 ∧ b = bad) ∧ (bad = true → b = true) := by
  refine (rbyte_any r p bad s w hm hp h).mono ?_
  rintro e w' ⟨hK, c, q, b, rfl, hc, hq, hR, hin, hout⟩
  refine ⟨hK, c, q, b, rfl, hc, hq, hR, fun x hs => ?_, fun hb => ?_⟩
  · have hlt : p < s.size := by
      have := starts_len hs (by rw [bytesOf_length]; exact hp)
      rw [bytesOf_length] at this
      simp at this
      omega
    obtain ⟨h1, h2, h3⟩ := hin hlt
    have := (starts_one.1 hs).symm.trans h1
    simp at this
    exact ⟨this.symm, h2, h3⟩
  · rcases Nat.lt_or_ge p s.size with h1 | h1
    · rw [(hin h1).2.2]; exact hb
    · exact hout (by omega)
/-- What is left of the bytes. -/
theorem rest_starts {B X Y : List Nat} {q : Nat} (h : B.drop q = X ++ Y) : Starts B q X := ⟨Y, h.symm⟩
theorem rest_next {B X Y : List Nat} {q : Nat} (h : B.drop q = X ++ Y) : B.drop (q + X.length) = Y := by
  rw [← List.drop_drop, h, List.drop_left]
/-- The words on the chunks of a band, from a place on. -/
def prtsF (cs : List Col) : Nat → List Prt → List Nat
  | _, [] => []
  | i, p :: r => (vint p.size ++ boundB (cs.getD i ⟨⟨#[]⟩, 0⟩).kind p.bnd) ++ prtsF cs (i + 1) r
theorem prtsF_snoc (cs : List Col) : ∀ (l : List Prt) (i : Nat) (p : Prt), prtsF cs i (l ++ [p]) = prtsF cs i l ++ (vint p.size ++ boundB (cs.getD (i + l.length) ⟨⟨#[]⟩, 0⟩).kind p.bnd)
  | [], i, p => by simp [prtsF]
  | x :: r, i, p => by
    rw [List.cons_append, prtsF, prtsF_snoc cs r (i + 1) p, prtsF, List.length_cons, show i + 1 + r.length = i + (r.length + 1) by omega]
    simp only [List.append_assoc]
theorem prtsF_eq (cs : List Col) (l : List Prt) : ∀ n, n ≤ l.length → prtsB cs l n = prtsF cs 0 (l.take n) := by
  intro n
  induction n with
  | zero => intro _; simp [prtsB, prtsF]
  | succ n ih =>
    intro h
    rw [prtsB_succ, ih (by omega), List.take_succ_eq_append_getElem (by omega), prtsF_snoc]
    congr 1
    unfold prtB
    have h1 : l.getD n noPrt = l[n] := by rw [List.getD_eq_getElem?_getD, List.getElem?_eq_getElem (by omega)]; rfl
    rw [h1]
    simp [List.length_take, Nat.min_eq_left (show n ≤ l.length by omega)]
theorem rbandB_F (cs : List Col) (b : RBd) : rbandB cs b = vint b.rows ++ prtsF cs 0 b.parts := by
  unfold rbandB
  rw [prtsF_eq cs b.parts _ (Nat.le_refl _), List.take_length]
theorem prtsF_lt (cs : List Col) : ∀ (l : List Prt) (i : Nat), ∀ x ∈ prtsF cs i l, x < 256
  | [], _, x, h => by simp [prtsF] at h
  | p :: r, i, x, h => by
    rw [prtsF] at h
    rcases List.mem_append.1 h with h | h
    · rcases List.mem_append.1 h with h | h
      · exact vint_lt _ x h
      · unfold boundB at h
        split at h
        · rcases List.mem_append.1 h with h | h
          · simp at h; omega
          · rcases List.mem_append.1 h with h | h
            · exact plainB_lt _ _ x h
            · exact plainB_lt _ _ x h
        · simp at h; omega
    · exact prtsF_lt cs r (i + 1) x h
theorem ftR_lt (l : List (Col × Int)) (rs : List RBd) : ∀ x ∈ ftR l rs, x < 256 := by
  intro x h
  unfold ftR plB at h
  rcases List.mem_append.1 h with h | h
  · rcases List.mem_append.1 h with h | h
    · exact vint_lt _ x h
    · unfold pcsB at h
      obtain ⟨y, -, h⟩ := List.mem_flatMap.1 h
      unfold pcB at h
      rcases List.mem_append.1 h with h | h
      · exact vint_lt _ x h
      · rcases List.mem_append.1 h with h | h
        · exact bytesOf_lt _ x h
        · simp at h
          rcases h with rfl | rfl <;> exact byteOf_lt _
  · rcases List.mem_append.1 h with h | h
    · exact vint_lt _ x h
    · unfold rbandsB at h
      obtain ⟨b, -, h⟩ := List.mem_flatMap.1 h
      rw [rbandB_F] at h
      rcases List.mem_append.1 h with h | h
      · exact vint_lt _ x h
      · exact prtsF_lt _ _ _ x h
/-- What a footer holds. -/
def Hf (s : ByteArray) (l : List (Col × Int)) (rs : List RBd) : Prop := ROk l rs ∧ bytesOf s = ftR l rs

/-- Where parsed stands. -/
structure PF (w W : World) (cv ev bv : Value) (rn : Nat) (cs : List Col) (es : List Int) (L : List (RBd × Value)) : Prop where
  file : W.heap[w.heap.size + 1]? = some (.cells #[cv, ev, bv, .int .i64 (rn : Int)] 96 (0, 0))
  cols : W.ownsRow (w.heap.size + 1) 104 2 cv cs.length (ccells cs)
  encs : W.ownsRow (w.heap.size + 1) 3 1 ev es.length (icells es)
  own : W.ownsRow (w.heap.size + 1) 99 2 bv L.length (L.flatMap ecell)
  each : ∀ p ∈ L, W.ownsRow (w.heap.size + 1) 101 9 p.2 p.1.parts.length (p.1.parts.flatMap rcell)
  dis : L.Pairwise fun p q => ∀ g, p.2.ownBlock = some g → q.2.ownBlock ≠ some g
  bel : Below w.heap.size w W
section
variable {w W W1 : World} {cv ev bv : Value} {rn : Nat} {cs : List Col} {es : List Int} {L : List (RBd × Value)}
theorem PF.kp (h : PF w W cv ev bv rn cs es L) (k : Kp w.heap.size W W1) : PF w W1 cv ev bv rn cs es L :=
  ⟨Kp.block k h.file (by omega), k.own h.cols (by omega), k.own h.encs (by omega), k.own h.own (by omega), fun p hp => k.own (h.each p hp) (by omega), h.dis, h.bel.trans (k.below h.bel.size)⟩
theorem PF.below (h : PF w W cv ev bv rn cs es L) (hb : Below W.heap.size W W1) : PF w W1 cv ev bv rn cs es L := h.kp (Kp.of_below hb)
theorem PF.cells (h : PF w W cv ev bv rn cs es L) : (W.cell? ⟨w.heap.size + 1, 0, none⟩ = some cv ∧ W.cell? ⟨w.heap.size + 1, 1, none⟩ = some ev ∧ W.cell? ⟨w.heap.size + 1, 2, none⟩ = some bv ∧ W.cell? ⟨w.heap.size + 1, 3, none⟩ = some (.int .i64 (rn : Int))) ∧ ∀ j, W.frozen? ⟨w.heap.size + 1, j, none⟩ = false := by
  have h2 := h.file
  exact ⟨⟨by simp [World.cell?, h2], by simp [World.cell?, h2], by simp [World.cell?, h2], by simp [World.cell?, h2]⟩, fun j => by simp [World.frozen?, h2]⟩
theorem PF.putsR (h : PF w W cv ev bv rn cs es L) (rn' : Nat) : PF w (W.setCell ⟨w.heap.size + 1, 3, none⟩ (.int .i64 (rn' : Int))) cv ev bv rn' cs es L := by
  have hf := h.file
  exact ⟨heap_setCell_same W (w.heap.size + 1) 3 _ _ _ hf, h.cols.kept (box_set_grown W _ 3 _) (.inr (own_far h.cols hf (by decide)).symm), h.encs.kept (box_set_grown W _ 3 _) (.inr (own_far h.encs hf (by decide)).symm), h.own.kept (box_set_grown W _ 3 _) (.inr (own_far h.own hf (by decide)).symm), fun p hp => (h.each p hp).kept (box_set_grown W _ 3 _) (.inr (own_far (h.each p hp) hf (by decide)).symm), h.dis, below_set h.bel h.bel.size (by omega) _ _⟩
theorem PF.growC (h : PF w W cv ev bv rn cs es L) {cv' : Value} (hg : Grew W W1 cv cv') {cs' : List Col} (ho : W1.ownsRow (w.heap.size + 1) 104 2 cv' cs'.length (ccells cs')) : PF w (W1.setCell ⟨w.heap.size + 1, 0, none⟩ cv') cv' ev bv rn cs' es L := by
  have hf := (hg.by_.block _ (lt_of_block h.file) (own_far h.cols h.file (by decide))).trans h.file
  have hbb := h.bel.trans (hg.below (fun g hg => Nat.le_of_succ_le (h.cols.lt g hg).1) h.bel.size)
  have e2 := kept_grew h.encs hg (apart_of h.encs h.cols (by decide))
  have e3 := kept_grew h.own hg (apart_of h.own h.cols (by decide))
  have e4 := fun p hp => kept_grew (h.each p hp) hg (apart_of (h.each p hp) h.cols (by decide))
  exact ⟨heap_setCell_same W1 (w.heap.size + 1) 0 _ _ cv' hf, ho.kept (box_set_grown W1 _ 0 cv') (.inr (own_far ho hf (by decide)).symm), e2.kept (box_set_grown W1 _ 0 cv') (.inr (own_far e2 hf (by decide)).symm), e3.kept (box_set_grown W1 _ 0 cv') (.inr (own_far e3 hf (by decide)).symm), fun p hp => (e4 p hp).kept (box_set_grown W1 _ 0 cv') (.inr (own_far (e4 p hp) hf (by decide)).symm), h.dis, below_set hbb hbb.size (by omega) _ _⟩
theorem PF.growE (h : PF w W cv ev bv rn cs es L) {ev' : Value} (hg : Grew W W1 ev ev') {es' : List Int} (ho : W1.ownsRow (w.heap.size + 1) 3 1 ev' es'.length (icells es')) : PF w (W1.setCell ⟨w.heap.size + 1, 1, none⟩ ev') cv ev' bv rn cs es' L := by
  have hf := (hg.by_.block _ (lt_of_block h.file) (own_far h.encs h.file (by decide))).trans h.file
  have hbb := h.bel.trans (hg.below (fun g hg => Nat.le_of_succ_le (h.encs.lt g hg).1) h.bel.size)
  have e2 := kept_grew h.cols hg (apart_of h.cols h.encs (by decide))
  have e3 := kept_grew h.own hg (apart_of h.own h.encs (by decide))
  have e4 := fun p hp => kept_grew (h.each p hp) hg (apart_of (h.each p hp) h.encs (by decide))
  exact ⟨heap_setCell_same W1 (w.heap.size + 1) 1 _ _ ev' hf, e2.kept (box_set_grown W1 _ 1 ev') (.inr (own_far e2 hf (by decide)).symm), ho.kept (box_set_grown W1 _ 1 ev') (.inr (own_far ho hf (by decide)).symm), e3.kept (box_set_grown W1 _ 1 ev') (.inr (own_far e3 hf (by decide)).symm), fun p hp => (e4 p hp).kept (box_set_grown W1 _ 1 ev') (.inr (own_far (e4 p hp) hf (by decide)).symm), h.dis, below_set hbb hbb.size (by omega) _ _⟩
theorem PF.growB (h : PF w W cv ev bv rn cs es L) {bv' : Value} (hg : Grew W W1 bv bv') {b : RBd} {kv : Value} (hk : W.ownsRow (w.heap.size + 1) 101 9 kv b.parts.length (b.parts.flatMap rcell)) (hd : ∀ p ∈ L, ∀ g, p.2.ownBlock = some g → kv.ownBlock ≠ some g)
    (ho : W1.ownsRow (w.heap.size + 1) 99 2 bv' (L ++ [(b, kv)]).length ((L ++ [(b, kv)]).flatMap ecell)) : PF w (W1.setCell ⟨w.heap.size + 1, 2, none⟩ bv') cv ev bv' rn cs es (L ++ [(b, kv)]) := by
  have hf := (hg.by_.block _ (lt_of_block h.file) (own_far h.own h.file (by decide))).trans h.file
  have hbb := h.bel.trans (hg.below (fun g hg => Nat.le_of_succ_le (h.own.lt g hg).1) h.bel.size)
  have e2 := kept_grew h.cols hg (apart_of h.cols h.own (by decide))
  have e3 := kept_grew h.encs hg (apart_of h.encs h.own (by decide))
  have key : ∀ {q : Value} {n : Nat} {xs : List Value}, W.ownsRow (w.heap.size + 1) 101 9 q n xs → (W1.setCell ⟨w.heap.size + 1, 2, none⟩ bv').ownsRow (w.heap.size + 1) 101 9 q n xs := fun hq => by
    have hq1 := kept_grew hq hg (apart_of hq h.own (by decide))
    exact hq1.kept (box_set_grown W1 _ 2 bv') (.inr (own_far hq1 hf (by decide)).symm)
  refine ⟨heap_setCell_same W1 (w.heap.size + 1) 2 _ _ bv' hf, e2.kept (box_set_grown W1 _ 2 bv') (.inr (own_far e2 hf (by decide)).symm), e3.kept (box_set_grown W1 _ 2 bv') (.inr (own_far e3 hf (by decide)).symm), ho.kept (box_set_grown W1 _ 2 bv') (.inr (own_far ho hf (by decide)).symm), fun p hp => ?_, ?_, below_set hbb hbb.size (by omega) _ _⟩
  · rcases List.mem_append.1 hp with hp | hp
    · exact key (h.each p hp)
    · simp at hp
      subst hp
      exact key hk
  · rw [List.pairwise_append]
    refine ⟨h.dis, List.pairwise_singleton _ _, fun p hp q hq => ?_⟩
    simp at hq
    subst hq
    exact hd p hp
/-- The file's block, behind an append to a row. -/
theorem PF.keptF (h : PF w W cv ev bv rn cs es L) {e : TypeId} {size n : Nat} {v v' : Value} {xs : List Value} (ho : W.ownsRow (w.heap.size + 1) e size v n xs) (hne : 96 ≠ e) (hg : Grew W W1 v v') : (W1.cell? ⟨w.heap.size + 1, 0, none⟩ = some cv ∧ W1.cell? ⟨w.heap.size + 1, 1, none⟩ = some ev ∧ W1.cell? ⟨w.heap.size + 1, 2, none⟩ = some bv ∧ W1.cell? ⟨w.heap.size + 1, 3, none⟩ = some (.int .i64 (rn : Int))) ∧ ∀ j, W1.frozen? ⟨w.heap.size + 1, j, none⟩ = false := by
  have h2 := (hg.by_.block _ (lt_of_block h.file) (own_far ho h.file hne)).trans h.file
  exact ⟨⟨by simp [World.cell?, h2], by simp [World.cell?, h2], by simp [World.cell?, h2], by simp [World.cell?, h2]⟩, fun j => by simp [World.frozen?, h2]⟩
/-- The reader's block, behind an append to a row of the file and a store into its block. -/
theorem PF.reader {e : TypeId} {size n j : Nat} {v v' u : Value} {xs : List Value} {o : Obj} (hr : W.heap[w.heap.size]? = some o) (ho : W.ownsRow (w.heap.size + 1) e size v n xs) (hg : Grew W W1 v v') : (W1.setCell ⟨w.heap.size + 1, j, none⟩ u).heap[w.heap.size]? = some o := by
  rw [heap_setCell_other _ _ _ _ (by simp), hg.by_.block _ (lt_of_block hr) (fun e => by have := (ho.lt _ e.symm).1; omega)]
  exact hr
end
/-- Where a band stands that parsed makes. -/
structure PB (w B W : World) (g n : Nat) (pv : Value) (ps : List Prt) : Prop where
  box : W.heap[g]? = some (.cells #[.int .i64 (n : Int), pv] 99 (0, 0))
  own : W.ownsRow B.heap.size 101 9 pv ps.length (ps.flatMap rcell)
  far : B.heap.size ≤ g
  kp : Kp w.heap.size B W
section
variable {w B W W1 : World} {g n : Nat} {pv : Value} {ps : List Prt}
theorem PB.step (h : PB w B W g n pv ps) (hB : w.heap.size < B.heap.size) (k : Kp w.heap.size W W1) : PB w B W1 g n pv ps :=
  ⟨Kp.block k h.box (by have := h.far; omega), k.own h.own hB, h.far, h.kp.trans k⟩
theorem PB.below (h : PB w B W g n pv ps) (hB : w.heap.size < B.heap.size) (hb : Below W.heap.size W W1) : PB w B W1 g n pv ps := h.step hB (Kp.of_below hb)
theorem PB.cells (h : PB w B W g n pv ps) : W.cell? ⟨g, 0, none⟩ = some (.int .i64 (n : Int)) ∧ W.cell? ⟨g, 1, none⟩ = some pv ∧ W.frozen? ⟨g, 1, none⟩ = false := by
  have h2 := h.box
  exact ⟨by simp [World.cell?, h2], by simp [World.cell?, h2], by simp [World.frozen?, h2]⟩
theorem PB.put (h : PB w B W g n pv ps) {h' : Nat} (hne : pv.ownBlock ≠ some h') (hg : h' ≠ g) (hf : B.heap.size ≤ h') (o : Nat) (v : Value) : PB w B (W.setCell ⟨h', o, none⟩ v) g n pv ps :=
  ⟨by rw [heap_setCell_other _ _ _ _ (by simp; omega)]; exact h.box, h.own.kept (box_set_grown W h' o v) (.inr hne), h.far, h.kp.grown (box_set_grown W h' o v) (fun g' e => by cases e; exact hf)⟩
theorem PB.kept (h : PB w B W g n pv ps) {pv' : Value} (hg : Grew W W1 pv pv') : W1.cell? ⟨g, 1, none⟩ = some pv ∧ W1.frozen? ⟨g, 1, none⟩ = false := by
  have h4 := (hg.by_.block _ (lt_of_block h.box) (own_far h.own h.box (by decide))).trans h.box
  exact ⟨by simp [World.cell?, h4], by simp [World.frozen?, h4]⟩
theorem PB.grew (h : PB w B W g n pv ps) {pv' : Value} {ps' : List Prt} (hg : Grew W W1 pv pv') (ho : W1.ownsRow B.heap.size 101 9 pv' ps'.length (ps'.flatMap rcell)) : PB w B (W1.setCell ⟨g, 1, none⟩ pv') g n pv' ps' := by
  have h4 := (hg.by_.block _ (lt_of_block h.box) (own_far h.own h.box (by decide))).trans h.box
  exact ⟨heap_setCell_same W1 g 1 _ _ pv' h4, ho.kept (box_set_grown W1 g 1 pv') (.inr (own_far ho h4 (by decide)).symm), h.far, (h.kp.grown hg.by_ (fun g' hg' => (h.own.lt g' hg').1)).grown (box_set_grown W1 g 1 pv') (fun g' e => by cases e; exact h.far)⟩
theorem PB.reader (h : PB w B W g n pv ps) (hB : w.heap.size < B.heap.size) {pv' : Value} {o : Obj} (hg : Grew W W1 pv pv') (hr : W.heap[w.heap.size]? = some o) : (W1.setCell ⟨g, 1, none⟩ pv').heap[w.heap.size]? = some o := by
  have := h.far
  rw [heap_setCell_other _ _ _ _ (by simp; omega), hg.by_.block _ (lt_of_block hr) (fun e => by have := (h.own.lt _ e.symm).1; omega)]
  exact hr
end
/-- How bounds were read. -/
structure RB (s : ByteArray) (k : Int) (q0 : Nat) (b0 : Bool) (x : Bnd) (q : Nat) (b : Bool) : Prop where
  le : q ≤ s.size
  ok : b = false → b0 = false ∧ BOk k x
  uni : ∀ y, BOk k y → Starts (bytesOf s) q0 (boundB k y) → x = y ∧ q = q0 + (boundB k y).length ∧ b = b0
end Go.Proofs.Ytjidbonhhpkljaa.Ec

/- The document's reader of footers: parts of bands. -/
set_option linter.unusedVariables false
namespace Go.Proofs.Ytjidbonhhpkljaa.Ec
open Go.RowKit Go.Proofs.Ytjidbonhhpkljaa.Pk Go.Proofs.Ytjidbonhhpkljaa.Pm
theorem PF.kind {w W : World} {cb m cc : Nat} {ev bv : Value} {rn : Nat} {cs : List Col} {es : List Int} {L : List (RBd × Value)} (h : PF w W (.slice (some ⟨cb, 0, none⟩) m cc) ev bv rn cs es L) (i : Nat) (hi : i < cs.length) : W.cell? ⟨cb, i * 2 + 1, none⟩ = some (.int .i64 cs[i].kind) := by
  obtain ⟨g, hg, -, -, hr⟩ := crow_own h.cols (by omega)
  cases hg
  have := hr.c1 i hi
  simpa using this
/-- A part that parsed makes, in its box. -/
structure PP (w B W : World) (g n : Nat) (pv : Value) (ps : List Prt) (h sz : Nat) (x : Bnd) : Prop where
  pb : PB w B W g n pv ps
  prt : W.heap[h]? = some (.cells (rcell ⟨sz, x, ⟨#[]⟩⟩).toArray 101 (0, 0))
  ne : pv.ownBlock ≠ some h
  hg : h ≠ g
  far : B.heap.size ≤ h
section
variable {w B W W1 : World} {g n : Nat} {pv : Value} {ps : List Prt} {h sz : Nat} {x : Bnd}
theorem PP.step (p : PP w B W g n pv ps h sz x) (hB : w.heap.size < B.heap.size) (k : Kp w.heap.size W W1) : PP w B W1 g n pv ps h sz x :=
  ⟨p.pb.step hB k, Kp.block k p.prt (by have := p.far; omega), p.ne, p.hg, p.far⟩
theorem PP.below (p : PP w B W g n pv ps h sz x) (hB : w.heap.size < B.heap.size) (hb : Below W.heap.size W W1) : PP w B W1 g n pv ps h sz x := p.step hB (Kp.of_below hb)
theorem PP.cells (p : PP w B W g n pv ps h sz x) : (W.cell? ⟨h, 0, none⟩ = some (.int .i64 (sz : Int)) ∧ W.cell? ⟨h, 1, none⟩ = some (.bool x.there) ∧ W.cell? ⟨h, 2, none⟩ = some (.bool x.least.null) ∧ W.cell? ⟨h, 3, none⟩ = some (.int .i64 x.least.n) ∧ W.cell? ⟨h, 4, none⟩ = some (.string x.least.s) ∧ W.cell? ⟨h, 5, none⟩ = some (.bool x.most.null) ∧ W.cell? ⟨h, 6, none⟩ = some (.int .i64 x.most.n) ∧ W.cell? ⟨h, 7, none⟩ = some (.string x.most.s) ∧ W.cell? ⟨h, 8, none⟩ = some (.string ⟨#[]⟩)) ∧ ∀ j, W.frozen? ⟨h, j, none⟩ = false := by
  have h2 := p.prt
  unfold rcell at h2
  exact ⟨⟨by simp [World.cell?, h2], by simp [World.cell?, h2], by simp [World.cell?, h2], by simp [World.cell?, h2], by simp [World.cell?, h2], by simp [World.cell?, h2], by simp [World.cell?, h2], by simp [World.cell?, h2], by simp [World.cell?, h2]⟩, fun j => by simp [World.frozen?, h2]⟩
theorem PP.put1 (p : PP w B W g n pv ps h sz ⟨false, x.least, x.most⟩) : PP w B (W.setCell ⟨h, 1, none⟩ (.bool true)) g n pv ps h sz ⟨true, x.least, x.most⟩ :=
  ⟨p.pb.put p.ne p.hg p.far _ _, heap_setCell_same W h 1 _ _ (.bool true) p.prt, p.ne, p.hg, p.far⟩
theorem PP.putL (p : PP w B W g n pv ps h sz x) (v : Val) : PP w B (((W.setCell ⟨h, 2, none⟩ (.bool v.null)).setCell ⟨h, 3, none⟩ (.int .i64 v.n)).setCell ⟨h, 4, none⟩ (.string v.s)) g n pv ps h sz ⟨x.there, v, x.most⟩ := by
  have h1 := heap_setCell_same W h 2 _ _ (.bool v.null) p.prt
  have h2 := heap_setCell_same _ h 3 _ _ (.int .i64 v.n) h1
  exact ⟨((p.pb.put p.ne p.hg p.far _ _).put p.ne p.hg p.far _ _).put p.ne p.hg p.far _ _, heap_setCell_same _ h 4 _ _ (.string v.s) h2, p.ne, p.hg, p.far⟩
theorem PP.putM (p : PP w B W g n pv ps h sz x) (v : Val) : PP w B (((W.setCell ⟨h, 5, none⟩ (.bool v.null)).setCell ⟨h, 6, none⟩ (.int .i64 v.n)).setCell ⟨h, 7, none⟩ (.string v.s)) g n pv ps h sz ⟨x.there, x.least, v⟩ := by
  have h1 := heap_setCell_same W h 5 _ _ (.bool v.null) p.prt
  have h2 := heap_setCell_same _ h 6 _ _ (.int .i64 v.n) h1
  exact ⟨((p.pb.put p.ne p.hg p.far _ _).put p.ne p.hg p.far _ _).put p.ne p.hg p.far _ _, heap_setCell_same _ h 7 _ _ (.string v.s) h2, p.ne, p.hg, p.far⟩
/-- The reader's block, behind stores into the part's box. -/
theorem PP.readL (p : PP w B W g n pv ps h sz x) (hB : w.heap.size < B.heap.size) {o : Obj} (hr : W.heap[w.heap.size]? = some o) (a b c : Nat) (u v y : Value) : (((W.setCell ⟨h, a, none⟩ u).setCell ⟨h, b, none⟩ v).setCell ⟨h, c, none⟩ y).heap[w.heap.size]? = some o := by
  have := p.far
  rw [heap_setCell_other _ _ _ _ (by simp; omega), heap_setCell_other _ _ _ _ (by simp; omega), heap_setCell_other _ _ _ _ (by simp; omega)]
  exact hr
theorem PP.read1 (p : PP w B W g n pv ps h sz x) (hB : w.heap.size < B.heap.size) {o : Obj} (hr : W.heap[w.heap.size]? = some o) (a : Nat) (u : Value) : (W.setCell ⟨h, a, none⟩ u).heap[w.heap.size]? = some o := by
  have := p.far
  rw [heap_setCell_other _ _ _ _ (by simp; omega)]
  exact hr
end
theorem RB.zero {s : ByteArray} {k : Int} {q0 q c : Nat} {b0 b : Bool} (hq : q ≤ s.size) (hu : ∀ x, Starts (bytesOf s) q0 [x] → c = x ∧ q = q0 + 1 ∧ b = b0) (hst : b0 = true → b = true) (hc : c = 0) : RB s k q0 b0 noBnd q b := by
  refine ⟨hq, fun hb => ⟨?_, .inl rfl⟩, fun y hy hs => ?_⟩
  · cases b0
    · rfl
    · rw [hst rfl] at hb; exact hb
  · rcases hy with rfl | ⟨ht, -⟩
    · obtain ⟨-, e2, e3⟩ := hu 0 hs
      exact ⟨rfl, e2, e3⟩
    · unfold boundB at hs
      rw [if_pos ht] at hs
      have := (hu 1 (starts_append.1 hs).1).1
      omega
theorem RB.many {s : ByteArray} {k : Int} {q0 q c : Nat} {b0 b : Bool} (hq : q ≤ s.size) (hu : ∀ x, Starts (bytesOf s) q0 [x] → c = x ∧ q = q0 + 1 ∧ b = b0) (hc : 1 < c) : RB s k q0 b0 noBnd q true := by
  refine ⟨hq, fun hb => (by cases hb), fun y hy hs => ?_⟩
  rcases hy with rfl | ⟨ht, -⟩
  · have := (hu 0 hs).1
    omega
  · unfold boundB at hs
    rw [if_pos ht] at hs
    have := (hu 1 (starts_append.1 hs).1).1
    omega
theorem RB.one {s : ByteArray} {k : Int} (hk : k = 1 ∨ k = 2 ∨ k = 3) {q0 q1 q2 q3 c : Nat} {b0 b1 b2 b3 bz : Bool} {v1 v2 : Val} (hq : q3 ≤ s.size) (hu : ∀ x, Starts (bytesOf s) q0 [x] → c = x ∧ q1 = q0 + 1 ∧ b1 = b0) (hst : b0 = true → b1 = true) (hc : c = 1)
    (hv1 : VR v1) (hu1 : ∀ x, VK k x → Starts (bytesOf s) q1 (plainB k x) → v1 = x ∧ q2 = q1 + (plainB k x).length ∧ b2 = b1) (hs1 : b1 = true → b2 = true)
    (hv2 : VR v2) (hu2 : ∀ x, VK k x → Starts (bytesOf s) q2 (plainB k x) → v2 = x ∧ q3 = q2 + (plainB k x).length ∧ b3 = b2) (hs2 : b2 = true → b3 = true)
    (hz : bz = if mayB v1 k = true ∧ mayB v2 k = true ∧ ¬ vcmp v2 v1 < 0 then b3 else true) : RB s k q0 b0 ⟨true, v1, v2⟩ q3 bz := by
  refine ⟨hq, fun hb => ?_, fun y hy hs => ?_⟩
  · rw [hz] at hb
    split at hb
    · rename_i hm
      refine ⟨?_, .inr ⟨rfl, vk_of_may hk hv1.there hv1.vin hm.1, vk_of_may hk hv2.there hv2.vin hm.2.1, ?_⟩⟩
      · cases b0
        · rfl
        · rw [hs2 (hs1 (hst rfl))] at hb; exact hb
      · have := vcmp_anti v1 v2
        have := hm.2.2
        show ¬ 0 < vcmp v1 v2
        omega
    · cases hb
  · rcases hy with rfl | ⟨ht, h1, h2, h3⟩
    · have := (hu 0 hs).1
      omega
    · unfold boundB at hs ⊢
      rw [if_pos ht] at hs ⊢
      obtain ⟨a1, a2⟩ := starts_append.1 hs
      obtain ⟨a3, a4⟩ := starts_append.1 a2
      obtain ⟨-, e2, e3⟩ := hu 1 a1
      simp only [List.length_singleton] at a3 a4
      rw [← e2] at a3 a4
      obtain ⟨e4, e5, e6⟩ := hu1 _ h1 a3
      rw [← e5] at a4
      obtain ⟨e7, e8, e9⟩ := hu2 _ h2 a4
      refine ⟨?_, ?_, ?_⟩
      · obtain ⟨yt, yl, ym⟩ := y
        simp only at ht e4 e7
        rw [ht, e4, e7]
      · simp only [List.length_append, List.length_singleton]
        omega
      · have hm1 := may_of_vk hk h1
        have hm2 := may_of_vk hk h2
        have hc2 := vcmp_anti y.least y.most
        rw [hz, e4, e7, if_pos ⟨hm1, hm2, by omega⟩, e9, e6, e3]
/-- What is known of a part. -/
theorem RB.part {s : ByteArray} {cs : List Col} {i q0 q1 q2 sz : Nat} {b0 b1 b2 : Bool} {x : Bnd} (hsz : sz ≤ 65536) (hu : ∀ y, y ≤ 65536 → Starts (bytesOf s) q0 (vint y) → sz = y ∧ q1 = q0 + (vint y).length ∧ b1 = b0) (hst : b0 = true → b1 = true) (h : RB s (cs.getD i ⟨⟨#[]⟩, 0⟩).kind q1 b1 x q2 b2) :
    (b2 = false → b0 = false ∧ PtOk cs i ⟨sz, x, ⟨#[]⟩⟩) ∧ (∀ (y : Prt) (R : List Nat), PtOk cs i y → (bytesOf s).drop q0 = (vint y.size ++ boundB (cs.getD i ⟨⟨#[]⟩, 0⟩).kind y.bnd) ++ R → (⟨sz, x, ⟨#[]⟩⟩ : Prt) = y ∧ b2 = b0 ∧ (bytesOf s).drop q2 = R) := by
  refine ⟨fun hb => ?_, fun y R hy hd => ?_⟩
  · obtain ⟨h1, h2⟩ := h.ok hb
    refine ⟨?_, hsz, h2, rfl⟩
    cases b0
    · rfl
    · rw [hst rfl] at h1; exact h1
  · have hs := starts_append.1 (rest_starts hd)
    obtain ⟨e1, e2, e3⟩ := hu _ hy.n hs.1
    have hs2 := hs.2
    rw [← e2] at hs2
    obtain ⟨e4, e5, e6⟩ := h.uni _ hy.b hs2
    have hr := rest_next hd
    refine ⟨?_, by rw [e6, e3], ?_⟩
    · have ht := hy.t
      obtain ⟨ys, yb, yt⟩ := y
      simp only at e1 e4 ht
      rw [e1, e4, ht]
    · rw [List.length_append, ← Nat.add_assoc, ← e2, ← e5] at hr
      exact hr
theorem grew_drew {w w1 : World} {v v1 : Value} (h : Grew w.drew w1 v v1) : Grew w w1 v v1 := ⟨⟨h.by_.os, h.by_.tape, h.by_.output, h.by_.size, h.by_.block⟩, h.at_⟩
theorem wrapRN {a b : Nat} (h : a ≤ 200000) (h2 : b ≤ 100) : IntKind.i64.wrap ((a : Int) + (b : Int)) = (a : Int) + (b : Int) := by rw [IntKind.wrap_i64]; omega
theorem toList_inj {a b : ByteArray} (h : a.toList = b.toList) : a = b := by
  rw [ByteArray.toList_eq, ByteArray.toList_eq] at h
  apply ByteArray.ext
  apply Array.ext'
  exact h
theorem rbok_of_good {cs : List Col} (hk : ∀ i (h : i < cs.length), cs[i].kind = 1 ∨ cs[i].kind = 2 ∨ cs[i].kind = 3) {b : RBd} (h : RGood cs b) : RbOk cs.length b := by
  have hv : ∀ c ∈ b.parts, VOk c.bnd.least ∧ VOk c.bnd.most ∧ c.size ≤ 65536 := fun c hc => by
    obtain ⟨i, hi, rfl⟩ := List.getElem_of_mem hc
    have hp := h.each i hi
    have hic : i < cs.length := by rw [← h.len]; exact hi
    have hki := hk i hic
    have hb := hp.b
    rw [show cs.getD i ⟨⟨#[]⟩, 0⟩ = cs[i] by rw [List.getD_eq_getElem?_getD, List.getElem?_eq_getElem hic]; rfl] at hb
    have key : ∀ v, VK cs[i].kind v → VOk v := fun v hv => ⟨hv.lo, hv.hi, by
      rcases hki with h1 | h1 | h1
      · rw [hv.s1 h1]; decide
      · rw [(hv.s2 h1).2]; decide
      · exact (hv.s3 h1).2⟩
    rcases hb with hb | ⟨-, h1, h2, -⟩
    · rw [hb]
      exact ⟨vok_zero, vok_zero, hp.n⟩
    · exact ⟨key _ h1, key _ h2, hp.n⟩
  exact ⟨by have := h.hi; omega, h.len, fun c hc => by have := (hv c hc).2.2; omega, fun c hc => (hv c hc).1, fun c hc => (hv c hc).2.1⟩
end Go.Proofs.Ytjidbonhhpkljaa.Ec
