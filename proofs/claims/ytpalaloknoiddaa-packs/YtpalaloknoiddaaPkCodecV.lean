/- The contract of readWhole at numbers: what is read, or the error, by the recover at the call. -/
import Derived.Test.YtpalaloknoiddaaPkCodecU
set_option linter.unusedVariables false
namespace Go.Proofs.Ytpalaloknoiddaa.Pk
open Go.RowKit Go.Proofs.Ytpalaloknoiddaa.Pm

theorem bcell {B : Nat} {W w1 : World} (hb : Below B W w1) : (∀ b o, b < B → w1.cell? ⟨b, o, none⟩ = W.cell? ⟨b, o, none⟩) ∧ (∀ b o, b < B → w1.frozen? ⟨b, o, none⟩ = W.frozen? ⟨b, o, none⟩) :=
  ⟨fun b o h => hb.cell (p := ⟨b, o, none⟩) h, fun b o h => hb.frozen (p := ⟨b, o, none⟩) h⟩

theorem ownsRow_base {w : World} {base B : Nat} {e : TypeId} {size : Nat} {v : Value} {n : Nat} {xs : List Value} (h : w.ownsRow base e size v n xs) (hb : B ≤ base) : w.ownsRow B e size v n xs := by
  refine ⟨h.1, ?_⟩
  rcases h.2 with h1 | ⟨g, cap, cur, h1, h2, h3⟩
  · exact .inl h1
  · exact .inr ⟨g, cap, cur, h1, Nat.le_trans hb h2, h3⟩

theorem final_ok {w w4 : World} {v : Value} {k : Nat} {xs : List Value} (n : Nat) (hL : w4.heap[w.heap.size]? = some (.cells #[.slice none 0 0] 22 (0, 0))) (hE : w4.heap[w.heap.size + 1]? = some (.cells #[.int .i64 0] 23 (0, 0)))
    (hown : w4.ownsRow w.heap.size 3 1 v k xs) (hne : v.ownBlock ≠ some w.heap.size ∧ v.ownBlock ≠ some (w.heap.size + 1)) (hB : Below w.heap.size w w4) :
    let W := (((w4.setCell ⟨w.heap.size, 0, none⟩ v).drewN n).setCell ⟨w.heap.size, 0, none⟩ v).setCell ⟨w.heap.size + 1, 0, none⟩ (.int .i64 0)
    W.cell? ⟨w.heap.size, 0, none⟩ = some v ∧ W.cell? ⟨w.heap.size + 1, 0, none⟩ = some (.int .i64 0) ∧ W.ownsRow w.heap.size 3 1 v k xs ∧ Below w.heap.size w W := by
  have a1 : ((w4.setCell ⟨w.heap.size, 0, none⟩ v).drewN n).heap[w.heap.size]? = some (.cells #[v] 22 (0, 0)) := one_setCell hL
  have a2 := one_setCell (u := v) a1
  have a3 : (((w4.setCell ⟨w.heap.size, 0, none⟩ v).drewN n).setCell ⟨w.heap.size, 0, none⟩ v).heap[w.heap.size + 1]? = some (.cells #[.int .i64 0] 23 (0, 0)) := by
    rw [heap_setCell_other _ _ _ _ (by simp)]
    show (w4.setCell ⟨w.heap.size, 0, none⟩ v).heap[w.heap.size + 1]? = _
    rw [heap_setCell_other _ _ _ _ (by simp)]
    exact hE
  refine ⟨?_, cell_of_one (one_setCell a3), ?_, ?_⟩
  · refine cell_of_one (t := 22) ?_
    rw [heap_setCell_other _ _ _ _ (by simp)]
    exact a2
  · exact ownsRow_setCell_other (ownsRow_setCell_other (ownsRow_drewN (ownsRow_setCell_other hown hne.1 _) n) hne.1 _) hne.2 _
  · exact ((below_drewN (hB.setCell (Nat.le_refl _) _) n).setCell (Nat.le_refl _) _).setCell (Nat.le_succ _) _

theorem three_0 (w : World) (a b c : Obj) : (((w.alloc a).alloc b).alloc c).heap[w.heap.size]? = some a := by
  rw [Below.heap_alloc _ _ _ (by simp; omega), Below.heap_alloc _ _ _ (by simp)]; exact heap_alloc_new w a
theorem three_1 (w : World) (a b c : Obj) : (((w.alloc a).alloc b).alloc c).heap[w.heap.size + 1]? = some b := by
  rw [Below.heap_alloc _ _ _ (by simp)]
  have := heap_alloc_new (w.alloc a) b
  rwa [show (w.alloc a).heap.size = w.heap.size + 1 from by simp] at this
theorem three_2 (w : World) (a b c : Obj) : (((w.alloc a).alloc b).alloc c).heap[w.heap.size + 1 + 1]? = some c := by
  have := heap_alloc_new ((w.alloc a).alloc b) c
  rwa [show ((w.alloc a).alloc b).heap.size = w.heap.size + 1 + 1 from by simp] at this

set_option maxRecDepth 100000 in
set_option maxHeartbeats 1000000 in
theorem closure_ok (s : ByteArray) (r wd cn x y : Nat) (w : World) (hm : s.size ≤ maxLen) (hw : wd ≤ 16) (hcn : cn ≤ 100) (h : w.heap[r]? = some (rdr s 0))
    (hx : w.cell? ⟨x, 0, none⟩ = some (.int .i64 wd)) (hy : w.cell? ⟨y, 0, none⟩ = some (.int .i64 cn)) (hok : readOk s 0 wd cn) :
    Calls Try.prog 42 #[.pointer (some ⟨r, 0, none⟩), .pointer (some ⟨x, 0, none⟩), .pointer (some ⟨y, 0, none⟩)] w fun e w' => Below r w w' ∧
      e = .returned (.slice (some ⟨w.heap.size, 0, none⟩) cn cn) ∧ w'.heap[r]? = some (rdr s (0 + (cn * wd + 7) / 8)) ∧
      w'.ownsRow w.heap.size 3 1 (.slice (some ⟨w.heap.size, 0, none⟩) cn cn) cn (icells (intsOf (D wd (restV s 0) cn))) := by
  have HR : Hid (w.heap[r]? = some (rdr s 0)) := h
  have HO : Hid (readOk s 0 wd cn) := hok
  clear h hok
  go_enter Try.func42, Try.ntmps42
  go_wp2_with fail
  refine (readPacked_any s r 0 wd cn _ hm hw hcn (Nat.zero_le _) HR.out).mono ?_
  rintro e w' ⟨hbel, ⟨rfl, h1, h2, h3⟩ | ⟨q, rfl, h1⟩⟩
  · have H2 : Hid (w'.heap[r]? = some (rdr s (0 + (cn * wd + 7) / 8))) := h2
    clear h2 hx hy
    go_wp2
    go_ret
    exact ⟨hbel, rfl, H2.out, h3⟩
  · exact absurd HO.out h1

set_option maxRecDepth 100000 in
set_option maxHeartbeats 1000000 in
theorem closure_bad (s : ByteArray) (r wd cn x y : Nat) (w : World) (hm : s.size ≤ maxLen) (hw : wd ≤ 16) (hcn : cn ≤ 100) (h : w.heap[r]? = some (rdr s 0))
    (hx : w.cell? ⟨x, 0, none⟩ = some (.int .i64 wd)) (hy : w.cell? ⟨y, 0, none⟩ = some (.int .i64 cn)) (hok : ¬ readOk s 0 wd cn) :
    Calls Try.prog 42 #[.pointer (some ⟨r, 0, none⟩), .pointer (some ⟨x, 0, none⟩), .pointer (some ⟨y, 0, none⟩)] w fun e w' => Below r w w' ∧ ∃ q, e = .panicked (badAt q) := by
  have HR : Hid (w.heap[r]? = some (rdr s 0)) := h
  have HO : Hid (¬ readOk s 0 wd cn) := hok
  clear h hok
  go_enter Try.func42, Try.ntmps42
  go_wp2_with fail
  refine (readPacked_any s r 0 wd cn _ hm hw hcn (Nat.zero_le _) HR.out).mono ?_
  rintro e w' ⟨hbel, ⟨rfl, h1, h2, h3⟩ | ⟨q, rfl, h1⟩⟩
  · exact absurd h1 HO.out
  · clear hx hy
    go_wp2
    exact ⟨rfl, hbel, q, rfl⟩

set_option maxRecDepth 100000 in
set_option maxHeartbeats 1000000 in
theorem readWhole_ok (s : ByteArray) (wd cn x y : Nat) (w : World) (hm : s.size ≤ maxLen) (hw : wd ≤ 16) (hcn : cn ≤ 100)
    (hx : w.cell? ⟨x, 0, none⟩ = some (.int .i64 wd)) (hy : w.cell? ⟨y, 0, none⟩ = some (.int .i64 cn)) (hxl : x < w.heap.size) (hyl : y < w.heap.size) (hok : unpackOk s wd cn = true) :
    Calls Try.prog 41 #[.string s, .func (.func 42) #[] #[.pointer (some ⟨x, 0, none⟩), .pointer (some ⟨y, 0, none⟩)]] w fun e w' => ∃ g, e = .returned (.tuple #[.slice (some ⟨g, 0, none⟩) cn cn, .int .i64 0]) ∧
      w'.ownsRow w.heap.size 3 1 (.slice (some ⟨g, 0, none⟩) cn cn) cn (icells (intsOf (D wd (V (bytesOf s)) cn))) ∧ Below w.heap.size w w' := by
  obtain ⟨ho1, ho2⟩ := (heldOf_ok s wd cn).2 hok
  have HO1 : Hid (readOk s 0 wd cn) := ho1
  have HO2 : Hid (0 + (cn * wd + 7) / 8 = s.size) := ho2
  clear ho1 ho2 hok
  have hmf : ∀ (fn : Fn) (first cap : Array Value) (w : World), (Instr.makeFunc fn first cap).run Try.prog w = .ok (.func fn first cap) w := fun _ _ _ _ => rfl
  go_enter_defers Try.func41, Try.ntmps41
  go_wp2_with (go_at_call 57; refine (newReader_any s _).mono ?_; rintro e w' ⟨rfl, rfl⟩)
  have hL : (((w.alloc (.cells #[.slice none 0 0] 22)).alloc (.cells #[.int .i64 0] 23)).alloc (rdr s 0)).heap[w.heap.size]? = some (.cells #[.slice none 0 0] 22 (0, 0)) := three_0 _ _ _ _
  have hE : (((w.alloc (.cells #[.slice none 0 0] 22)).alloc (.cells #[.int .i64 0] 23)).alloc (rdr s 0)).heap[w.heap.size + 1]? = some (.cells #[.int .i64 0] 23 (0, 0)) := three_1 _ _ _ _
  have hR : (((w.alloc (.cells #[.slice none 0 0] 22)).alloc (.cells #[.int .i64 0] 23)).alloc (rdr s 0)).heap[w.heap.size + 1 + 1]? = some (rdr s 0) := three_2 _ _ _ _
  have hS : (((w.alloc (.cells #[.slice none 0 0] 22)).alloc (.cells #[.int .i64 0] 23)).alloc (rdr s 0)).heap.size = w.heap.size + 3 := by simp
  have hB : Below w.heap.size w (((w.alloc (.cells #[.slice none 0 0] 22)).alloc (.cells #[.int .i64 0] 23)).alloc (rdr s 0)) := (((Below.refl _ _).alloc (Nat.le_refl _) _).alloc (by simp) _).alloc (by simp; omega) _
  have hx3 := (hB.cell (p := ⟨x, 0, none⟩) hxl).trans hx
  have hy3 := (hB.cell (p := ⟨y, 0, none⟩) hyl).trans hy
  clear hx hy
  generalize (((w.alloc (.cells #[.slice none 0 0] 22)).alloc (.cells #[.int .i64 0] 23)).alloc (rdr s 0)) = W3 at *
  refine (closure_ok s (w.heap.size + 1 + 1) wd cn x y W3 hm hw hcn hR hx3 hy3 HO1.out).mono ?_
  rintro e w4 ⟨hb4, rfl, h4, hown⟩
  have hL4 : w4.heap[w.heap.size]? = some (.cells #[.slice none 0 0] 22 (0, 0)) := by rw [hb4.block _ (by omega)]; exact hL
  have hE4 : w4.heap[w.heap.size + 1]? = some (.cells #[.int .i64 0] 23 (0, 0)) := by rw [hb4.block _ (by omega)]; exact hE
  have hB4 : Below w.heap.size w w4 := hB.trans (hb4.mono (by omega))
  rw [show restV s 0 = V (bytesOf s) from by simp [restV]] at hown
  have hg : w.heap.size + 3 ≤ W3.heap.size := by omega
  generalize W3.heap.size = g at *
  have cl := cell_of_one hL4
  have fl := free_of_one hL4
  have ce := cell_of_one hE4
  have fe := free_of_one hE4
  have HL4 : Hid _ := hL4
  have HE4 : Hid _ := hE4
  have HR4 : Hid (w4.heap[w.heap.size + 1 + 1]? = some (rdr s (0 + (cn * wd + 7) / 8))) := h4
  clear hL hE hR hS hB hx3 hy3 hL4 hE4 h4 hb4
  clear W3
  go_wp2_with (go_at_call 58; refine (end_ok (w.heap.size + 1 + 1) (0 + (cn * wd + 7) / 8) s _ hm (by rw [HO2.out]; omega) (by rw [heap_setCell_other _ _ _ _ (by simp; omega)]; exact HR4.out)).mono ?_; rintro e w' ⟨rfl, n, rfl⟩)
  obtain ⟨f1, f2, f3, f4⟩ := final_ok (v := .slice (some ⟨g, 0, none⟩) cn cn) n HL4.out HE4.out (ownsRow_base (B := w.heap.size) hown (by omega)) (by simp [Value.ownBlock]; omega) hB4
  generalize (((w4.setCell ⟨w.heap.size, 0, none⟩ (.slice (some ⟨g, 0, none⟩) cn cn)).drewN n).setCell ⟨w.heap.size, 0, none⟩ (.slice (some ⟨g, 0, none⟩) cn cn)).setCell ⟨w.heap.size + 1, 0, none⟩ (.int .i64 0) = Wf at *
  refine leaves_cons (f := 62) (args := #[.pointer (some ⟨w.heap.size, 0, none⟩), .pointer (some ⟨w.heap.size + 1, 0, none⟩)]) (by simp) (by simp [go_sem]) ?_
  refine (catch_idle ⟨w.heap.size, 0, none⟩ ⟨w.heap.size + 1, 0, none⟩ _).mono ?_
  rintro e u' w'' ⟨rfl, rfl, rfl⟩
  simp [Leaves, settle, results, Try.results41, go_sem, f1, f2]
  exact ⟨f3, f4⟩
end Go.Proofs.Ytpalaloknoiddaa.Pk
