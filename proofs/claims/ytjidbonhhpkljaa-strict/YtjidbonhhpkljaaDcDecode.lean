/- The contract of the code's Decode. -/
import Derived.Test.YtjidbonhhpkljaaDcWhole
set_option linter.unusedVariables false
namespace Go.Proofs.Ytjidbonhhpkljaa.Ec
open Go.RowKit Go.Proofs.Ytjidbonhhpkljaa.Pk Go.Proofs.Ytjidbonhhpkljaa.Pm

set_option maxRecDepth 100000 in
set_option maxHeartbeats 1000000 in
theorem decodeC_any (k e : Int) (he : hasEncB k e = true) (s : ByteArray) (r cn x y z : Nat) (w : World) (hm : s.size ≤ maxLen) (hcn : cn ≤ 100) (h : w.heap[r]? = some (rdr s 0))
    (hx : w.cell? ⟨x, 0, none⟩ = some (.int .i64 k)) (hy : w.cell? ⟨y, 0, none⟩ = some (.int .i64 e)) (hz : w.cell? ⟨z, 0, none⟩ = some (.int .i64 cn)) :
    Calls Try.prog 49 #[.pointer (some ⟨r, 0, none⟩), .pointer (some ⟨x, 0, none⟩), .pointer (some ⟨y, 0, none⟩), .pointer (some ⟨z, 0, none⟩)] w fun f w' => Kp r w w' ∧
      ((∃ v n xs q, f = .returned v ∧ w'.heap[r]? = some (rdr s q) ∧ q ≤ s.size ∧ w'.ownsRow w.heap.size 39 3 v n xs ∧
        (∃ l : List Val, n = cn ∧ l.length = cn ∧ xs = vcells l ∧ q = (columnB k e l).length ∧ (∀ x ∈ l, VC k x) ∧ Starts (bytesOf s) 0 (columnB k e l) ∧ ∀ L : List Val, L.length = cn → (∀ x ∈ L, VC k x) → Starts (bytesOf s) 0 (columnB k e L) → L = l)) ∨
       (∃ q, f = .panicked (badAt q) ∧ ∀ L : List Val, L.length = cn → (∀ x ∈ L, VC k x) → ¬ Starts (bytesOf s) 0 (columnB k e L))) := by
  have HR : Hid (w.heap[r]? = some (rdr s 0)) := h
  clear h
  go_enter Try.func49, Try.ntmps49
  go_wp2_with fail
  refine (readColumn_any k e he s r 0 cn _ hm hcn (Nat.zero_le _) HR.out).mono ?_
  rintro f w1 ⟨hK, ⟨l, v, rfl, hl, hok, hs, hu, hle, hR, hown⟩ | ⟨q, rfl, hno⟩⟩
  · have HK : Hid (Kp r w w1) := hK
    have HL : Hid (l.length = cn) := hl
    have HOK : Hid (∀ x ∈ l, VC k x) := hok
    have HS : Hid (Starts (bytesOf s) 0 (columnB k e l)) := hs
    have HU : Hid (∀ L : List Val, L.length = cn → (∀ x ∈ L, VC k x) → Starts (bytesOf s) 0 (columnB k e L) → L = l) := hu
    have HR1 : Hid (w1.heap[r]? = some (rdr s (0 + (columnB k e l).length))) := hR
    have HO : Hid (w1.ownsRow w.heap.size 39 3 v l.length (vcells l)) := hown
    clear hK hl hok hs hu hR hown hx hy hz
    go_wp2
    go_ret
    refine ⟨HK.out, .inl ⟨v, cn, vcells l, (columnB k e l).length, rfl, by simpa using HR1.out, by omega, by rw [← HL.out]; exact HO.out, l, rfl, HL.out, rfl, rfl, HOK.out, HS.out, HU.out⟩⟩
  · have HK : Hid (Kp r w w1) := hK
    have HNO : Hid _ := hno
    clear hK hno hx hy hz
    go_wp2
    exact ⟨rfl, HK.out, .inr ⟨q, rfl, HNO.out⟩⟩

set_option maxRecDepth 100000 in
set_option maxHeartbeats 1000000 in
theorem readWholeV_any (c1 c2 c3 : Value) (s : ByteArray) (w : World) (hm : s.size ≤ maxLen) (el size : Nat) (Q : Nat → List Value → Nat → Prop) (N : Prop)
    (hcl : ∀ (W : World) (r : Nat), Below w.heap.size w W → r = w.heap.size + 1 + 1 → W.heap[r]? = some (rdr s 0) → Calls Try.prog 49 #[.pointer (some ⟨r, 0, none⟩), c1, c2, c3] W fun e w' => Kp r W w' ∧
      ((∃ v n xs q, e = .returned v ∧ w'.heap[r]? = some (rdr s q) ∧ q ≤ s.size ∧ w'.ownsRow W.heap.size el size v n xs ∧ Q n xs q) ∨ (∃ q, e = .panicked (badAt q) ∧ N))) :
    Calls Try.prog 48 #[.string s, .func (.func 49) #[] #[c1, c2, c3]] w fun e w' => Below w.heap.size w w' ∧
      ((∃ v n xs, e = .returned (.tuple #[v, .int .i64 0]) ∧ w'.ownsRow w.heap.size el size v n xs ∧ Q n xs s.size) ∨ (e = .returned (.tuple #[.slice none 0 0, .int .i64 3]) ∧ (N ∨ ∃ n xs q, Q n xs q ∧ q < s.size))) := by
  have HCL : Hid _ := hcl
  clear hcl
  go_enter Try.func48, Try.ntmps48
  go_wp2_with fail
  refine (wholeV_any c1 c2 c3 s w hm el size Q N HCL.out).mono ?_
  rintro e w1 ⟨hB, ⟨v, n, xs, rfl, hown, hQ⟩ | ⟨rfl, hN⟩⟩
  · have HB : Hid _ := hB
    have HO : Hid (w1.ownsRow w.heap.size el size v n xs) := hown
    have HQ : Hid (Q n xs s.size) := hQ
    clear hB hown hQ
    go_wp2
    go_ret2
    exact ⟨HB.out, .inl ⟨v, n, xs, rfl, HO.out, HQ.out⟩⟩
  · have HB : Hid _ := hB
    have HN : Hid _ := hN
    clear hB hN
    go_wp2
    go_ret2
    exact ⟨HB.out, .inr ⟨rfl, HN.out⟩⟩

/-- What is decoded, and that there is nothing else. -/
structure DecOk (s : ByteArray) (k e : Int) (cn : Nat) (l : List Val) : Prop where
  len : l.length = cn
  ok : ∀ x ∈ l, VC k x
  eq : columnB k e l = bytesOf s
  uni : ∀ L : List Val, L.length = cn → (∀ x ∈ L, VC k x) → Starts (bytesOf s) 0 (columnB k e L) → L = l
def DecNo (s : ByteArray) (k e : Int) (cn : Nat) : Prop := ∀ L : List Val, L.length = cn → (∀ x ∈ L, VC k x) → columnB k e L ≠ bytesOf s

theorem col_cases (cn k e : Int) : colE cn k e ≠ 0 ∨ (colE cn k e = 0 ∧ hasEncB k e = true ∧ ∃ c : Nat, cn = (c : Int) ∧ c ≤ 100) := by
  unfold colE
  by_cases h1 : cn < 0 ∨ 100 < cn
  · left; rw [if_pos h1]; omega
  · rw [if_neg h1]
    cases he : hasEncB k e with
    | false => left; simp
    | true => right; exact ⟨by simp, rfl, cn.toNat, by omega, by omega⟩

theorem boxes3 (w : World) (a b c : Obj) : (((w.alloc a).alloc b).alloc c).heap.size = w.heap.size + 3 := by simp

set_option maxRecDepth 100000 in
set_option maxHeartbeats 2000000 in
theorem cDecode_any (s : ByteArray) (k e cn : Int) (w : World) (hm : s.size ≤ maxLen) :
    Calls Try.prog 23 #[.string s, .int .i64 k, .int .i64 e, .int .i64 cn] w fun f w' => Below w.heap.size w w' ∧
      ((colE cn k e ≠ 0 ∧ f = .returned (.tuple #[.slice none 0 0, .int .i64 (colE cn k e)])) ∨
       (∃ c : Nat, cn = (c : Int) ∧ c ≤ 100 ∧ colE cn k e = 0 ∧ hasEncB k e = true ∧ ((∃ v l, f = .returned (.tuple #[v, .int .i64 0]) ∧ w'.ownsRow w.heap.size 39 3 v l.length (vcells l) ∧ DecOk s k e c l) ∨ (f = .returned (.tuple #[.slice none 0 0, .int .i64 3]) ∧ DecNo s k e c)))) := by
  have hB : Below w.heap.size w (((w.alloc (.cells #[.int .i64 k] 3)).alloc (.cells #[.int .i64 e] 3)).alloc (.cells #[.int .i64 cn] 3)) := (((Below.refl _ _).alloc (Nat.le_refl _) _).alloc (by simp) _).alloc (by simp; omega) _
  have HBH : Hid _ := hB
  have H := checkColumn_any cn k e
  have hmf : ∀ (fn : Fn) (first cap : Array Value) (w : World), (Instr.makeFunc fn first cap).run Try.prog w = .ok (.func fn first cap) w := fun _ _ _ _ => rfl
  clear hB
  rcases col_cases cn k e with hne | ⟨h0, henc, c, rfl, hc⟩
  · generalize colE cn k e = E at *
    have hEn : (E != 0) = true := by simpa using hne
    go_enter Try.func23, Try.ntmps23
    go_wp2_with (go_at_call 43; refine (H _).mono ?_; rintro r w' ⟨rfl, rfl⟩)
    go_ret2
    exact ⟨HBH.out, .inl ⟨hne, rfl⟩⟩
  · rw [h0] at H
    have c0 := (one_frozen (three_0 w (.cells #[.int .i64 k] 3 (0, 0)) (.cells #[.int .i64 e] 3 (0, 0)) (.cells #[.int .i64 (c : Int)] 3 (0, 0)))).1
    have c1 := (one_frozen (three_1 w (.cells #[.int .i64 k] 3 (0, 0)) (.cells #[.int .i64 e] 3 (0, 0)) (.cells #[.int .i64 (c : Int)] 3 (0, 0)))).1
    have c2 := (one_frozen (three_2 w (.cells #[.int .i64 k] 3 (0, 0)) (.cells #[.int .i64 e] 3 (0, 0)) (.cells #[.int .i64 (c : Int)] 3 (0, 0)))).1
    have hsz := boxes3 w (.cells #[.int .i64 k] 3) (.cells #[.int .i64 e] 3) (.cells #[.int .i64 (c : Int)] 3)
    have C0 : Hid _ := c0
    have C1 : Hid _ := c1
    have C2 : Hid _ := c2
    have HSZ : Hid _ := hsz
    have HE0 : Hid (colE (c : Int) k e = 0) := h0
    have HENC : Hid (hasEncB k e = true) := henc
    clear c0 c1 c2 hsz h0 henc
    go_enter Try.func23, Try.ntmps23
    go_wp2_with (go_at_call 43; refine (H _).mono ?_; rintro r w' ⟨rfl, rfl⟩)
    generalize (((w.alloc (.cells #[.int .i64 k] 3)).alloc (.cells #[.int .i64 e] 3)).alloc (.cells #[.int .i64 (c : Int)] 3)) = W at *
    have hsz := HSZ.out
    refine (readWholeV_any (.pointer (some ⟨w.heap.size, 0, none⟩)) (.pointer (some ⟨w.heap.size + 1, 0, none⟩)) (.pointer (some ⟨w.heap.size + 1 + 1, 0, none⟩)) s W hm 39 3
      (fun n xs q => ∃ l : List Val, n = c ∧ l.length = c ∧ xs = vcells l ∧ q = (columnB k e l).length ∧ (∀ x ∈ l, VC k x) ∧ Starts (bytesOf s) 0 (columnB k e l) ∧ ∀ L : List Val, L.length = c → (∀ x ∈ L, VC k x) → Starts (bytesOf s) 0 (columnB k e L) → L = l)
      (∀ L : List Val, L.length = c → (∀ x ∈ L, VC k x) → ¬ Starts (bytesOf s) 0 (columnB k e L))
      (fun W2 r hb hr hR => decodeC_any k e HENC.out s r c _ _ _ W2 hm hc hR ((hb.cell (p := ⟨w.heap.size, 0, none⟩) (by show w.heap.size < _; omega)).trans C0.out) ((hb.cell (p := ⟨w.heap.size + 1, 0, none⟩) (by show w.heap.size + 1 < _; omega)).trans C1.out) ((hb.cell (p := ⟨w.heap.size + 1 + 1, 0, none⟩) (by show w.heap.size + 1 + 1 < _; omega)).trans C2.out))).mono ?_
    rintro f w1 ⟨hb, ⟨v, n, xs, rfl, hown, l, rfl, hl, rfl, hq, hok, hs, hu⟩ | ⟨rfl, hN⟩⟩
    · have HB1 : Hid (Below w.heap.size w w1) := HBH.out.trans (hb.mono (by omega))
      have HO : Hid (w1.ownsRow w.heap.size 39 3 v l.length (vcells l)) := by rw [hl]; exact ownsRow_base hown (by omega)
      have HD : Hid (DecOk s k e n l) := ⟨hl, hok, starts_whole hs (by rw [bytesOf_length]; omega), hu⟩
      clear hb hown hq hok hs hu hl
      go_wp2
      go_ret2
      exact ⟨HB1.out, .inr ⟨n, rfl, hc, HE0.out, HENC.out, .inl ⟨v, l, rfl, HO.out, HD.out⟩⟩⟩
    · have HB1 : Hid (Below w.heap.size w w1) := HBH.out.trans (hb.mono (by omega))
      have HD : Hid (DecNo s k e c) := by
        intro L hL hok heq
        rcases hN with hN | ⟨n, xs, q, ⟨l, rfl, hl, rfl, hq, hok2, hs, hu⟩, hlt⟩
        · exact hN L hL hok (starts_of_eq heq)
        · have e1 := hu L hL hok (starts_of_eq heq)
          subst e1
          rw [heq, bytesOf_length] at hq
          omega
      clear hb hN
      go_wp2
      go_ret2
      exact ⟨HB1.out, .inr ⟨c, rfl, hc, HE0.out, HENC.out, .inr ⟨rfl, HD.out⟩⟩⟩
end Go.Proofs.Ytjidbonhhpkljaa.Ec
