/- Back: back and forth, in each encoding. -/
import Derived.Test.YtjidbonhhpkljaaDcBackA
import Derived.Deep.CutBlock
set_option linter.unusedVariables false
namespace Go.Proofs.Ytjidbonhhpkljaa.Ec
open Go.RowKit Go.Proofs.Ytjidbonhhpkljaa.Pk Go.Proofs.Ytjidbonhhpkljaa.Pm

theorem VC.vok {k : Int} {v : Val} (hk : k = 1 ∨ k = 2 ∨ k = 3) (h : VC k v) : VOk v := vok_of_may h.vin (h.may hk)
theorem column_len {k e : Int} {l : List Val} (hk : k = 1 ∨ k = 2 ∨ k = 3) (hl : l.length ≤ 100) (hok : ∀ x ∈ l, VC k x) : (columnB k e l).length ≤ 20000 := by
  have h1 := runsB_length (l.map lev) (by simpa using hl)
  have ht := there_length l
  have hv : ∀ x ∈ there l, VOk x := fun x hx => (hok x (there_mem hx)).vok hk
  unfold columnB
  rw [List.length_append]
  have h2 : (codedB k e (there l)).length ≤ 10000 := by
    unfold codedB
    split
    · have := deltaF_length 0 (there l); omega
    · split
      · unfold dictB
        obtain ⟨g1, g2, g3, g4⟩ := dfold_ok (there l) (there l).length (Nat.le_refl _)
        rw [List.take_length] at g1 g2 g3 g4
        have a1 := vintF_length 10 (dfold (there l)).1.length
        have a2 := plainsB_length k (dfold (there l)).1 (fun x hx => hv x (g4 x hx))
        have a3 := packBytes_length (wid (dfold (there l)).1.length) (dfold (there l)).2
        have a4 := wid_le (dfold (there l)).1.length
        have a5 : (dfold (there l)).2.length * wid (dfold (there l)).1.length ≤ 100 * 7 := Nat.mul_le_mul (by omega) a4
        rw [List.length_append, List.length_append, a3]
        unfold vint
        omega
      · split
        · have := runsB_length ((there l).map Val.n) (by rw [List.length_map]; omega)
          omega
        · have := plainsB_length k (there l) hv; omega
  omega

/-- Decode of what Encode gave. -/
theorem decode_back (k e : Int) (l : List Val) (w : World) (hk : k = 1 ∨ k = 2 ∨ k = 3) (he : hasEncB k e = true) (hl : l.length ≤ 100) (hok : ∀ x ∈ l, VC k x) :
    Calls Try.prog 23 #[.string (strOf (columnB k e l)), .int .i64 k, .int .i64 e, .int .i64 (l.length : Int)] w fun f w' => Below w.heap.size w w' ∧ ∃ v, f = .returned (.tuple #[v, .int .i64 0]) ∧ VSl w' v l ∧ DecOk (strOf (columnB k e l)) k e l.length l := by
  refine (cDecode_any _ k e _ w (by rw [strOf_size]; have := column_len (e := e) hk hl hok; unfold maxLen; omega)).mono ?_
  rintro f w' ⟨hb, ⟨hne, _⟩ | ⟨c, hc, hc2, h0, _, ⟨v, l', rfl, hown, hd⟩ | ⟨_, hno⟩⟩⟩
  · exfalso
    apply hne
    unfold colE
    rw [if_neg (by omega), he]
    rfl
  · have hcl : c = l.length := by omega
    subst hcl
    have e1 := dec_same hok hd
    subst e1
    exact ⟨hb, v, rfl, VSl.of_owns hown, hd⟩
  · have hcl : c = l.length := by omega
    subst hcl
    exact absurd hno (dec_there hok)

/-- Decode of what is longer. -/
theorem decode_longer (k e : Int) (l : List Val) (w : World) (hk : k = 1 ∨ k = 2 ∨ k = 3) (he : hasEncB k e = true) (hl : l.length ≤ 100) (hok : ∀ x ∈ l, VC k x) :
    Calls Try.prog 23 #[.string (strOf (columnB k e l) ++ strOf [0]), .int .i64 k, .int .i64 e, .int .i64 (l.length : Int)] w fun f w' => Below w.heap.size w w' ∧ f = .returned (.tuple #[.slice none 0 0, .int .i64 3]) := by
  refine (cDecode_any _ k e _ w (by rw [← strOf_append, strOf_size, List.length_append]; have := column_len (e := e) hk hl hok; unfold maxLen; simp; omega)).mono ?_
  rintro f w' ⟨hb, ⟨hne, _⟩ | ⟨c, hc, hc2, h0, _, ⟨v, l', rfl, hown, hd⟩ | ⟨rfl, hno⟩⟩⟩
  · exfalso
    apply hne
    unfold colE
    rw [if_neg (by omega), he]
    rfl
  · have hcl : c = l.length := by omega
    subst hcl
    exact absurd hd (dec_longer hok)
  · exact ⟨hb, rfl⟩

/-- Decode of what is shorter. -/
theorem decode_shorter (k e : Int) (l : List Val) (s : ByteArray) (w : World) (hk : k = 1 ∨ k = 2 ∨ k = 3) (he : hasEncB k e = true) (hl : l.length ≤ 100) (hok : ∀ x ∈ l, VC k x) (hsz : s.size ≤ maxLen) (hs : bytesOf s = (columnB k e l).take ((columnB k e l).length - 1)) (hne : columnB k e l ≠ [])
    (hd : DecOk (strOf (columnB k e l)) k e l.length l) :
    Calls Try.prog 23 #[.string s, .int .i64 k, .int .i64 e, .int .i64 (l.length : Int)] w fun f w' => Below w.heap.size w w' ∧ f = .returned (.tuple #[.slice none 0 0, .int .i64 3]) := by
  refine (cDecode_any _ k e _ w hsz).mono ?_
  rintro f w' ⟨hb, ⟨hn, _⟩ | ⟨c, hc, hc2, h0, _, ⟨v, l', rfl, hown, hd'⟩ | ⟨rfl, hno⟩⟩⟩
  · exfalso
    apply hn
    unfold colE
    rw [if_neg (by omega), he]
    rfl
  · have hcl : c = l.length := by omega
    subst hcl
    exact absurd hd' (dec_shorter hok hs hne hd)
  · exact ⟨hb, rfl⟩

theorem back_example : encOf [⟨false, 5, ⟨#[]⟩⟩, ⟨true, 0, ⟨#[]⟩⟩, ⟨false, 3, ⟨#[]⟩⟩] 1 1 = (⟨#[1, 1, 1, 0, 1, 1, 10, 3]⟩, 0) := by decide +kernel
end Go.Proofs.Ytjidbonhhpkljaa.Ec
