/- What Pack and Unpack answer, as plain functions; and the contracts of bits and appendPacked in these words. -/
import Derived.Test.YtjidbonhhpkljaaPkAppend
set_option linter.unusedVariables false
namespace Go.Proofs.Ytjidbonhhpkljaa.Pm
theorem V_eq_N (l : List Nat) : V l = N 8 l := by
  induction l with
  | nil => rfl
  | cons x r ih => simp only [V, N, ih]

/-- The bytes of numbers of w bits. -/
def packBytes (wd : Nat) (l : List Nat) : List Nat := D 8 (N wd l) ((l.length * wd + 7) / 8)

theorem packBytes_lt (wd : Nat) (l : List Nat) : ∀ x ∈ packBytes wd l, x < 256 := fun x hx => D_lt 8 _ _ x hx
theorem packBytes_length (wd : Nat) (l : List Nat) : (packBytes wd l).length = (l.length * wd + 7) / 8 := D_length _ _ _

theorem packBytes_of (wd : Nat) (l ns : List Nat) (h1 : ns.length = (l.length * wd + 7) / 8) (h2 : ∀ x ∈ ns, x < 256) (h3 : V ns = N wd l) : ns = packBytes wd l := by
  refine V_inj ns _ h2 (packBytes_lt wd l) (by rw [packBytes_length, h1]) ?_
  rw [V_eq_N (packBytes wd l), packBytes, N_D, ← h3, ← h1, ← pow256, Nat.mod_eq_of_lt (V_lt ns h2)]
end Go.Proofs.Ytjidbonhhpkljaa.Pm

namespace Go.Proofs.Ytjidbonhhpkljaa.Pk
open Go.RowKit Go.Proofs.Ytjidbonhhpkljaa.Pm

/-- Bytes as a text. -/
def strOf (ns : List Nat) : ByteArray := strOfNums (ns.map (fun (n : Nat) => (n : Int)))

theorem strOf_size (ns : List Nat) : (strOf ns).size = ns.length := by
  unfold strOf strOfNums
  simp [ByteArray.size]

def fitsW (wn : Nat) (zs : List Int) : Bool := zs.all fun z => decide (0 ≤ z) && decide (z < pw wn)

/-- Pack's answer. -/
def packOf (zs : List Int) (wd : Int) : ByteArray × Int :=
  if 100 < zs.length then (ByteArray.empty, 6) else if wd < 0 ∨ 16 < wd then (ByteArray.empty, 2)
  else if fitsW wd.toNat zs then (strOf (packBytes wd.toNat (zs.map Int.toNat)), 0) else (ByteArray.empty, 1)

theorem packOf_long {zs : List Int} {wd : Int} (h : 100 < zs.length) : packOf zs wd = (ByteArray.empty, 6) := by simp [packOf, h]
theorem packOf_wide {zs : List Int} {wd : Int} (h : ¬ 100 < zs.length) (h2 : wd < 0 ∨ 16 < wd) : packOf zs wd = (ByteArray.empty, 2) := by simp [packOf, h, h2]
theorem packOf_bad {zs : List Int} {wn : Nat} (h : ¬ 100 < zs.length) (h2 : wn ≤ 16) (h3 : fitsW wn zs = false) : packOf zs wn = (ByteArray.empty, 1) := by
  have h4 : ¬ ((wn : Int) < 0 ∨ 16 < (wn : Int)) := by omega
  simp [packOf, h, h4, h3]
theorem packOf_ok {zs : List Int} {wn : Nat} (h : ¬ 100 < zs.length) (h2 : wn ≤ 16) (h3 : fitsW wn zs = true) : packOf zs wn = (strOf (packBytes wn (zs.map Int.toNat)), 0) := by
  have h4 : ¬ ((wn : Int) < 0 ∨ 16 < (wn : Int)) := by omega
  simp [packOf, h, h4, h3]

theorem fitsW_mem {wn : Nat} {zs : List Int} (h : fitsW wn zs = true) : ∀ z ∈ zs, 0 ≤ z ∧ z < pw wn := by
  intro z hz
  have := List.all_eq_true.1 h z hz
  simpa using this
theorem fitsW_bad {wn : Nat} {zs : List Int} {k : Nat} (hk : k < zs.length) (h : zs[k] < 0 ∨ pw wn ≤ zs[k]) : fitsW wn zs = false := by
  rw [Bool.eq_false_iff]
  intro h2
  have := fitsW_mem h2 _ (List.getElem_mem hk)
  omega
theorem fitsW_all {wn : Nat} {zs : List Int} (h : ∀ j, (hj : j < zs.length) → 0 ≤ zs[j] ∧ zs[j] < pw wn) : fitsW wn zs = true := by
  unfold fitsW
  rw [List.all_eq_true]
  intro z hz
  obtain ⟨j, hj, rfl⟩ := List.getElem_of_mem hz
  have := h j hj
  simp [this.1, this.2]

theorem toNat_lt {wn : Nat} {zs : List Int} (h : fitsW wn zs = true) : ∀ x ∈ zs.map Int.toNat, x < 2 ^ wn := by
  intro x hx
  obtain ⟨z, hz, rfl⟩ := List.mem_map.1 hx
  have := fitsW_mem h z hz
  unfold pw at this
  omega

theorem toNat_cells {w : World} {wn : Nat} {zs : List Int} (h : fitsW wn zs = true) {b off : Nat} (hc : ∀ j, j < zs.length → w.cell? ⟨b, off + j, none⟩ = some (.int .i64 (zs.getD j 0))) :
    ∀ j, j < (zs.map Int.toNat).length → w.cell? ⟨b, off + j, none⟩ = some (.int .i64 (((zs.map Int.toNat).getD j 0 : Nat) : Int)) := by
  intro j hj
  have hj' : j < zs.length := by simpa using hj
  rw [hc j hj']
  have := fitsW_mem h _ (List.getElem_mem hj')
  simp [List.getD, hj', Int.toNat_of_nonneg this.1]

theorem bits_ints (zs : List Int) (wn : Nat) (ao : Option Addr) (b off cap : Nat) (w : World) (hw : wn ≤ 16) (hl : ¬ 100 < zs.length) (hf : fitsW wn zs = true)
    (hs : 0 < zs.length → ao = some ⟨b, off, none⟩) (hb : 0 < zs.length → b < w.heap.size) (hc : ∀ j, j < zs.length → w.cell? ⟨b, off + j, none⟩ = some (.int .i64 (zs.getD j 0))) :
    Calls Try.prog 35 #[.slice ao zs.length cap, .int .i64 wn] w fun e w' => e = .returned (.string (strOf (packBytes wn (zs.map Int.toNat)))) ∧ Below w.heap.size w w' := by
  have h := bits_any (zs.map Int.toNat) wn ao b off cap w hw (by simp; omega) (toNat_lt hf) (by simpa using hs) (by simpa using hb) (toNat_cells hf hc)
  rw [List.length_map] at h
  refine h.mono ?_
  rintro e w' ⟨ns, h1, h2, h3, rfl, h5⟩
  have := packBytes_of wn (zs.map Int.toNat) ns (by rw [List.length_map]; exact h1) h2 h3
  subst this
  exact ⟨rfl, h5⟩

theorem appendPacked_ints (zs : List Int) (wn : Nat) (ao : Option Addr) (b off cap : Nat) (w : World) (hw : wn ≤ 16) (hl : ¬ 100 < zs.length) (hf : fitsW wn zs = true)
    (hs : 0 < zs.length → ao = some ⟨b, off, none⟩) (hb : 0 < zs.length → b < w.heap.size) (hc : ∀ j, j < zs.length → w.cell? ⟨b, off + j, none⟩ = some (.int .i64 (zs.getD j 0))) :
    Calls Try.prog 37 #[.slice none 0 0, .slice ao zs.length cap, .int .i64 wn] w fun e w' => ∃ v, e = .returned v ∧
      w'.ownsRow w.heap.size 5 1 v (packBytes wn (zs.map Int.toNat)).length (bcells (packBytes wn (zs.map Int.toNat))) ∧ Below w.heap.size w w' := by
  have h := appendPacked_any (zs.map Int.toNat) wn ao b off cap w hw (by simp; omega) (toNat_lt hf) (by simpa using hs) (by simpa using hb) (toNat_cells hf hc)
  rw [List.length_map] at h
  refine h.mono ?_
  rintro e w' ⟨v, ns, h1, h2, h3, rfl, h4, h5⟩
  have := packBytes_of wn (zs.map Int.toNat) ns (by rw [List.length_map]; exact h1) h2 h3
  subst this
  exact ⟨_, rfl, h4, h5⟩

/-- 'string(b)', b the call's own bytes. -/
theorem run_string_own {w : World} {base n : Nat} {v : Value} {ns : List Nat} (h : w.ownsRow base 5 1 v n (bcells ns)) (hl : ns.length = n) :
    (convert 44 9 v).run Try.prog w = .ok (.string (strOf ns)) w := by
  rcases h.2 with ⟨h1, h2⟩ | ⟨g, cap, cur, h1, _⟩
  · have hn : ns = [] := List.eq_nil_of_length_eq_zero (by omega)
    subst hn
    subst h1
    exact run_convert_bytes_nil w 44 5 Try.underlying44 Try.underlying5 0 0 9 Try.underlying9
  · subst h1
    exact run_convert_bytes_arg w 44 5 Try.underlying44 Try.underlying5 g 0 n cap _ (by simp [hl]) (bcells_at h hl) 9 Try.underlying9
end Go.Proofs.Ytjidbonhhpkljaa.Pk
