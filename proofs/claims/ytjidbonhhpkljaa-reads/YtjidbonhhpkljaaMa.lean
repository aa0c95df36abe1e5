/- What the proof stands on: PkA, PkMath, PkBits, PkRows, PkInts, PkSpec, PkNumbers, PkUnpackR, PkReader, PkThree, PkBook, PkOwn, EcMath, EcVals, EcVint, EcSmall, EcRuns, DcRunsP, EcPlain, EcWide, EcList, EcColC, EcPacked, EcKeys, EcDictC, EcColumnC, EcChunkR, EcEncode, DcSeq, DcDictP. -/
import Derived.Test.YtjidbonhhpkljaaRows
import Derived.WalkKit
import Derived.ProofKit
import Derived.Deep.QuietTactic
import Derived.BigQuiet
import Derived.Laws.BytesArg
import Derived.Deep.RegionWith
import Derived.ArgAppend
import Derived.Laws.CopyOwn
import Derived.Laws.BitsLemmas
import Derived.WalkLawsBesides
import Derived.Recover
import Derived.Laws.StructEq
import Derived.Lib.AppendStr
import Derived.Lib.Strings
import Derived.Lib.Slices
import Derived.Lib.Small
import Derived.Lib.Walk
import Derived.Lib.BitFns
import Derived.Maps.OwnSet
import Derived.Maps.OwnOps
import Derived.DeepKeys4

/- The contracts of the small functions beneath Pack: power gives 2^n; checkCount and checkPacking give the document's errors in their order. -/
set_option linter.unusedVariables false
namespace Go.Proofs.Ytjidbonhhpkljaa.Pk
open Go.RowKit
theorem ret_int {k : IntKind} {a b : Int} (h : a = b) : Ending.returned (.int k a) = .returned (.int k b) := by rw [h]

/-- 2 to the n, as a number. -/
def pw (n : Nat) : Int := ((2 ^ n : Nat) : Int)
end Go.Proofs.Ytjidbonhhpkljaa.Pk

/- Plain mathematics of packing: a list of bytes is fixed by its length and by the number that it spells; a list of numbers below 2^w likewise. -/
set_option linter.unusedVariables false
namespace Go.Proofs.Ytjidbonhhpkljaa.Pm
/-- The number that bytes spell, the lowest first. -/
def V : List Nat → Nat
  | [] => 0
  | b :: r => b + 256 * V r

/-- The number that numbers of w bits spell, the lowest first. -/
def N (w : Nat) : List Nat → Nat
  | [] => 0
  | x :: r => x + 2 ^ w * N w r

/-- The numbers of w bits that stand in a number. -/
def D (w v : Nat) : Nat → List Nat
  | 0 => []
  | n + 1 => D w v n ++ [v / 2 ^ (w * n) % 2 ^ w]

theorem D_length (w v n : Nat) : (D w v n).length = n := by
  induction n with
  | zero => rfl
  | succ k ih => simp [D, ih]

end Go.Proofs.Ytjidbonhhpkljaa.Pm

/- The contract of the document's bits: the bytes of a list of numbers of so many bits. -/
set_option linter.unusedVariables false
namespace Go.Proofs.Ytjidbonhhpkljaa.Pk
open Go.RowKit Go.Proofs.Ytjidbonhhpkljaa.Pm
theorem Try.info5 : (Try.prog.info? 5).map (fun i => (i.zero, i.size, i.bytes)) = some (some (.int .u8 0), 1, 1) := by kernel_rfl
theorem Try.info3 : (Try.prog.info? 3).map (fun i => (i.zero, i.size, i.bytes)) = some (some (.int .i64 0), 1, 8) := by kernel_rfl

/-- The cells of bytes. -/
def bcells (ns : List Nat) : List Value := ns.map fun (n : Nat) => Value.int .u8 (n : Int)

theorem wrap_u8_id {x : Int} (h0 : 0 ≤ x) (h1 : x < 256) : IntKind.u8.wrap x = x := by
  simp [IntKind.wrap, IntKind.signed, IntKind.bits]; omega
theorem below_drewN {B : Nat} {a w : World} (h : Below B a w) (n : Nat) : Below B a (w.drewN n) := h.trans ⟨rfl, rfl, rfl, Nat.le_refl _, fun _ _ => rfl⟩
theorem ownsRow_drewN {w : World} {base : Nat} {e : TypeId} {size : Nat} {v : Value} {n : Nat} {xs : List Value} (h : w.ownsRow base e size v n xs) (k : Nat) : (w.drewN k).ownsRow base e size v n xs := by
  induction k with
  | zero => exact h
  | succ k ih => exact ih.drew

end Go.Proofs.Ytjidbonhhpkljaa.Pk

/- Rows of the call's own: a lower base, what stays below, and 'append' that says whether the row has moved. -/
set_option linter.unusedVariables false
namespace Go.Proofs.Ytjidbonhhpkljaa.Pk
open Go.RowKit Go.Proofs.Ytjidbonhhpkljaa.Pm
theorem ownsRow_base {w : World} {base B : Nat} {e : TypeId} {size : Nat} {v : Value} {n : Nat} {xs : List Value} (h : w.ownsRow base e size v n xs) (hb : B ≤ base) : w.ownsRow B e size v n xs := by
  refine ⟨h.1, ?_⟩
  rcases h.2 with h1 | ⟨g, cap, cur, h1, h2, h3⟩
  · exact .inl h1
  · exact .inr ⟨g, cap, cur, h1, Nat.le_trans hb h2, h3⟩

theorem ownsRow_below {w w' : World} {base : Nat} {e : TypeId} {size : Nat} {v : Value} {n : Nat} {xs : List Value} (h : w.ownsRow base e size v n xs) (hb : Below w.heap.size w w') : w'.ownsRow base e size v n xs := by
  refine ⟨h.1, ?_⟩
  rcases h.2 with h1 | ⟨g, cap, cur, h1, h2, h3, h4⟩
  · exact .inl h1
  · exact .inr ⟨g, cap, cur, h1, h2, by rw [hb.block g (lt_of_block h3)]; exact h3, h4⟩

/-- 'append' on a row of the call's own: it stays where it was, or it moves, and then nothing old has turned. -/
theorem wpList_append_keep {P : Program} (w : World) {ops : Array Oper} {rest : List Oper} {o : Oper} {a : Act} {Q : Exit → Act → World → Prop}
    (hg : o.guard = none) (s x : Operand) (t : TypeId) (hop : o.op = Op.call { callee := Callee.builtin Builtin.append, args := #[s, x], argTypes := #[t, t] })
    (base : Nat) (e : TypeId) (i : TypeInfo) (z : Value) (size bytes : Nat) (h1 : P.underlying t = some (.slice e)) (h2 : P.info? e = some i) (h3 : i.zero = some z) (h4 : i.size = size) (h5 : i.bytes = bytes) (h6 : z.cells.size = size) (h7 : 0 < size)
    (v : Value) (n : Nat) (xs : List Value) (hs : a.eval s = v) (hown : w.ownsRow base e size v n xs)
    (ad : Addr) (m c : Nat) (news : List Value) (hx : a.eval x = .slice (some ad) m c) (hm : 0 < m) (hn : news.length = m * size) (hc : ∀ j u, news[j]? = some u → w.cell? (ad.add j) = some u) (h1c : ∀ u ∈ news, u.oneCell' = true)
    (b1 : n + m ≤ maxLen) (b2 : (n + m) * bytes ≤ 140737488355328) (b3 : base ≤ w.heap.size)
    (hK : ∀ v' w', w'.ownsRow base e size v' (n + m) (xs ++ news) → ((w.grownBy w' none ∧ w'.ownsRow w.heap.size e size v' (n + m) (xs ++ news)) ∨ (v'.ownBlock = v.ownBlock ∧ w.grownBy w' v.ownBlock)) → wpList P ops Q rest (a.put o.dst v') w') :
    wpList P ops Q (o :: rest) a w := by
  rcases hown.2 with ⟨rfl, rfl⟩ | ⟨g, cap, cur, rfl, hbg, hgb, hnc, hcm, hcs, htake⟩
  · have hxs : xs = [] := List.eq_nil_of_length_eq_zero (by simpa using hown.1)
    subst hxs
    exact wpList_append_grows w hg s x t hop e i z size bytes h1 h2 h3 h4 h5 h6 h7 none 0 0 [] hs (fun _ => ⟨rfl, rfl⟩) (by simp) (fun b h => by cases h) ad m c news hx hn hc h1c (by omega) b1 b2
      fun v' w' o1 g1 => hK v' w' (ownsRow_base o1 b3) (.inl ⟨g1, o1⟩)
  · by_cases hr : n + m ≤ cap
    · exact wpList_append_fits w hg s x t hop base e i size h1 h2 h4 g n cap xs hs hown ad m c news hx hn hc h1c hr fun w' o1 g1 => hK _ w' o1 (.inr ⟨rfl, g1⟩)
    · exact wpList_append_grows w hg s x t hop e i z size bytes h1 h2 h3 h4 h5 h6 h7 (some ⟨g, 0, none⟩) n cap xs hs (fun h => by cases h) hown.1 (fun b hb => by cases hb; exact hown.cells (g := g) rfl) ad m c news hx hn hc h1c (by omega) b1 b2
        fun v' w' o1 g1 => hK v' w' (ownsRow_base o1 b3) (.inl ⟨g1, o1⟩)

end Go.Proofs.Ytjidbonhhpkljaa.Pk

/- The contracts of the statement's own helpers on lists of numbers: lentInts and sameInts. -/
set_option linter.unusedVariables false
namespace Go.Proofs.Ytjidbonhhpkljaa.Pk
open Go.RowKit Go.Proofs.Ytjidbonhhpkljaa.Pm
theorem getD_get {zs : List Int} {k : Nat} (h : k < zs.length) : zs.getD k 0 = zs[k] := by simp [List.getD, h]

/-- The cells of numbers. -/
def icells (zs : List Int) : List Value := zs.map (Value.int .i64)

theorem icells_get (zs : List Int) (i : Nat) (h : i < zs.length) : (icells zs)[i]? = some (.int .i64 zs[i]) := by simp [icells, h]
end Go.Proofs.Ytjidbonhhpkljaa.Pk

/- What Pack and Unpack answer, as plain functions; and the contracts of bits and appendPacked in these words. -/
set_option linter.unusedVariables false
namespace Go.Proofs.Ytjidbonhhpkljaa.Pm
/-- The bytes of numbers of w bits. -/
def packBytes (wd : Nat) (l : List Nat) : List Nat := D 8 (N wd l) ((l.length * wd + 7) / 8)

theorem packBytes_length (wd : Nat) (l : List Nat) : (packBytes wd l).length = (l.length * wd + 7) / 8 := D_length _ _ _

end Go.Proofs.Ytjidbonhhpkljaa.Pm
namespace Go.Proofs.Ytjidbonhhpkljaa.Pk
open Go.RowKit Go.Proofs.Ytjidbonhhpkljaa.Pm
/-- Bytes as a text. -/
def strOf (ns : List Nat) : ByteArray := strOfNums (ns.map (fun (n : Nat) => (n : Int)))

theorem strOf_size (ns : List Nat) : (strOf ns).size = ns.length := by
  unfold strOf strOfNums
  simp [ByteArray.size]

def fitsW (wn : Nat) (zs : List Int) : Bool := zs.all fun z => decide (0 ≤ z) && decide (z < pw wn)

theorem fitsW_mem {wn : Nat} {zs : List Int} (h : fitsW wn zs = true) : ∀ z ∈ zs, 0 ≤ z ∧ z < pw wn := by
  intro z hz
  have := List.all_eq_true.1 h z hz
  simpa using this
theorem toNat_lt {wn : Nat} {zs : List Int} (h : fitsW wn zs = true) : ∀ x ∈ zs.map Int.toNat, x < 2 ^ wn := by
  intro x hx
  obtain ⟨z, hz, rfl⟩ := List.mem_map.1 hx
  have := fitsW_mem h z hz
  unfold pw at this
  omega

end Go.Proofs.Ytjidbonhhpkljaa.Pk

/- The contract of the document's numbers: the numbers of so many bits that stand in bytes, as far as they go. -/
set_option linter.unusedVariables false
namespace Go.Proofs.Ytjidbonhhpkljaa.Pm
end Go.Proofs.Ytjidbonhhpkljaa.Pm
namespace Go.Proofs.Ytjidbonhhpkljaa.Pk
open Go.RowKit Go.Proofs.Ytjidbonhhpkljaa.Pm
/-- The bytes of a text, as numbers. -/
def bytesOf (s : ByteArray) : List Nat := s.data.toList.map UInt8.toNat
theorem bytesOf_lt (s : ByteArray) : ∀ x ∈ bytesOf s, x < 256 := by
  intro x hx
  obtain ⟨u, _, rfl⟩ := List.mem_map.1 hx
  exact u.toNat_lt
theorem bytesOf_length (s : ByteArray) : (bytesOf s).length = s.size := by simp [bytesOf]
theorem bytesOf_get (s : ByteArray) (j : Nat) (h : j < s.size) : (bytesOf s)[j]'(by rw [bytesOf_length]; exact h) = s[j].toNat := by
  simp only [bytesOf, List.getElem_map]; rfl

end Go.Proofs.Ytjidbonhhpkljaa.Pk

/- What Unpack answers, as a plain function, and the contract of the document's Unpack. -/
set_option linter.unusedVariables false
namespace Go.Proofs.Ytjidbonhhpkljaa.Pk
open Go.RowKit Go.Proofs.Ytjidbonhhpkljaa.Pm
theorem bytesOf_strOf (ns : List Nat) (h : ∀ x ∈ ns, x < 256) : bytesOf (strOf ns) = ns := by
  unfold bytesOf strOf strOfNums
  simp only [List.map_map]
  have : ∀ x ∈ ns, (UInt8.toNat ∘ (fun (n : Int) => UInt8.ofNat n.toNat) ∘ fun (n : Nat) => (n : Int)) x = x := by
    intro x hx
    have := h x hx
    simp; omega
  rw [List.map_congr_left this]
  simp

theorem bytesOf_inj {s t : ByteArray} (h : bytesOf s = bytesOf t) : s = t := by
  have h2 : s.data.toList = t.data.toList := by
    unfold bytesOf at h
    exact List.map_inj_right (fun a b hab => UInt8.toNat_inj.1 hab) |>.1 h
  cases s; cases t
  simp at h2
  simp [h2]

theorem toList_inj {s t : ByteArray} (h : s.toList = t.toList) : s = t := by
  have h1 : ∀ u : ByteArray, u.toList = u.data.toList := fun u => ByteArray.toList_eq u
  rw [h1, h1] at h
  cases s; cases t
  simp at h
  simp [h]

end Go.Proofs.Ytjidbonhhpkljaa.Pk

/- The contracts of the code's Reader: a byte is taken, or the bytes are given up by a panic. -/
set_option linter.unusedVariables false
namespace Go.Proofs.Ytjidbonhhpkljaa.Pk
open Go.RowKit Go.Proofs.Ytjidbonhhpkljaa.Pm
theorem extract_one (s : ByteArray) (p : Nat) (h : p < s.size) : s.extract p (p + 1) = ⟨#[s[p]]⟩ := by
  apply bytesOf_inj
  unfold bytesOf
  congr 1
  rw [ByteArray.data_extract]
  simp only [Array.toList_extract]
  have h2 : p < s.data.toList.length := h
  rw [show List.extract s.data.toList p (p + 1) = (s.data.toList.drop p).take 1 from by simp [List.extract], List.drop_eq_getElem_cons h2]
  rfl

/-- The block of a Reader. -/
def rdr (s : ByteArray) (p : Nat) : Obj := .cells #[.string s, .int .i64 (p : Int)] 181 (0, 0)

/-- The panic by which a Reader gives up. -/
def badAt (p : Nat) : List PanicEntry := [{ v := .iface 183 (.agg #[.int .i64 (p : Int)]), recovered := false }]

theorem rdr_cells {w : World} {r p : Nat} {s : ByteArray} (h : w.heap[r]? = some (rdr s p)) :
    w.cell? ⟨r, 0, none⟩ = some (.string s) ∧ w.cell? ⟨r, 1, none⟩ = some (.int .i64 (p : Int)) ∧ w.frozen? ⟨r, 0, none⟩ = false ∧ w.frozen? ⟨r, 1, none⟩ = false := by
  unfold rdr at h
  refine ⟨?_, ?_, ?_, ?_⟩
  · simp [World.cell?, h]
  · simp [World.cell?, h]
  · simp [World.frozen?, h]
  · simp [World.frozen?, h]

theorem drew_set (w : World) (a : Addr) (v : Value) (m n : Nat) : ((w.drewN m).setCell a v).drewN n = (w.setCell a v).drewN (m + n) := by
  rw [show (w.drewN m).setCell a v = (w.setCell a v).drewN m from by unfold World.setCell; rfl, World.drewN_drewN]

set_option maxRecDepth 100000 in
set_option maxHeartbeats 1000000 in
theorem giveUp_any (r p : Nat) (s : ByteArray) (w : World) (h : w.heap[r]? = some (rdr s p)) :
    Calls Try.prog 84 #[.pointer (some ⟨r, 0, none⟩)] w fun e w' => e = .panicked (badAt p) ∧ w' = w := by
  obtain ⟨c0, c1, f0, f1⟩ := rdr_cells h
  clear h
  go_enter Try.func84, Try.ntmps84
  go_wp2
  exact ⟨rfl, rfl, rfl⟩

set_option maxRecDepth 100000 in
set_option maxHeartbeats 1000000 in
theorem take_bad (r p : Nat) (s : ByteArray) (w : World) (hm : s.size ≤ maxLen) (hp : ¬ p < s.size) (hp2 : p ≤ s.size) (h : w.heap[r]? = some (rdr s p)) :
    Calls Try.prog 119 #[.pointer (some ⟨r, 0, none⟩), .int .i64 1] w fun e w' => e = .panicked (badAt p) ∧ ∃ n, w' = w.drewN n := by
  obtain ⟨c0, c1, f0, f1⟩ := rdr_cells h
  unfold maxLen at hm
  have HR : Hid (w.heap[r]? = some (rdr s p)) := h
  clear h
  have hd : decide ((s.size : Int) - (p : Int) < 1) = true := by simp; omega
  go_enter Try.func119, Try.ntmps119
  go_wp2_with fail
  go_quiet (fail)
  go_wp2_with (go_at_call 84; refine (giveUp_any r p s _ (by exact HR.out)).mono ?_; rintro e w' ⟨rfl, rfl⟩)
  exact ⟨rfl, rfl, nq, rfl⟩

set_option maxRecDepth 100000 in
set_option maxHeartbeats 1000000 in
theorem take_ok (r p : Nat) (s : ByteArray) (w : World) (hm : s.size ≤ maxLen) (hp : p < s.size) (h : w.heap[r]? = some (rdr s p)) :
    Calls Try.prog 119 #[.pointer (some ⟨r, 0, none⟩), .int .i64 1] w fun e w' => e = .returned (.string ⟨#[s[p]]⟩) ∧ ∃ n, w' = (w.setCell ⟨r, 1, none⟩ (.int .i64 ((p + 1 : Nat) : Int))).drewN n := by
  obtain ⟨c0, c1, f0, f1⟩ := rdr_cells h
  unfold maxLen at hm
  clear h
  have hd : decide ((s.size : Int) - (p : Int) < 1) = false := by simp; omega
  have q1 : (0 : Int) ≤ (p : Int) + 1 := by omega
  have q2 : (p : Int) + 1 ≤ (s.size : Int) := by omega
  have q3 : (p : Int) ≤ (p : Int) + 1 := by omega
  have q4 : ((p : Int) + 1).toNat = p + 1 := by omega
  have q5 := extract_one s p hp
  go_enter Try.func119, Try.ntmps119
  go_wp2_with fail
  go_quiet (fail)
  generalize nq = m at *
  go_wp2_with fail
  go_quiet (fail)
  go_wp2
  go_ret
  exact ⟨rfl, m + nq, drew_set _ _ _ _ _⟩

set_option maxRecDepth 100000 in
set_option maxHeartbeats 1000000 in
theorem byte_bad (r p : Nat) (s : ByteArray) (w : World) (hm : s.size ≤ maxLen) (hp : ¬ p < s.size) (hp2 : p ≤ s.size) (h : w.heap[r]? = some (rdr s p)) :
    Calls Try.prog 83 #[.pointer (some ⟨r, 0, none⟩)] w fun e w' => e = .panicked (badAt p) ∧ ∃ n, w' = w.drewN n := by
  have HR : Hid (w.heap[r]? = some (rdr s p)) := h
  clear h
  go_enter Try.func83, Try.ntmps83
  go_wp2_with (go_at_call 119; refine (take_bad r p s _ hm hp hp2 HR.out).mono ?_; rintro e w' ⟨rfl, n, rfl⟩)
  exact ⟨rfl, rfl, n, rfl⟩

set_option maxRecDepth 100000 in
set_option maxHeartbeats 1000000 in
theorem byte_ok (r p : Nat) (s : ByteArray) (w : World) (hm : s.size ≤ maxLen) (hp : p < s.size) (h : w.heap[r]? = some (rdr s p)) :
    Calls Try.prog 83 #[.pointer (some ⟨r, 0, none⟩)] w fun e w' => e = .returned (.int .u8 (s[p].toNat : Int)) ∧ ∃ n, w' = (w.setCell ⟨r, 1, none⟩ (.int .i64 ((p + 1 : Nat) : Int))).drewN n := by
  have HR : Hid (w.heap[r]? = some (rdr s p)) := h
  clear h
  go_enter Try.func83, Try.ntmps83
  go_wp2_with (go_at_call 119; refine (take_ok r p s _ hm hp HR.out).mono ?_; rintro e w' ⟨rfl, n, rfl⟩)
  go_ret
  exact ⟨rfl, n, rfl⟩

set_option maxRecDepth 100000 in
set_option maxHeartbeats 1000000 in
theorem end_bad (r p : Nat) (s : ByteArray) (w : World) (hm : s.size ≤ maxLen) (hp : p < s.size) (h : w.heap[r]? = some (rdr s p)) :
    Calls Try.prog 111 #[.pointer (some ⟨r, 0, none⟩)] w fun e w' => e = .panicked (badAt p) ∧ ∃ n, w' = w.drewN n := by
  obtain ⟨c0, c1, f0, f1⟩ := rdr_cells h
  unfold maxLen at hm
  have HR : Hid (w.heap[r]? = some (rdr s p)) := h
  clear h
  have hd : decide ((p : Int) < (s.size : Int)) = true := by simp; omega
  go_enter Try.func111, Try.ntmps111
  go_wp2_with fail
  go_quiet (fail)
  go_wp2_with (go_at_call 84; refine (giveUp_any r p s _ (by exact HR.out)).mono ?_; rintro e w' ⟨rfl, rfl⟩)
  exact ⟨rfl, rfl, nq, rfl⟩

set_option maxRecDepth 100000 in
set_option maxHeartbeats 1000000 in
theorem end_ok (r p : Nat) (s : ByteArray) (w : World) (hm : s.size ≤ maxLen) (hp : ¬ p < s.size) (h : w.heap[r]? = some (rdr s p)) :
    Calls Try.prog 111 #[.pointer (some ⟨r, 0, none⟩)] w fun e w' => e = .returned (.tuple #[]) ∧ ∃ n, w' = w.drewN n := by
  obtain ⟨c0, c1, f0, f1⟩ := rdr_cells h
  unfold maxLen at hm
  clear h
  have hd : decide ((p : Int) < (s.size : Int)) = false := by simp; omega
  go_enter Try.func111, Try.ntmps111
  go_wp2_with fail
  go_quiet (fail)
  go_wp2
  go_end0
  exact ⟨rfl, nq, rfl⟩

set_option maxRecDepth 100000 in
set_option maxHeartbeats 1000000 in
theorem newReader_any (s : ByteArray) (w : World) :
    Calls Try.prog 100 #[.string s] w fun e w' => e = .returned (.pointer (some ⟨w.heap.size, 0, none⟩)) ∧ w' = w.alloc (rdr s 0) := by
  go_enter Try.func100, Try.ntmps100
  go_wp2
  go_ret
  exact ⟨rfl, rfl⟩

theorem rdr_set {w : World} {r p q : Nat} {s : ByteArray} (h : w.heap[r]? = some (rdr s p)) (n : Nat) : ((w.setCell ⟨r, 1, none⟩ (.int .i64 (q : Int))).drewN n).heap[r]? = some (rdr s q) := by
  show (w.setCell ⟨r, 1, none⟩ (.int .i64 (q : Int))).heap[r]? = _
  unfold rdr at *
  rw [heap_setCell_same w r 1 _ _ _ h]
  rfl

/-- But for the Reader's block all that was there has stayed. -/
def Kp (r : Nat) (w w' : World) : Prop := w.grownBy w' (some r)
theorem Kp.refl (r : Nat) (w : World) : Kp r w w := World.grownBy.refl w _
theorem Kp.size {r : Nat} {w w' : World} (h : Kp r w w') : w.heap.size ≤ w'.heap.size := World.grownBy.size h
theorem Kp.trans {r : Nat} {w w1 w2 : World} (h : Kp r w w1) (k : Kp r w1 w2) : Kp r w w2 :=
  ⟨k.os.trans h.os, k.tape.trans h.tape, k.output.trans h.output, Nat.le_trans (World.grownBy.size h) (World.grownBy.size k), fun i hi hne => (World.grownBy.block k i (Nat.lt_of_lt_of_le hi (World.grownBy.size h)) hne).trans (World.grownBy.block h i hi hne)⟩
theorem Kp.drewN {r : Nat} {w w1 : World} (h : Kp r w w1) (n : Nat) : Kp r w (w1.drewN n) := Kp.trans h ⟨rfl, rfl, rfl, Nat.le_refl _, fun _ _ _ => rfl⟩
theorem Kp.alloc {r : Nat} {w w1 : World} (h : Kp r w w1) (o : Obj) : Kp r w (w1.alloc o) := Kp.trans h (World.grownBy_alloc w1 o _)
theorem Kp.grown {r : Nat} {w w1 w2 : World} {row : Option Nat} (h : Kp r w w1) (k : w1.grownBy w2 row) (hr : ∀ g, row = some g → w.heap.size ≤ g) : Kp r w w2 :=
  ⟨k.os.trans h.os, k.tape.trans h.tape, k.output.trans h.output, Nat.le_trans (World.grownBy.size h) k.size, fun i hi hne => (k.block i (Nat.lt_of_lt_of_le hi (World.grownBy.size h)) (fun e => by have := hr i e.symm; omega)).trans (World.grownBy.block h i hi hne)⟩
theorem Kp.set {r : Nat} {w w1 : World} (h : Kp r w w1) (o : Nat) (v : Value) (n : Nat) : Kp r w ((w1.setCell ⟨r, o, none⟩ v).drewN n) :=
  Kp.trans h ⟨rfl, rfl, rfl, by simp, fun i hi hne => by
    show (w1.setCell ⟨r, o, none⟩ v).heap[i]? = _
    exact heap_setCell_other _ _ _ _ (fun e => hne (by cases e; rfl))⟩
theorem Kp.below {r : Nat} {w w1 : World} (h : Kp r w w1) (hr : r ≤ w.heap.size) : Below r w w1 := ⟨h.os, h.tape, h.output, World.grownBy.size h, fun i hi => World.grownBy.block h i (by omega) (fun e => by cases e; omega)⟩
theorem Kp.of_below {r : Nat} {w w1 : World} (h : Below w.heap.size w w1) : Kp r w w1 := ⟨h.os, h.tape, h.output, h.size, fun i hi _ => h.block i hi⟩
theorem Kp.own {r : Nat} {w w1 : World} {base e size n : Nat} {v : Value} {xs : List Value} (k : Kp r w w1) (h : w.ownsRow base e size v n xs) (hr : r < base) : w1.ownsRow base e size v n xs :=
  h.kept k (by
    cases hv : v.ownBlock with
    | none => exact .inl rfl
    | some g => exact .inr (fun e => by cases e; have := (h.lt r hv).1; omega))
theorem Kp.block {r : Nat} {w w1 : World} (k : Kp r w w1) {i : Nat} {o : Obj} (h : w.heap[i]? = some o) (hne : i ≠ r) : w1.heap[i]? = some o := by
  rw [World.grownBy.block k i (lt_of_block h) (fun e => hne (by cases e; rfl))]; exact h
end Go.Proofs.Ytjidbonhhpkljaa.Pk

/- Three new blocks, one behind the other. -/
set_option linter.unusedVariables false
namespace Go.Proofs.Ytjidbonhhpkljaa.Pk
open Go.RowKit Go.Proofs.Ytjidbonhhpkljaa.Pm
theorem three_0 (w : World) (a b c : Obj) : (((w.alloc a).alloc b).alloc c).heap[w.heap.size]? = some a := by
  rw [Below.heap_alloc _ _ _ (by simp; omega), Below.heap_alloc _ _ _ (by simp)]; exact heap_alloc_new w a
theorem three_1 (w : World) (a b c : Obj) : (((w.alloc a).alloc b).alloc c).heap[w.heap.size + 1]? = some b := by
  rw [Below.heap_alloc _ _ _ (by simp)]
  have := heap_alloc_new (w.alloc a) b
  rwa [show (w.alloc a).heap.size = w.heap.size + 1 from by simp] at this
theorem three_2 (w : World) (a b c : Obj) : (((w.alloc a).alloc b).alloc c).heap[w.heap.size + 1 + 1]? = some c := by
  have := heap_alloc_new ((w.alloc a).alloc b) c
  rwa [show ((w.alloc a).alloc b).heap.size = w.heap.size + 1 + 1 from by simp] at this
end Go.Proofs.Ytjidbonhhpkljaa.Pk

/- The statement's book of lists of numbers that came out: what stays true of it while lists are written over and grow. -/
set_option linter.unusedVariables false
namespace Go.Proofs.Ytjidbonhhpkljaa.Pk
open Go.RowKit Go.Proofs.Ytjidbonhhpkljaa.Pm
/-- A list of numbers that reads as its mark says. -/
def Filled (w : World) (v : Value) (m : Int) : Prop :=
  ∃ ao n cap, v = .slice ao n cap ∧ n ≤ 1000 ∧ (0 < n → ∃ g cur, ao = some ⟨g, 0, none⟩ ∧ w.heap[g]? = some (.cells cur 3 (0, 0)) ∧ ∀ j, j < n → cur[j]? = some (.int .i64 (-1 - m)))

/-- The cells of the book's entries. -/
def ecells (es : List (Value × Int)) : List Value := es.flatMap fun e => [e.1, .int .i64 e.2]

theorem ecells_snoc (es : List (Value × Int)) (e : Value × Int) : ecells es ++ [e.1, .int .i64 e.2] = ecells (es ++ [e]) := by simp [ecells]
theorem ecells_get (es : List (Value × Int)) (i : Nat) (h : i < es.length) : (ecells es)[2 * i]? = some es[i].1 ∧ (ecells es)[2 * i + 1]? = some (.int .i64 es[i].2) := by
  induction es generalizing i with
  | nil => simp at h
  | cons e r ih =>
    cases i with
    | zero => simp [ecells]
    | succ k =>
      have := ih k (by simpa using h)
      simp only [ecells, List.flatMap_cons, List.getElem_cons_succ] at *
      rw [List.getElem?_append_right (by simp; omega), List.getElem?_append_right (by simp; omega)]
      simp only [List.length_cons, List.length_nil]
      rw [show 2 * (k + 1) - (0 + 1 + 1) = 2 * k by omega, show 2 * (k + 1) + 1 - (0 + 1 + 1) = 2 * k + 1 by omega]
      exact this

/-- The book, with its entries. -/
structure BkInv (w : World) (base B : Nat) (iv : Value) (es : List (Value × Int)) : Prop where
  blk : w.heap[B]? = some (.cells #[iv, .slice none 0 0, .slice none 0 0, .slice none 0 0] 70 (0, 0))
  own : w.ownsRow base 121 2 iv es.length (ecells es)
  full : ∀ e ∈ es, Filled w e.1 e.2

theorem blk_ne {w : World} {a b : Nat} {c1 c2 : Array Value} {e1 e2 : TypeId} {f1 f2 : Nat × Nat} (h1 : w.heap[a]? = some (.cells c1 e1 f1)) (h2 : w.heap[b]? = some (.cells c2 e2 f2)) (hne : e1 ≠ e2) : a ≠ b := by
  intro h
  subst h
  rw [h1] at h2
  simp at h2
  exact hne h2.2.1

theorem Filled.other {w w' : World} {v : Value} {m : Int} {row : Option Nat} (h : Filled w v m) (hg : w.grownBy w' row)
    (hne : ∀ g cur, v.ownBlock = some g → w.heap[g]? = some (.cells cur 3 (0, 0)) → row ≠ some g) : Filled w' v m := by
  obtain ⟨ao, n, cap, rfl, hn, hf⟩ := h
  refine ⟨ao, n, cap, rfl, hn, fun h0 => ?_⟩
  obtain ⟨g, cur, rfl, hb, hc⟩ := hf h0
  exact ⟨g, cur, rfl, by rw [hg.block g (lt_of_block hb) (fun h => hne g cur rfl hb h.symm)]; exact hb, hc⟩

/-- The block of an owned row bears its elements' type. -/
theorem owns_blk {w : World} {base : Nat} {e : TypeId} {size : Nat} {v : Value} {n : Nat} {xs : List Value} (h : w.ownsRow base e size v n xs) {g : Nat} (hg : v.ownBlock = some g) :
    ∃ cur, w.heap[g]? = some (.cells cur e (0, 0)) := by
  rcases h.2 with ⟨rfl, _⟩ | ⟨g', cap, cur, rfl, _, h3, _⟩
  · simp [Value.ownBlock] at hg
  · simp [Value.ownBlock] at hg
    subst hg
    exact ⟨cur, h3⟩

theorem BkInv.other {w w' : World} {base B : Nat} {iv : Value} {es : List (Value × Int)} {row : Option Nat} (h : BkInv w base B iv es) (hg : w.grownBy w' row)
    (h3 : ∀ g, row = some g → (∃ cur, w.heap[g]? = some (.cells cur 3 (0, 0))) ∧ ∀ e ∈ es, ∀ ao n cap, e.1 = .slice ao n cap → 0 < n → e.1.ownBlock ≠ some g) : BkInv w' base B iv es := by
  refine ⟨?_, ?_, ?_⟩
  · rw [hg.block B (lt_of_block h.blk) (fun hr => ?_)]
    · exact h.blk
    · obtain ⟨⟨cur, hc⟩, _⟩ := h3 B hr.symm
      exact blk_ne hc h.blk (by decide) rfl
  · refine h.own.kept hg ?_
    by_cases hi : iv.ownBlock = none
    · exact .inl hi
    · refine .inr fun hr => ?_
      obtain ⟨g, hgi⟩ := Option.ne_none_iff_exists'.1 hi
      obtain ⟨cur, hc⟩ := owns_blk h.own hgi
      obtain ⟨⟨cur2, hc2⟩, _⟩ := h3 g (by rw [← hr, hgi])
      exact blk_ne hc hc2 (by decide) rfl
  · intro e he
    obtain ⟨ao, n, cap, h1, hn, hf⟩ := h.full e he
    rw [h1]
    refine ⟨ao, n, cap, rfl, hn, fun h0 => ?_⟩
    obtain ⟨g, cur, rfl, hb, hc⟩ := hf h0
    refine ⟨g, cur, rfl, ?_, hc⟩
    rw [hg.block g (lt_of_block hb) (fun hr => ?_)]
    · exact hb
    · exact (h3 g hr.symm).2 e he _ _ _ h1 h0 (by rw [h1]; rfl)

/-- An entry more: behind 'append' on the book's row and the store. -/
theorem BkInv.push {w w1 : World} {base B : Nat} {iv iv' v : Value} {k : Int} {es : List (Value × Int)} {n : Nat} {xs : List Value} (o : Obj) (h : BkInv w base B iv es) (hv : Filled w v k)
    (hl : w.ownsRow base 3 1 v n xs) (hB : base ≤ B) (hown : w1.ownsRow base 121 2 iv' (es.length + 1) (ecells es ++ [v, .int .i64 k])) (hg : (w.alloc o).grownBy w1 iv.ownBlock) :
    BkInv (w1.setCell ⟨B, 0, none⟩ iv') base B iv' (es ++ [(v, k)]) ∧ (w1.setCell ⟨B, 0, none⟩ iv').ownsRow base 3 1 v n xs := by
  have ha : w.grownBy (w.alloc o) none := World.grownBy_alloc w o none
  have hne : ∀ (b : Nat) (c : Array Value) (t : TypeId), w.heap[b]? = some (.cells c t (0, 0)) → t ≠ 121 → w1.heap[b]? = w.heap[b]? := by
    intro b c t hb ht
    rw [hg.block b (by have := lt_of_block hb; simp; omega) (fun hr => ?_), ha.block b (lt_of_block hb) (by simp)]
    obtain ⟨cur, hc⟩ := owns_blk h.own hr.symm
    exact blk_ne hb hc ht rfl
  have hB1 := hne B _ _ h.blk (by decide)
  rw [h.blk] at hB1
  have hB2 := heap_setCell_same w1 B 0 _ _ iv' hB1
  have hne2 : ∀ (b : Nat) (c : Array Value) (t : TypeId), w.heap[b]? = some (.cells c t (0, 0)) → t ≠ 121 → t ≠ 70 → (w1.setCell ⟨B, 0, none⟩ iv').heap[b]? = w.heap[b]? := by
    intro b c t hb ht ht2
    rw [heap_setCell_other w1 ⟨B, 0, none⟩ b iv' (fun hr => ?_), hne b c t hb ht]
    exact blk_ne hb h.blk ht2 hr
  have hfil : ∀ u m, Filled w u m → Filled (w1.setCell ⟨B, 0, none⟩ iv') u m := by
    rintro u m ⟨ao, n', cap, rfl, hn, hf⟩
    refine ⟨ao, n', cap, rfl, hn, fun h0 => ?_⟩
    obtain ⟨g, cur, rfl, hb, hc⟩ := hf h0
    exact ⟨g, cur, rfl, by rw [hne2 g _ _ hb (by decide) (by decide)]; exact hb, hc⟩
  refine ⟨⟨?_, ?_, ?_⟩, ?_⟩
  · rw [hB2]; rfl
  · rw [List.length_append, List.length_singleton, ← ecells_snoc]
    refine ownsRow_setCell_other hown (fun hr => ?_) _
    obtain ⟨cur, hc⟩ := owns_blk hown hr
    exact blk_ne hc hB1 (by decide) rfl
  · intro e he
    rcases List.mem_append.1 he with h1 | h1
    · exact hfil _ _ (h.full e h1)
    · simp at h1
      subst h1
      exact hfil _ _ hv
  · refine ⟨hl.1, ?_⟩
    rcases hl.2 with h1 | ⟨g, cap, cur, h1, h2, h3, h4⟩
    · exact .inl h1
    · exact .inr ⟨g, cap, cur, h1, h2, by rw [hne2 g _ _ h3 (by decide) (by decide)]; exact h3, h4⟩

theorem Filled.mk {w : World} {base : Nat} {v : Value} {n : Nat} {x : Int} (h : w.ownsRow base 3 1 v n (icells (List.replicate n (-1 - x)))) (hn : n ≤ 1000) : Filled w v x := by
  rcases h.2 with ⟨rfl, rfl⟩ | ⟨g, cap, cur, rfl, _, h3, _, _, _, h7⟩
  · exact ⟨none, 0, 0, rfl, by omega, by omega⟩
  · refine ⟨_, n, cap, rfl, hn, fun h0 => ⟨g, cur, rfl, h3, fun j hj => ?_⟩⟩
    have := congrArg (fun l => l[j]?) h7
    simp only [Nat.mul_one] at this
    rw [List.getElem?_take, if_pos hj, icells_get _ _ (by simpa using hj)] at this
    simpa using this

/-- Of the entries those that stand in the row of v are no longer than n, and bear the mark k. -/
def Shares (v : Value) (n : Nat) (k : Int) (es : List (Value × Int)) : Prop := ∀ e ∈ es, ∀ g n' cap', e.1 = .slice (some ⟨g, 0, none⟩) n' cap' → 0 < n' → v.ownBlock = some g → e.2 = k ∧ n' ≤ n

/-- The list grows by one more mark. -/
theorem BkInv.grow {w w1 : World} {base B : Nat} {iv v v' : Value} {k : Int} {es : List (Value × Int)} {n : Nat} (o : Obj) (h : BkInv w base B iv es) (hs : Shares v n k es)
    (hl : w.ownsRow base 3 1 v n (icells (List.replicate n (-1 - k)))) (hown : w1.ownsRow base 3 1 v' (n + 1) (icells (List.replicate (n + 1) (-1 - k))))
    (hg : ((w.alloc o).grownBy w1 none ∧ w1.ownsRow (w.alloc o).heap.size 3 1 v' (n + 1) (icells (List.replicate (n + 1) (-1 - k)))) ∨ (v'.ownBlock = v.ownBlock ∧ (w.alloc o).grownBy w1 v.ownBlock)) :
    BkInv w1 base B iv es ∧ Shares v' (n + 1) k es := by
  have ha := h.other (World.grownBy_alloc w o none) (fun g hg => by cases hg)
  rcases hg with ⟨hg, hnew⟩ | ⟨hv, hg⟩
  · refine ⟨ha.other hg (fun g hg => by cases hg), ?_⟩
    intro e he g n' cap' h1 h0 hvg
    exfalso
    obtain ⟨ao, n2, cap2, h2, _, hf⟩ := ha.full e he
    rw [h1] at h2
    simp only [Value.slice.injEq] at h2
    obtain ⟨rfl, rfl, rfl⟩ := h2
    obtain ⟨g2, cur, hg2, hb, _⟩ := hf h0
    simp only [Option.some.injEq, Addr.mk.injEq, and_true] at hg2
    subst hg2
    have := lt_of_block hb
    have := (hnew.lt g hvg).1
    omega
  · rcases hown.2 with ⟨_, h0⟩ | ⟨g0, cap0, cur0, rfl, _, hb0, _, _, _, ht0⟩
    · omega
    have hv0 : v.ownBlock = some g0 := by rw [← hv]; rfl
    rw [hv0] at hg
    obtain ⟨curA, hcA⟩ := owns_blk (hl.alloc o) hv0
    have hcell : ∀ j, j < n + 1 → cur0[j]? = some (.int .i64 (-1 - k)) := by
      intro j hj
      have := congrArg (fun l => l[j]?) ht0
      simp only [Nat.mul_one] at this
      rw [List.getElem?_take, if_pos hj, icells_get _ _ (by simpa using hj)] at this
      simpa using this
    refine ⟨⟨?_, ?_, ?_⟩, ?_⟩
    · rw [hg.block B (lt_of_block ha.blk) (fun hr => ?_)]
      · exact ha.blk
      · simp at hr
        subst hr
        exact blk_ne hcA ha.blk (by decide) rfl
    · refine ha.own.kept hg ?_
      by_cases hi : iv.ownBlock = none
      · exact .inl hi
      · refine .inr fun hr => ?_
        obtain ⟨cur, hc⟩ := owns_blk ha.own hr
        exact blk_ne hc hcA (by decide) rfl
    · intro e he
      obtain ⟨ao, n2, cap2, h2, hn2, hf⟩ := ha.full e he
      rw [h2]
      refine ⟨ao, n2, cap2, rfl, hn2, fun hp => ?_⟩
      obtain ⟨g, cur, rfl, hb, hc⟩ := hf hp
      by_cases hgg : g = g0
      · subst hgg
        obtain ⟨hm, hle⟩ := hs e he g n2 cap2 h2 hp hv0
        exact ⟨g, cur0, rfl, hb0, fun j hj => by rw [hm]; exact hcell j (by omega)⟩
      · exact ⟨g, cur, rfl, by rw [hg.block g (lt_of_block hb) (by simp; exact hgg)]; exact hb, hc⟩
    · intro e he g n' cap' h1 hp hvg
      obtain ⟨hm, hle⟩ := hs e he g n' cap' h1 hp (by rw [hv0]; exact hvg)
      exact ⟨hm, by omega⟩
end Go.Proofs.Ytjidbonhhpkljaa.Pk

/- The contract of the book's ownInts: a list is written full of its mark, three more are put behind it, and all four stand in the book. -/
set_option linter.unusedVariables false
namespace Go.Proofs.Ytjidbonhhpkljaa.Pk
open Go.RowKit Go.Proofs.Ytjidbonhhpkljaa.Pm
theorem owns_slice {w : World} {base : Nat} {e : TypeId} {size : Nat} {v : Value} {n : Nat} {xs : List Value} (h : w.ownsRow base e size v n xs) : ∃ ao cap, v = .slice ao n cap := by
  rcases h.2 with ⟨h1, h2⟩ | ⟨g, cap, cur, h1, _⟩
  · exact ⟨none, 0, by rw [h1, h2]⟩
  · exact ⟨_, cap, h1⟩

theorem BkInv.cells {w : World} {base B : Nat} {iv : Value} {es : List (Value × Int)} (h : BkInv w base B iv es) : w.cell? ⟨B, 0, none⟩ = some iv ∧ w.frozen? ⟨B, 0, none⟩ = false := by
  have := h.blk
  exact ⟨by simp [World.cell?, this], by simp [World.frozen?, this]⟩

theorem BkInv.cells1 {w w1 : World} {base B : Nat} {iv : Value} {es : List (Value × Int)} (o : Obj) (h : BkInv w base B iv es) (hg : (w.alloc o).grownBy w1 iv.ownBlock) : w1.cell? ⟨B, 0, none⟩ = some iv ∧ w1.frozen? ⟨B, 0, none⟩ = false := by
  have hb : w1.heap[B]? = some (.cells #[iv, .slice none 0 0, .slice none 0 0, .slice none 0 0] 70 (0, 0)) := by
    rw [hg.block B (by have := lt_of_block h.blk; simp; omega) (fun hr => ?_), (World.grownBy_alloc w o none).block B (lt_of_block h.blk) (by simp)]
    · exact h.blk
    · obtain ⟨cur, hc⟩ := owns_blk h.own hr.symm
      exact blk_ne h.blk hc (by decide) rfl
  exact ⟨by simp [World.cell?, hb], by simp [World.frozen?, hb]⟩

/-- A store into the list. -/
theorem BkInv.store {w : World} {base B : Nat} {iv : Value} {es : List (Value × Int)} {g n cap : Nat} {zs : List Int} (h : BkInv w base B iv es) (hown : w.ownsRow base 3 1 (.slice (some ⟨g, 0, none⟩) n cap) n (icells zs))
    (hsh : ∀ e ∈ es, ∀ g' n' cap', e.1 = .slice (some ⟨g', 0, none⟩) n' cap' → 0 < n' → g ≠ g') (j : Nat) (x : Int) :
    BkInv (w.setCell ⟨g, j, none⟩ (.int .i64 x)) base B iv es ∧ (w.setCell ⟨g, j, none⟩ (.int .i64 x)).ownsRow base 3 1 (.slice (some ⟨g, 0, none⟩) n cap) n (icells (zs.set j x)) := by
  obtain ⟨o1, o2⟩ := hown.stored j (.int .i64 x)
  refine ⟨h.other o2 ?_, ?_⟩
  · intro g' hg'
    simp at hg'
    subst hg'
    refine ⟨owns_blk hown rfl, ?_⟩
    intro e he ao n' cap' h1 h0 hob
    rw [h1] at hob
    cases ao with
    | none => simp [Value.ownBlock] at hob
    | some a =>
      obtain ⟨ao2, n2, cap2, h2, _, hf⟩ := h.full e he
      rw [h1] at h2
      simp only [Value.slice.injEq] at h2
      obtain ⟨rfl, rfl, rfl⟩ := h2
      obtain ⟨g2, cur, hg2, _⟩ := hf h0
      simp only [Option.some.injEq] at hg2
      subst hg2
      simp [Value.ownBlock] at hob
      exact hsh e he g2 n' cap' h1 h0 hob.symm
  · have : (icells zs).set j (.int .i64 x) = icells (zs.set j x) := by simp [icells, List.map_set]
    rw [← this]
    exact o1

theorem owns_addr {w : World} {base : Nat} {e : TypeId} {size : Nat} {ao : Option Addr} {n cap : Nat} {xs : List Value} (h : w.ownsRow base e size (.slice ao n cap) n xs) (hn : 0 < n) : ∃ g, ao = some ⟨g, 0, none⟩ := by
  rcases h.2 with ⟨h1, h2⟩ | ⟨g, cap, cur, h1, _⟩
  · omega
  · simp only [Value.slice.injEq] at h1
    exact ⟨g, h1.1⟩

theorem pair_at (w : World) (a b : Value) (t : TypeId) : ∀ (j : Nat) (u : Value), [a, b][j]? = some u → (w.alloc (.cells #[a, b] t)).cell? ((⟨w.heap.size, 0, none⟩ : Addr).add j) = some u := by
  intro j u hj
  match j, hj with
  | 0, hj => simp at hj; subst hj; simp [Addr.add]
  | 1, hj => simp at hj; subst hj; simp [Addr.add]
theorem pair_one (ao : Option Addr) (n cap : Nat) (k : Int) : ∀ u ∈ [Value.slice ao n cap, .int .i64 k], u.oneCell' = true := by
  intro u hu
  simp at hu
  rcases hu with rfl | rfl
  · rfl
  · rfl

theorem one_at (w : World) (a : Value) (t : TypeId) : ∀ (j : Nat) (u : Value), [a][j]? = some u → (w.alloc (.cells #[a] t)).cell? ((⟨w.heap.size, 0, none⟩ : Addr).add j) = some u := by
  intro j u hj
  match j, hj with
  | 0, hj => simp at hj; subst hj; simp [Addr.add]
theorem marks_snoc {es : List (Value × Int)} {v : Value} {k : Int} (h : ∀ e ∈ es, e.2 = k) : ∀ e ∈ es ++ [(v, k)], e.2 = k := by
  intro e he
  rcases List.mem_append.1 he with h1 | h1
  · exact h e h1
  · simp at h1
    subst h1
    rfl

/-- Lists of numbers that lie in other rows stay. -/
def KeepInts (v : Value) (w w' : World) : Prop := ∀ (g : Nat) (cur : Array Value), w.heap[g]? = some (.cells cur 3 (0, 0)) → v.ownBlock ≠ some g → w'.heap[g]? = some (.cells cur 3 (0, 0))

theorem KeepInts.step {v : Value} {w wr w1 : World} {row : Option Nat} (h : KeepInts v w wr) (hg : wr.grownBy w1 row)
    (hne : ∀ (g : Nat) (cur : Array Value), row = some g → wr.heap[g]? = some (.cells cur 3 (0, 0)) → v.ownBlock = some g ∨ w.heap.size ≤ g) : KeepInts v w w1 := by
  intro g cur hb hv
  have h1 := h g cur hb hv
  rw [hg.block g (lt_of_block h1) (fun hr => ?_)]
  · exact h1
  · rcases hne g cur hr.symm h1 with h2 | h2
    · exact hv h2
    · have := lt_of_block hb
      omega

theorem KeepInts.push {v : Value} {w wr w1 : World} {base B : Nat} {iv : Value} {es : List (Value × Int)} {o : Obj} (h : KeepInts v w wr) (hI : BkInv wr base B iv es) (hg : (wr.alloc o).grownBy w1 iv.ownBlock) (u : Value) :
    KeepInts v w (w1.setCell ⟨B, 0, none⟩ u) := by
  have ha := h.step (World.grownBy_alloc wr o none) (fun g _ hg _ => by cases hg)
  have hIa := hI.other (World.grownBy_alloc wr o none) (fun g hg => by cases hg)
  intro g cur hb hv
  have h1 := ha g cur hb hv
  rw [heap_setCell_other w1 ⟨B, 0, none⟩ g u (fun hr => ?_), hg.block g (lt_of_block h1) (fun hr => ?_)]
  · exact h1
  · obtain ⟨c2, h2⟩ := owns_blk hIa.own hr.symm
    exact blk_ne h1 h2 (by decide) rfl
  · exact blk_ne h1 hIa.blk (by decide) hr

end Go.Proofs.Ytjidbonhhpkljaa.Pk

/- Plain mathematics of columns as bytes: varints, zigzag, runs, dictionaries, as functions on lists of numbers. -/
set_option linter.unusedVariables false
namespace Go.Proofs.Ytjidbonhhpkljaa.Ec
open Go.Proofs.Ytjidbonhhpkljaa.Pk Go.Proofs.Ytjidbonhhpkljaa.Pm
/-- A varint, of at most so many bytes. -/
def vintF : Nat → Nat → List Nat
  | 0, n => []
  | f + 1, n => if n < 128 then [n] else (n % 128 + 128) :: vintF f (n / 128)

def vint (n : Nat) : List Nat := vintF 10 n

theorem vintF_small (f n : Nat) (h : n < 128) : vintF (f + 1) n = [n] := by simp [vintF, h]
theorem vintF_big (f n : Nat) (h : ¬ n < 128) : vintF (f + 1) n = (n % 128 + 128) :: vintF f (n / 128) := by simp [vintF, h]

theorem vintF_lt (f n : Nat) : ∀ x ∈ vintF f n, x < 256 := by
  induction f generalizing n with
  | zero => simp [vintF]
  | succ f ih =>
    intro x hx
    by_cases h : n < 128
    · rw [vintF_small f n h] at hx; simp at hx; omega
    · rw [vintF_big f n h] at hx
      rcases List.mem_cons.1 hx with h1 | h1
      · omega
      · exact ih _ x h1

theorem vintF_length (f n : Nat) : (vintF f n).length ≤ f := by
  induction f generalizing n with
  | zero => simp [vintF]
  | succ f ih =>
    by_cases h : n < 128
    · rw [vintF_small f n h]; simp
    · rw [vintF_big f n h]; have := ih (n / 128); simp; omega

theorem pow128 (f : Nat) (n : Nat) (h : n < 128 ^ (f + 1)) : n / 128 < 128 ^ f := by
  rw [Nat.pow_succ] at h
  exact Nat.div_lt_of_lt_mul (by rw [Nat.mul_comm]; exact h)

theorem lt_128_10 (n : Nat) (h : n < 18446744073709551616) : n < 128 ^ 10 := by
  have : (128 : Nat) ^ 10 = 1180591620717411303424 := by decide
  omega

theorem strOf_append (a b : List Nat) : strOf (a ++ b) = strOf a ++ strOf b := by
  unfold strOf strOfNums
  apply ByteArray.ext
  simp

/-- Zigzag. -/
def zz (n : Int) : Nat := if n < 0 then (-2 * n - 1).toNat else (2 * n).toNat

theorem zz_lt (n : Int) (h0 : -9223372036854775808 ≤ n) (h1 : n ≤ 9223372036854775807) : zz n < 18446744073709551616 := by
  unfold zz; split <;> omega

end Go.Proofs.Ytjidbonhhpkljaa.Ec

/- Values as the statements have them, their cells, and the contracts of the small tests on kinds and encodings. -/
set_option linter.unusedVariables false
namespace Go.Proofs.Ytjidbonhhpkljaa.Ec
open Go.RowKit Go.Proofs.Ytjidbonhhpkljaa.Pk
/-- A value: Null, or a number, or a text. -/
structure Val where
  null : Bool
  n : Int
  s : ByteArray

/-- A value in one piece. -/
def Val.agg (v : Val) : Value := .agg #[.bool v.null, .int .i64 v.n, .string v.s]

/-- The cells of values. -/
def vcells (l : List Val) : List Value := l.flatMap fun v => [.bool v.null, .int .i64 v.n, .string v.s]

/-- A slice of values, as a walk wants it. -/
structure VRow (w : World) (ao : Option Addr) (b off : Nat) (l : List Val) : Prop where
  addr : 0 < l.length → ao = some ⟨b, off, none⟩
  lt : 0 < l.length → b < w.heap.size
  c0 : ∀ j (h : j < l.length), w.cell? ⟨b, off + j * 3, none⟩ = some (.bool l[j].null)
  c1 : ∀ j (h : j < l.length), w.cell? ⟨b, off + j * 3 + 1, none⟩ = some (.int .i64 l[j].n)
  c2 : ∀ j (h : j < l.length), w.cell? ⟨b, off + j * 3 + 2, none⟩ = some (.string l[j].s)

theorem VRow.below {w w' : World} {ao : Option Addr} {b off : Nat} {l : List Val} (h : VRow w ao b off l) (hb : Below w.heap.size w w') : VRow w' ao b off l :=
  ⟨h.addr, fun h0 => Nat.lt_of_lt_of_le (h.lt h0) hb.size,
    fun j hj => (hb.cell (p := ⟨b, off + j * 3, none⟩) (h.lt (by omega))).trans (h.c0 j hj),
    fun j hj => (hb.cell (p := ⟨b, off + j * 3 + 1, none⟩) (h.lt (by omega))).trans (h.c1 j hj),
    fun j hj => (hb.cell (p := ⟨b, off + j * 3 + 2, none⟩) (h.lt (by omega))).trans (h.c2 j hj)⟩

/-- Are two values alike? -/
def veq (x y : Val) : Bool := (x.null == y.null) && (x.n == y.n) && (x.s.toList == y.s.toList)
theorem veq_iff {x y : Val} : veq x y = true ↔ x = y := by
  unfold veq
  constructor
  · intro h
    simp only [Bool.and_eq_true, beq_iff_eq] at h
    obtain ⟨⟨h1, h2⟩, h3⟩ := h
    cases x; cases y
    simp only at h1 h2 h3
    rw [h1, h2, toList_inj h3]
  · rintro rfl
    simp

end Go.Proofs.Ytjidbonhhpkljaa.Ec

/- The contracts of varints and zigzag, on both sides. -/
set_option linter.unusedVariables false
namespace Go.Proofs.Ytjidbonhhpkljaa.Ec
open Go.RowKit Go.Proofs.Ytjidbonhhpkljaa.Pk Go.Proofs.Ytjidbonhhpkljaa.Pm
/-- A row of bytes has grown: what else was there has stayed; it lies where it lay, or in new memory. -/
structure Grew (w w' : World) (v v' : Value) : Prop where
  by_ : w.grownBy w' v.ownBlock
  at_ : ∀ g, v'.ownBlock = some g → v.ownBlock = some g ∨ w.heap.size ≤ g

theorem Grew.refl (w : World) (v : Value) : Grew w w v v := ⟨World.grownBy.refl w _, fun _ h => .inl h⟩
theorem Grew.trans {w w1 w2 : World} {v v1 v2 : Value} (h1 : Grew w w1 v v1) (h2 : Grew w1 w2 v1 v2) : Grew w w2 v v2 := by
  refine ⟨⟨h2.by_.os.trans h1.by_.os, h2.by_.tape.trans h1.by_.tape, h2.by_.output.trans h1.by_.output, Nat.le_trans h1.by_.size h2.by_.size, ?_⟩, ?_⟩
  · intro k hk hne
    rw [h2.by_.block k (Nat.lt_of_lt_of_le hk h1.by_.size) (fun hr => ?_), h1.by_.block k hk hne]
    rcases h1.at_ k hr.symm with h | h
    · exact hne h.symm
    · omega
  · intro g hg
    rcases h2.at_ g hg with h | h
    · exact h1.at_ g h
    · exact .inr (Nat.le_trans h1.by_.size h)
theorem Grew.alloc {w w1 : World} {v v1 : Value} (h : Grew w w1 v v1) (o : Obj) : Grew w (w1.alloc o) v v1 :=
  h.trans ⟨World.grownBy_alloc w1 o _, fun _ h => .inl h⟩
theorem Grew.drewN {w w1 : World} {v v1 : Value} (h : Grew w w1 v v1) (n : Nat) : Grew w (w1.drewN n) v v1 :=
  h.trans ⟨⟨rfl, rfl, rfl, Nat.le_refl _, fun _ _ _ => rfl⟩, fun _ h => .inl h⟩
theorem Grew.below {w w' : World} {v v' : Value} {base : Nat} (h : Grew w w' v v') (hv : ∀ g, v.ownBlock = some g → base ≤ g) (hb : base ≤ w.heap.size) : Below base w w' :=
  (Below.refl base w).grown h.by_ hb hv
theorem Grew.append {w w1 : World} {v v1 : Value} {e size n : Nat} {xs : List Value} {o : Obj}
    (h : ((w.alloc o).grownBy w1 none ∧ w1.ownsRow (w.alloc o).heap.size e size v1 n xs) ∨ (v1.ownBlock = v.ownBlock ∧ (w.alloc o).grownBy w1 v.ownBlock)) : Grew w w1 v v1 := by
  have ha := (Grew.refl w v).alloc o
  refine ha.trans ?_
  rcases h with ⟨h1, h2⟩ | ⟨h1, h2⟩
  · refine ⟨⟨h1.os, h1.tape, h1.output, h1.size, fun k hk _ => h1.block k hk (by simp)⟩, fun g hg => .inr (h2.lt g hg).1⟩
  · exact ⟨h2, fun g hg => .inl (by rw [← h1]; exact hg)⟩

/-- 'string([]byte{x})'. -/
theorem conv_one {w : World} {g : Nat} {x : Nat} (hc : w.cell? ⟨g, 0, none⟩ = some (.int .u8 (x : Int))) :
    (convert 44 9 (.slice (some ⟨g, 0, none⟩) 1 1)).run Try.prog w = .ok (.string (strOf [x])) w :=
  run_convert_bytes_arg w 44 5 Try.underlying44 Try.underlying5 g 0 1 1 [(x : Int)] rfl (fun i hi => by
    have : i = 0 := by omega
    subst this
    exact hc) 9 Try.underlying9
theorem after_new {w w1 : World} {v : Value} {t : TypeId} (h : Below ((w.alloc (.cells #[v] t)).drew).heap.size (w.alloc (.cells #[v] t)).drew w1) : w1.cell? ⟨w.heap.size, 0, none⟩ = some v :=
  (h.cell (p := ⟨w.heap.size, 0, none⟩) (by simp)).trans (by simp)
theorem below_one {w w1 : World} {o : Obj} (h : Below ((w.alloc o).drew).heap.size (w.alloc o).drew w1) : Below w.heap.size w w1 :=
  (((Below.refl _ _).alloc (Nat.le_refl _) o).drew).trans (h.mono (by simp))
theorem below_two {w w1 : World} (o : Obj) (h : Below w.drew.heap.size w.drew w1) : Below w.heap.size w (w1.alloc o) :=
  (((Below.refl _ _).drew).trans h).alloc h.size o
theorem one_at (w : World) (a : Value) (t : TypeId) : ∀ (j : Nat) (u : Value), [a][j]? = some u → (w.alloc (.cells #[a] t)).cell? ((⟨w.heap.size, 0, none⟩ : Addr).add j) = some u := by
  intro j u hj
  match j, hj with
  | 0, hj => simp at hj; subst hj; simp [Addr.add]
theorem conv_new (w : World) (x : Nat) : (convert 44 9 (.slice (some ⟨w.heap.size, 0, none⟩) 1 1)).run Try.prog (w.alloc (.cells #[.int .u8 (x : Int)] 5)) = .ok (.string (strOf [x])) (w.alloc (.cells #[.int .u8 (x : Int)] 5)) :=
  conv_one (by simp)

set_option maxRecDepth 100000 in
set_option maxHeartbeats 2000000 in
theorem varint_small (f n : Nat) (w : World) (h : n < 128) : Calls Try.prog 87 #[.int .u64 n] w fun e w' => e = .returned (.string (strOf (vintF (f + 1) n))) ∧ Below w.heap.size w w' := by
  rw [vintF_small f n h]
  have hcv := conv_new w n
  go_enter Try.func87, Try.ntmps87
  go_wp2
  go_ret
  exact ⟨rfl, (Below.refl _ _).alloc (Nat.le_refl _) _⟩

set_option maxRecDepth 100000 in
set_option maxHeartbeats 2000000 in
theorem varint_fuel (f : Nat) (hf : f ≤ 9) : ∀ (n : Nat) (w : World), n < 128 ^ (f + 1) → n < 18446744073709551616 →
    Calls Try.prog 87 #[.int .u64 n] w fun e w' => e = .returned (.string (strOf (vintF (f + 1) n))) ∧ Below w.heap.size w w' := by
  induction f with
  | zero => intro n w h _; exact varint_small 0 n w (by simpa using h)
  | succ f ih =>
    intro n w hn hn2
    have ih := ih (by omega)
    by_cases h : n < 128
    · exact varint_small (f + 1) n w h
    · rw [vintF_big (f + 1) n h]
      have hq := pow128 (f + 1) n hn
      have IH : Hid (∀ w, Calls Try.prog 87 #[.int .u64 ((n : Int) / 128)] w fun e w' => e = .returned (.string (strOf (vintF (f + 1) (n / 128)))) ∧ Below w.heap.size w w') := fun w => by
        have := ih (n / 128) w hq (by omega)
        rwa [show ((n / 128 : Nat) : Int) = (n : Int) / 128 from by omega] at this
      obtain ⟨y, hy⟩ : ∃ y, y = n % 128 + 128 := ⟨_, rfl⟩
      have hw4 : IntKind.u8.wrap (IntKind.u8.wrap ((n : Int).tmod 128) + 128) = (y : Int) := by
        rw [Int.tmod_eq_emod_of_nonneg (by omega), wrap_u8_id (x := (n : Int) % 128) (by omega) (by omega), wrap_u8_id (by omega) (by omega)]; omega
      have hw2 : IntKind.u64.wrap ((n : Int) / 128) = (n : Int) / 128 := by simp [IntKind.wrap, IntKind.signed, IntKind.bits]; omega
      have hcv : ∀ (W : World) (g : Nat), W.cell? ⟨g, 0, none⟩ = some (.int .u8 (y : Int)) → (convert 44 9 (.slice (some ⟨g, 0, none⟩) 1 1)).run Try.prog W = .ok (.string (strOf [y])) W := fun W g h => conv_one h
      rw [← hy, show strOf (y :: vintF (f + 1) (n / 128)) = strOf [y] ++ strOf (vintF (f + 1) (n / 128)) from strOf_append [y] _]
      have hln : (vintF (f + 1) (n / 128)).length ≤ f + 1 := vintF_length _ _
      have HY : Hid (y = n % 128 + 128) := hy
      clear ih hn hq hy
      generalize vintF (f + 1) (n / 128) = rest at *
      have hsz : ¬ 9223372036854775807 < (strOf [y]).size + (strOf rest).size := by rw [Pk.strOf_size, Pk.strOf_size]; simp; omega
      go_enter Try.func87, Try.ntmps87
      go_wp2_with fail
      go_region_with (go_at_call 87; refine (IH.out _).mono ?_; rintro e w1 ⟨rfl, hb1⟩; try (have hcc := after_new hb1))
      all_goals
        go_wp2
        go_ret
        exact ⟨rfl, by first | exact below_one hb1 | exact below_two _ hb1⟩

theorem varint_any (n : Nat) (w : World) (h : n < 18446744073709551616) : Calls Try.prog 87 #[.int .u64 n] w fun e w' => e = .returned (.string (strOf (vint n))) ∧ Below w.heap.size w w' :=
  varint_fuel 9 (by omega) n w (lt_128_10 n h) h

end Go.Proofs.Ytjidbonhhpkljaa.Ec

/- The contracts of zigzag, of numbers, and of the tests on kinds, encodings and values, on both sides. -/
set_option linter.unusedVariables false
namespace Go.Proofs.Ytjidbonhhpkljaa.Ec
open Go.RowKit Go.Proofs.Ytjidbonhhpkljaa.Pk Go.Proofs.Ytjidbonhhpkljaa.Pm
theorem wrap_u64 (n : Int) : IntKind.u64.wrap n = n % 18446744073709551616 := by simp [IntKind.wrap, IntKind.bits, IntKind.signed]

theorem xor_zero (x : Nat) (hx : x < 18446744073709551616) : bits .xor .u64 (x : Int) 0 = (x : Int) := by
  show IntKind.u64.wrap (((BitVec.ofInt 64 (x : Int)) ^^^ (BitVec.ofInt 64 0)).toNat : Int) = _
  rw [BitVec.ofInt_natCast, show BitVec.ofInt 64 0 = 0#64 from rfl, BitVec.xor_zero, BitVec.toNat_ofNat, wrap_u64]
  omega

def isKindB (k : Int) : Bool := decide (1 ≤ k) && decide (k ≤ 3)
def hasEncB (k e : Int) : Bool := ((e == 0 || e == 2) && isKindB k) || (e == 1 && k == 1) || (e == 3 && k == 2)

theorem isKind_any (k : Int) (w : World) : Calls Try.prog 71 #[.int .i64 k] w fun e w' => e = .returned (.bool (isKindB k)) ∧ w' = w := by
  by_cases h1 : 1 ≤ k <;> by_cases h2 : k ≤ 3
  all_goals
    go_enter Try.func71, Try.ntmps71
    go_wp2
    all_goals go_ret
    all_goals exact ⟨by simp [isKindB, h1, h2], rfl⟩

theorem cases4 (e : Int) : e = 0 ∨ e = 1 ∨ e = 2 ∨ e = 3 ∨ ((e == 0) = false ∧ (e == 1) = false ∧ (e == 2) = false ∧ (e == 3) = false) := by
  by_cases h0 : e = 0
  · exact .inl h0
  by_cases h1 : e = 1
  · exact .inr (.inl h1)
  by_cases h2 : e = 2
  · exact .inr (.inr (.inl h2))
  by_cases h3 : e = 3
  · exact .inr (.inr (.inr (.inl h3)))
  exact .inr (.inr (.inr (.inr ⟨by simpa using h0, by simpa using h1, by simpa using h2, by simpa using h3⟩)))

theorem hasEncoding_any (k e : Int) (w : World) : Calls Try.prog 70 #[.int .i64 k, .int .i64 e] w fun r w' => r = .returned (.bool (hasEncB k e)) ∧ w' = w := by
  have hx : ∀ b : Bool, (b || false) = b := by simp
  rcases cases4 e with rfl | rfl | rfl | rfl | ⟨h0, h1, h2, h3⟩
  · rw [show hasEncB k 0 = isKindB k from by simp [hasEncB]]
    go_enter Try.func70, Try.ntmps70
    go_wp2_with (go_at_call 71; refine (isKind_any k _).mono ?_; rintro e w' ⟨rfl, rfl⟩)
    go_ret
    exact ⟨rfl, rfl⟩
  · rw [show hasEncB k 1 = (k == 1) from by simp [hasEncB]]
    go_enter Try.func70, Try.ntmps70
    go_wp2
    all_goals go_ret
    all_goals exact ⟨rfl, rfl⟩
  · rw [show hasEncB k 2 = isKindB k from by simp [hasEncB]]
    go_enter Try.func70, Try.ntmps70
    go_wp2_with (go_at_call 71; refine (isKind_any k _).mono ?_; rintro e w' ⟨rfl, rfl⟩)
    go_ret
    exact ⟨rfl, rfl⟩
  · rw [show hasEncB k 3 = (k == 2) from by simp [hasEncB]]
    go_enter Try.func70, Try.ntmps70
    go_wp2
    all_goals go_ret
    all_goals exact ⟨rfl, rfl⟩
  · rw [show hasEncB k e = false from by simp [hasEncB, h0, h1, h2, h3]]
    go_enter Try.func70, Try.ntmps70
    go_wp2
    all_goals go_ret
    all_goals exact ⟨rfl, rfl⟩

theorem not_kind {k e : Int} (k1 : (k == 1) = false) (k2 : (k == 2) = false) (k3 : (k == 3) = false) : hasEncB k e = false := by
  have h1 : isKindB k = false := by
    simp at k1 k2 k3
    unfold isKindB
    by_cases h : 1 ≤ k
    · have : ¬ k ≤ 3 := by omega
      simp [this]
    · simp [h]
  simp [hasEncB, h1, k1, k2]
theorem not_enc {k e : Int} (h0 : (e == 0) = false) (h1 : (e == 1) = false) (h2 : (e == 2) = false) (h3 : (e == 3) = false) : hasEncB k e = false := by simp [hasEncB, h0, h1, h2, h3]
theorem fits_any (k e : Int) (w : World) : Calls Try.prog 40 #[.int .i64 k, .int .i64 e] w fun r w' => r = .returned (.bool (hasEncB k e)) ∧ w' = w := by
  rcases cases4 e with rfl | rfl | rfl | rfl | ⟨h0, h1, h2, h3⟩
  · rcases cases4 k with rfl | rfl | rfl | rfl | ⟨k0, k1, k2, k3⟩
    case inr.inr.inr.inr => rw [not_kind k1 k2 k3]; go_enter Try.func40, Try.ntmps40; go_wp2; go_ret; exact ⟨rfl, rfl⟩
    all_goals (go_enter Try.func40, Try.ntmps40; go_wp2; go_ret; exact ⟨rfl, rfl⟩)
  · rcases cases4 k with rfl | rfl | rfl | rfl | ⟨k0, k1, k2, k3⟩
    case inr.inr.inr.inr => rw [not_kind k1 k2 k3]; go_enter Try.func40, Try.ntmps40; go_wp2; go_ret; exact ⟨rfl, rfl⟩
    all_goals (go_enter Try.func40, Try.ntmps40; go_wp2; go_ret; exact ⟨rfl, rfl⟩)
  · rcases cases4 k with rfl | rfl | rfl | rfl | ⟨k0, k1, k2, k3⟩
    case inr.inr.inr.inr => rw [not_kind k1 k2 k3]; go_enter Try.func40, Try.ntmps40; go_wp2; go_ret; exact ⟨rfl, rfl⟩
    all_goals (go_enter Try.func40, Try.ntmps40; go_wp2; go_ret; exact ⟨rfl, rfl⟩)
  · rcases cases4 k with rfl | rfl | rfl | rfl | ⟨k0, k1, k2, k3⟩
    case inr.inr.inr.inr => rw [not_kind k1 k2 k3]; go_enter Try.func40, Try.ntmps40; go_wp2; go_ret; exact ⟨rfl, rfl⟩
    all_goals (go_enter Try.func40, Try.ntmps40; go_wp2; go_ret; exact ⟨rfl, rfl⟩)
  · rw [not_enc h0 h1 h2 h3]
    rcases cases4 k with rfl | rfl | rfl | rfl | ⟨k0, k1, k2, k3⟩
    all_goals (go_enter Try.func40, Try.ntmps40; go_wp2; go_ret; exact ⟨rfl, rfl⟩)

theorem zigzag_any (n : Int) (h0 : -9223372036854775808 ≤ n) (h1 : n ≤ 9223372036854775807) (w : World) :
    Calls Try.prog 103 #[.int .i64 n] w fun e w' => e = .returned (.int .u64 (zz n)) ∧ w' = w := by
  by_cases h : n < 0
  all_goals
    go_enter Try.func103, Try.ntmps103
    go_wp2
    all_goals go_ret
    all_goals exact ⟨ret_int (by unfold zz; split <;> omega), rfl⟩

/-- May a value be of a kind (from Int to Text)? -/
def mayB (v : Val) (k : Int) : Bool :=
  if v.null then (v.n == 0) && (v.s.toList == []) else if k == 1 then v.s.toList == [] else if k == 2 then (v.n == 0 || v.n == 1) && (v.s.toList == []) else (v.n == 0) && decide ((v.s.size : Int) ≤ 32)

theorem ret_bool {a b : Bool} (h : a = b) : Ending.returned (.bool a) = .returned (.bool b) := by rw [h]

set_option maxRecDepth 100000 in
set_option maxHeartbeats 2000000 in
theorem may_any (v : Val) (k : Int) (w : World) (hk : k = 1 ∨ k = 2 ∨ k = 3) :
    Calls Try.prog 41 #[.agg #[.bool v.null, .int .i64 v.n, .string v.s], .int .i64 k] w fun e w' => e = .returned (.bool (mayB v k)) ∧ Below w.heap.size w w' := by
  cases hn : v.null
  · rcases hk with rfl | rfl | rfl
    all_goals
      go_enter Try.func41, Try.ntmps41
      go_wp2
      all_goals go_ret
      all_goals refine ⟨ret_bool ?_, (Below.refl _ _).alloc (Nat.le_refl _) _⟩
      all_goals rw [Bool.eq_iff_iff]
      all_goals simp [mayB, *]
      all_goals try omega
  · rcases hk with rfl | rfl | rfl
    all_goals
      go_enter Try.func41, Try.ntmps41
      go_wp2
      all_goals go_ret
      all_goals refine ⟨ret_bool ?_, (Below.refl _ _).alloc (Nat.le_refl _) _⟩
      all_goals rw [Bool.eq_iff_iff]
      all_goals simp [mayB, *]
      all_goals try omega

end Go.Proofs.Ytjidbonhhpkljaa.Ec

/- Runs: as a plain function, and the contracts on both sides. -/
set_option linter.unusedVariables false
namespace Go.Proofs.Ytjidbonhhpkljaa.Ec
open Go.RowKit Go.Proofs.Ytjidbonhhpkljaa.Pk Go.Proofs.Ytjidbonhhpkljaa.Pm
/-- How many at the beginning are x. -/
def runLen (x : Int) : List Int → Nat
  | [] => 0
  | y :: r => if y = x then runLen x r + 1 else 0

def byteOf (x : Int) : Nat := (x % 256).toNat

/-- Runs, at most so many. -/
def runsF : Nat → List Int → List Nat
  | 0, _ => []
  | f + 1, l => match l with
    | [] => []
    | x :: r => vint (runLen x (x :: r)) ++ ([byteOf x] ++ runsF f ((x :: r).drop (runLen x (x :: r))))

def runsB (l : List Int) : List Nat := runsF l.length l

theorem runLen_le (x : Int) (l : List Int) : runLen x l ≤ l.length := by
  induction l with
  | nil => simp [runLen]
  | cons y r ih => simp only [runLen]; split <;> simp <;> omega
theorem runLen_out (x : Int) (l : List Int) (h : runLen x l < l.length) : l[runLen x l] ≠ x := by
  induction l with
  | nil => simp at h
  | cons y r ih =>
    simp only [runLen] at h ⊢
    by_cases hy : y = x
    · simp only [hy, if_true] at h ⊢
      have := ih (by simpa using h)
      simpa using this
    · simp only [hy, if_false] at h ⊢
      simpa using hy

theorem byteOf_lt (x : Int) : byteOf x < 256 := by unfold byteOf; omega
theorem byteOf_int (x : Int) : x % 256 = (byteOf x : Int) := by unfold byteOf; omega

theorem runsF_length (f : Nat) (l : List Int) : (runsF f l).length ≤ 11 * f := by
  induction f generalizing l with
  | zero => simp [runsF]
  | succ f ih =>
    cases l with
    | nil => simp [runsF]
    | cons x r =>
      simp only [runsF]
      have h1 := vintF_length 10 (runLen x (x :: r))
      have h2 := ih ((x :: r).drop (runLen x (x :: r)))
      simp only [List.length_append, List.length_singleton]
      unfold vint
      omega

end Go.Proofs.Ytjidbonhhpkljaa.Ec

/- Reading, as plain mathematics: what comes next in bytes, varints, runs; and that nothing else can stand there. -/
set_option linter.unusedVariables false
namespace Go.Proofs.Ytjidbonhhpkljaa.Ec
open Go.RowKit Go.Proofs.Ytjidbonhhpkljaa.Pk Go.Proofs.Ytjidbonhhpkljaa.Pm
/-- At place p these bytes come next. -/
def Starts (B : List Nat) (p : Nat) (xs : List Nat) : Prop := xs <+: B.drop p

theorem starts_nil (B : List Nat) (p : Nat) : Starts B p [] := List.nil_prefix
theorem starts_append {B : List Nat} {p : Nat} {a b : List Nat} : Starts B p (a ++ b) ↔ Starts B p a ∧ Starts B (p + a.length) b := by
  unfold Starts
  constructor
  · rintro ⟨t, ht⟩
    refine ⟨⟨b ++ t, by rw [← ht]; simp⟩, ⟨t, ?_⟩⟩
    rw [← List.drop_drop, ← ht]; simp
  · rintro ⟨⟨t, ht⟩, ⟨t2, ht2⟩⟩
    refine ⟨t2, ?_⟩
    rw [← List.drop_drop, ← ht] at ht2
    simp at ht2
    rw [← ht, List.append_assoc, ht2]
theorem starts_cons {B : List Nat} {p x : Nat} {r : List Nat} : Starts B p (x :: r) ↔ B[p]? = some x ∧ Starts B (p + 1) r := by
  rw [show x :: r = [x] ++ r from rfl, starts_append]
  have : Starts B p [x] ↔ B[p]? = some x := by
    unfold Starts
    rw [← List.head?_drop]
    cases B.drop p with
    | nil => simp
    | cons y t => simp [List.cons_prefix_cons]; exact eq_comm
  rw [this]
  rfl
theorem starts_one {B : List Nat} {p x : Nat} : Starts B p [x] ↔ B[p]? = some x := by
  rw [starts_cons]; simp [starts_nil]
theorem starts_len {B : List Nat} {p : Nat} {xs : List Nat} (h : Starts B p xs) (hp : p ≤ B.length) : p + xs.length ≤ B.length := by
  have := h.length_le
  rw [List.length_drop] at this
  omega
theorem starts_of_eq {B xs : List Nat} (h : xs = B) : Starts B 0 xs := by
  subst h
  unfold Starts
  exact List.prefix_refl _
/-- Two pieces of the same length that come next are alike. -/
theorem starts_same {B : List Nat} {p : Nat} {a b : List Nat} (ha : Starts B p a) (hb : Starts B p b) (hl : a.length = b.length) : a = b :=
  (List.prefix_of_prefix_length_le ha hb (by omega)).eq_of_length hl

theorem starts_vint_hi {B : List Nat} {p f c x : Nat} (hc : B[p]? = some c) (h : 128 ≤ c) (hs : Starts B p (vintF (f + 1) x)) : 128 ≤ x ∧ x % 128 + 128 = c ∧ Starts B (p + 1) (vintF f (x / 128)) := by
  by_cases hx : x < 128
  · rw [vintF_small f x hx, starts_one, hc] at hs
    simp at hs; omega
  · rw [vintF_big f x hx, starts_cons, hc] at hs
    simp at hs
    exact ⟨by omega, hs.1.symm, hs.2⟩
theorem starts_vint_lo {B : List Nat} {p f c x : Nat} (hc : B[p]? = some c) (h : c < 128) : Starts B p (vintF (f + 1) x) ↔ x = c := by
  by_cases hx : x < 128
  · rw [vintF_small f x hx, starts_one, hc]
    simp; exact eq_comm
  · rw [vintF_big f x hx, starts_cons, hc]
    simp; omega

/-- A varint of which j bytes were read, all of them high. -/
structure VSt (B : List Nat) (p j acc : Nat) : Prop where
  lt : acc < 128 ^ j
  all : ∀ v, v < 18446744073709551616 → (Starts B p (vint v) ↔ ∃ x, v = acc + 128 ^ j * x ∧ (x ≠ 0 ∨ j = 0) ∧ Starts B (p + j) (vintF (10 - j) x))
  len : ∀ x, (x ≠ 0 ∨ j = 0) → (vint (acc + 128 ^ j * x)).length = j + (vintF (10 - j) x).length

theorem VSt.zero (B : List Nat) (p : Nat) : VSt B p 0 0 :=
  ⟨by simp, fun v _ => ⟨fun h => ⟨v, by simp, .inr rfl, h⟩, fun ⟨x, h1, _, h2⟩ => by simp at h1; subst h1; exact h2⟩, fun x _ => by simp [vint]⟩

theorem VSt.more {B : List Nat} {p j acc c : Nat} (h : VSt B p j acc) (hj : j < 10) (hc : B[p + j]? = some c) (h1 : 128 ≤ c) (h2 : c < 256) : VSt B p (j + 1) (acc + 128 ^ j * (c - 128)) := by
  have hlt := h.lt
  have hf : 10 - j = (10 - (j + 1)) + 1 := by omega
  have hkey : ∀ x, c - 128 + 128 * x = 128 * x + (c - 128) := fun x => by omega
  have hexp : ∀ x, acc + 128 ^ j * (c - 128) + 128 ^ (j + 1) * x = acc + 128 ^ j * (c - 128 + 128 * x) := fun x => by
    rw [Nat.pow_succ, Nat.mul_add, Nat.mul_assoc]; omega
  refine ⟨?_, ?_, ?_⟩
  · have h3 : 128 ^ j * (c - 128) ≤ 128 ^ j * 127 := Nat.mul_le_mul_left _ (by omega)
    rw [Nat.pow_succ]
    omega
  · intro v hv
    rw [h.all v hv]
    constructor
    · rintro ⟨x, h3, h4, h5⟩
      rw [hf] at h5
      obtain ⟨h6, h7, h8⟩ := starts_vint_hi hc h1 h5
      refine ⟨x / 128, ?_, .inl (by omega), by rw [← Nat.add_assoc]; exact h8⟩
      rw [hexp, h3]
      congr 2
      omega
    · rintro ⟨x, h3, h4, h5⟩
      have hx : x ≠ 0 := by rcases h4 with h | h; exact h; omega
      refine ⟨c - 128 + 128 * x, by rw [h3, hexp], .inl (by omega), ?_⟩
      rw [hf, vintF_big _ _ (by omega), starts_cons]
      refine ⟨by rw [hc]; congr 1; omega, ?_⟩
      rw [show (c - 128 + 128 * x) / 128 = x by omega, Nat.add_assoc]
      exact h5
  · intro x hx
    have hx : x ≠ 0 := by rcases hx with h | h; exact h; omega
    rw [hexp, h.len _ (.inl (by omega)), hf, vintF_big _ _ (by omega), show (c - 128 + 128 * x) / 128 = x by omega]
    simp; omega

theorem VSt.fin {B : List Nat} {p j acc c : Nat} (h : VSt B p j acc) (hj : j < 10) (hc : B[p + j]? = some c) (h1 : c < 128) (v : Nat) (hv : v < 18446744073709551616) :
    Starts B p (vint v) ↔ v = acc + 128 ^ j * c ∧ (c ≠ 0 ∨ j = 0) := by
  rw [h.all v hv]
  have hf : 10 - j = (10 - (j + 1)) + 1 := by omega
  constructor
  · rintro ⟨x, h3, h4, h5⟩
    rw [hf, starts_vint_lo hc h1] at h5
    subst h5
    exact ⟨h3, h4⟩
  · rintro ⟨h3, h4⟩
    exact ⟨c, h3, h4, by rw [hf, starts_vint_lo hc h1]⟩
theorem VSt.fin_len {B : List Nat} {p j acc c : Nat} (h : VSt B p j acc) (hj : j < 10) (h1 : c < 128) (hc : c ≠ 0 ∨ j = 0) : (vint (acc + 128 ^ j * c)).length = j + 1 := by
  rw [h.len c hc, show 10 - j = (10 - (j + 1)) + 1 by omega, vintF_small _ _ h1]
  rfl
theorem VSt.none {B : List Nat} {p j acc : Nat} (h : VSt B p j acc) (hj : j < 10) (hp : ¬ p + j < B.length) (v : Nat) (hv : v < 18446744073709551616) : ¬ Starts B p (vint v) := by
  rw [h.all v hv]
  rintro ⟨x, h3, h4, h5⟩
  rw [show 10 - j = (10 - (j + 1)) + 1 by omega] at h5
  have hn : B[p + j]? = Option.none := List.getElem?_eq_none (by omega)
  by_cases hx : x < 128
  · rw [vintF_small _ _ hx, starts_one, hn] at h5; simp at h5
  · rw [vintF_big _ _ hx, starts_cons, hn] at h5; simp at h5
theorem VSt.ten {B : List Nat} {p acc : Nat} (h : VSt B p 10 acc) (v : Nat) (hv : v < 18446744073709551616) : ¬ Starts B p (vint v) := by
  rw [h.all v hv]
  rintro ⟨x, h3, h4, h5⟩
  have : (128 : Nat) ^ 10 = 1180591620717411303424 := by decide
  rw [this] at h3
  omega
theorem VSt.top {B : List Nat} {p j acc c : Nat} (h : VSt B p j acc) (hj : j < 9 ∨ (j = 9 ∧ c ≤ 1)) (hc : c < 128) : acc + 128 ^ j * c < 18446744073709551616 := by
  have hlt := h.lt
  rcases hj with h1 | ⟨rfl, h1⟩
  · have h2 : 128 ^ (j + 1) ≤ 128 ^ 9 := Nat.pow_le_pow_right (by omega) (by omega)
    have h3 : (128 : Nat) ^ 9 = 9223372036854775808 := by decide
    rw [Nat.pow_succ] at h2
    have h4 : 128 ^ j * c ≤ 128 ^ j * 127 := Nat.mul_le_mul_left _ (by omega)
    omega
  · have h3 : (128 : Nat) ^ 9 = 9223372036854775808 := by decide
    rw [h3] at hlt ⊢
    omega
theorem VSt.over {B : List Nat} {p acc c : Nat} (h : 1 < c) : ¬ acc + 128 ^ 9 * c < 18446744073709551616 := by
  have h3 : (128 : Nat) ^ 9 = 9223372036854775808 := by decide
  rw [h3]
  omega

/-- Two numbers whose varints come next are alike. -/
theorem vint_one {B : List Nat} {p a b : Nat} (ha : a < 18446744073709551616) (hb : b < 18446744073709551616) (h1 : Starts B p (vint a)) (h2 : Starts B p (vint b)) : a = b := by
  have key : ∀ f a b p, a < 128 ^ f → b < 128 ^ f → Starts B p (vintF f a) → Starts B p (vintF f b) → a = b := by
    intro f
    induction f with
    | zero => intro a b p h1 h2; simp at h1 h2; omega
    | succ f ih =>
      intro a b p h1 h2 h3 h4
      by_cases ha : a < 128
      · rw [vintF_small f a ha, starts_one] at h3
        exact ((starts_vint_lo h3 ha).1 h4).symm
      · rw [vintF_big f a ha, starts_cons] at h3
        obtain ⟨h5, h6, h7⟩ := starts_vint_hi h3.1 (by omega) h4
        have h8 := ih (a / 128) (b / 128) (p + 1) (by rw [Nat.pow_succ] at h1; omega) (by rw [Nat.pow_succ] at h2; omega) h3.2 h7
        omega
  have h3 : (128 : Nat) ^ 10 = 1180591620717411303424 := by decide
  exact key 10 a b p (by omega) (by omega) h1 h2

def Bits (l : List Int) : Prop := ∀ z ∈ l, z = 0 ∨ z = 1

theorem runLen_self_pos (x : Int) (r : List Int) : 0 < runLen x (x :: r) := by simp [runLen]
theorem runsF_more : ∀ (f : Nat) (l : List Int), l.length ≤ f → runsF (f + 1) l = runsF f l := by
  intro f
  induction f with
  | zero => intro l h; cases l with
    | nil => rfl
    | cons x r => simp at h
  | succ f ih =>
    intro l h
    cases l with
    | nil => rfl
    | cons x r =>
      have h1 := runLen_self_pos x r
      have h2 := ih ((x :: r).drop (runLen x (x :: r))) (by rw [List.length_drop]; simp at h ⊢; omega)
      rw [runsF, runsF]
      simp only [h2]
theorem runsF_eq (f : Nat) (l : List Int) (h : l.length ≤ f) : runsF f l = runsB l := by
  induction f with
  | zero =>
    have : l = [] := List.length_eq_zero_iff.1 (by omega)
    subst this; rfl
  | succ f ih =>
    by_cases h2 : l.length ≤ f
    · rw [runsF_more f l h2, ih h2]
    · unfold runsB; rw [show l.length = f + 1 by omega]
theorem runsB_nil : runsB [] = [] := rfl
theorem runsB_cons (x : Int) (r : List Int) : runsB (x :: r) = vint (runLen x (x :: r)) ++ ([byteOf x] ++ runsB ((x :: r).drop (runLen x (x :: r)))) := by
  have h1 := runLen_self_pos x r
  rw [← runsF_eq r.length ((x :: r).drop (runLen x (x :: r))) (by rw [List.length_drop]; simp; omega)]
  rfl
theorem runLen_rep (b : Int) (n : Nat) (m : List Int) (h : m.head? ≠ some b) : runLen b (List.replicate n b ++ m) = n := by
  induction n with
  | zero =>
    cases m with
    | nil => rfl
    | cons y r => simp [runLen]; intro hy; subst hy; simp at h
  | succ n ih => rw [List.replicate_succ, List.cons_append, runLen, if_pos rfl, ih]
theorem runsB_rep (b : Int) (n : Nat) (m : List Int) (hn : n ≠ 0) (h : m.head? ≠ some b) : runsB (List.replicate n b ++ m) = vint n ++ ([byteOf b] ++ runsB m) := by
  obtain ⟨k, rfl⟩ : ∃ k, n = k + 1 := ⟨n - 1, by omega⟩
  have h1 : List.replicate (k + 1) b ++ m = b :: (List.replicate k b ++ m) := by rw [List.replicate_succ]; rfl
  have h2 := runLen_rep b (k + 1) m h
  rw [h1] at h2 ⊢
  rw [runsB_cons, h2, ← h1]
  simp
theorem runLen_split (x : Int) (l : List Int) : l = List.replicate (runLen x l) x ++ l.drop (runLen x l) := by
  induction l with
  | nil => rfl
  | cons y r ih =>
    simp only [runLen]
    split
    · rename_i h
      subst h
      rw [List.replicate_succ, List.cons_append, List.drop_succ_cons, ← ih]
    · simp
theorem runLen_after (x : Int) (l : List Int) : (l.drop (runLen x l)).head? ≠ some x := by
  intro h
  rw [List.head?_drop] at h
  obtain ⟨h1, h2⟩ := List.getElem?_eq_some_iff.1 h
  exact runLen_out x l h1 h2

/-- Runs of which some were read. -/
structure RSt (B : List Nat) (p cn : Nat) (l : List Int) (R : List Nat) : Prop where
  le : l.length ≤ cn
  bits : Bits l
  st : Starts B p R
  ext : ∀ m : List Int, (m = [] ∨ l = [] ∨ m.head? ≠ l.getLast?) → runsB (l ++ m) = R ++ runsB m
  uni : ∀ L : List Int, L.length = cn → Bits L → Starts B p (runsB L) → ∃ m, L = l ++ m ∧ (m = [] ∨ l = [] ∨ m.head? ≠ l.getLast?)

theorem RSt.zero (B : List Nat) (p cn : Nat) : RSt B p cn [] [] :=
  ⟨Nat.zero_le _, fun z hz => by simp at hz, starts_nil _ _, fun m _ => rfl, fun L _ _ _ => ⟨L, rfl, .inr (.inl rfl)⟩⟩

theorem byteOf_bit {b : Int} (h : b = 0 ∨ b = 1) : byteOf b = b.toNat := by rcases h with rfl | rfl <;> rfl

/-- What a list that is written there has behind what was read. -/
theorem RSt.next {B : List Nat} {p cn : Nat} {l : List Int} {R : List Nat} (h : RSt B p cn l R) (hlt : l.length < cn) (L : List Int) (hL : L.length = cn) (hb : Bits L) (hs : Starts B p (runsB L)) :
    ∃ (n : Nat) (b : Int) (m : List Int), 1 ≤ n ∧ n ≤ cn - l.length ∧ (b = 0 ∨ b = 1) ∧ (l = [] ∨ l.getLast? ≠ some b) ∧ Starts B (p + R.length) (vint n) ∧ Starts B (p + R.length + (vint n).length) [b.toNat] ∧
      L = (l ++ List.replicate n b) ++ m ∧ m.head? ≠ some b := by
  obtain ⟨m, rfl, hm⟩ := h.uni L hL hb hs
  rw [List.length_append] at hL
  cases m with
  | nil => simp at hL; omega
  | cons x r =>
    rw [h.ext _ hm, starts_append] at hs
    have hs2 := hs.2
    rw [runsB_cons, starts_append, starts_append] at hs2
    have hx : x = 0 ∨ x = 1 := hb x (by simp)
    refine ⟨runLen x (x :: r), x, (x :: r).drop (runLen x (x :: r)), runLen_self_pos x r, ?_, hx, ?_, hs2.1, ?_, ?_, runLen_after x (x :: r)⟩
    · have := runLen_le x (x :: r); omega
    · rcases hm with h1 | h1 | h1
      · simp at h1
      · exact .inl h1
      · right; simpa [eq_comm] using h1
    · rw [← byteOf_bit hx]; exact hs2.2.1
    · rw [List.append_assoc, ← runLen_split]

theorem RSt.more {B : List Nat} {p cn : Nat} {l : List Int} {R : List Nat} (h : RSt B p cn l R) {n : Nat} {b : Int} (hn : n ≠ 0) (hle : n ≤ cn - l.length) (hn2 : n < 18446744073709551616) (hb : b = 0 ∨ b = 1) (hlast : l = [] ∨ l.getLast? ≠ some b)
    (s1 : Starts B (p + R.length) (vint n)) (s2 : Starts B (p + R.length + (vint n).length) [b.toNat]) (hcn : cn ≤ 100) (hlt : l.length < cn) : RSt B p cn (l ++ List.replicate n b) (R ++ (vint n ++ [b.toNat])) := by
  have hne : List.replicate n b ≠ [] := by simp; exact hn
  have hgl : (l ++ List.replicate n b).getLast? = some b := by
    rw [List.getLast?_append, List.getLast?_replicate, if_neg hn]; rfl
  have hhd : ∀ m, (List.replicate n b ++ m).head? = some b := by
    intro m
    obtain ⟨k, rfl⟩ : ∃ k, n = k + 1 := ⟨n - 1, by omega⟩
    rw [List.replicate_succ]; rfl
  refine ⟨by simp; omega, ?_, ?_, ?_, ?_⟩
  · intro z hz
    rcases List.mem_append.1 hz with h1 | h1
    · exact h.bits z h1
    · rw [(List.mem_replicate.1 h1).2]; exact hb
  · rw [starts_append, starts_append]; exact ⟨h.st, s1, s2⟩
  · intro m hm
    rw [hgl] at hm
    have hm2 : m.head? ≠ some b := by
      rcases hm with h1 | h1 | h1
      · subst h1; simp
      · simp at h1; omega
      · exact h1
    rw [List.append_assoc, h.ext _ (by rw [hhd]; rcases hlast with h1 | h1; exact .inr (.inl h1); exact .inr (.inr (fun e => h1 e.symm))), runsB_rep b n m hn hm2, byteOf_bit hb]
    simp
  · intro L hL hbL hs
    obtain ⟨n', b', m, h1, h2, h3, h4, h5, h6, h7, h8⟩ := h.next hlt L hL hbL hs
    have e1 : n' = n := vint_one (by omega) hn2 h5 s1
    subst e1
    have e2 : b' = b := by
      rw [starts_one] at h6 s2
      rw [h6] at s2
      simp at s2
      omega
    subst e2
    exact ⟨m, h7, .inr (.inr (by rw [hgl]; exact h8))⟩

theorem RSt.done {B : List Nat} {p cn : Nat} {l : List Int} {R : List Nat} (h : RSt B p cn l R) (hl : ¬ l.length < cn) :
    l.length = cn ∧ runsB l = R ∧ (∀ L : List Int, L.length = cn → Bits L → Starts B p (runsB L) → L = l) := by
  have hlen : l.length = cn := by have := h.le; omega
  refine ⟨hlen, ?_, ?_⟩
  · have := h.ext [] (.inl rfl)
    simpa [runsB_nil] using this
  · intro L hL hb hs
    obtain ⟨m, rfl, _⟩ := h.uni L hL hb hs
    rw [List.length_append] at hL
    have : m = [] := List.length_eq_zero_iff.1 (by omega)
    rw [this]; simp
end Go.Proofs.Ytjidbonhhpkljaa.Ec

/- Single values as Plain: as a plain function, and the contracts on both sides. -/
set_option linter.unusedVariables false
namespace Go.Proofs.Ytjidbonhhpkljaa.Ec
open Go.RowKit Go.Proofs.Ytjidbonhhpkljaa.Pk Go.Proofs.Ytjidbonhhpkljaa.Pm
theorem strOf_bytesOf (s : ByteArray) : strOf (bytesOf s) = s := by
  unfold strOf bytesOf strOfNums
  apply ByteArray.ext
  apply Array.ext'
  have h : ∀ x : UInt8, ((fun n : Int => UInt8.ofNat n.toNat) ∘ (fun n : Nat => (n : Int)) ∘ UInt8.toNat) x = x := fun x => by simp
  simp
  rw [List.map_congr_left (fun x _ => h x)]
  simp
theorem bytesOf_length (s : ByteArray) : (bytesOf s).length = s.size := by
  unfold bytesOf
  simp
theorem bytesOf_lt (s : ByteArray) : ∀ x ∈ bytesOf s, x < 256 := by
  intro x hx
  unfold bytesOf at hx
  obtain ⟨y, _, rfl⟩ := List.mem_map.1 hx
  exact y.toNat_lt

/-- A value as Plain. -/
def plainB (k : Int) (v : Val) : List Nat := if k = 1 then vint (zz v.n) else if k = 2 then [byteOf v.n] else vint v.s.size ++ bytesOf v.s

theorem plainB_length (k : Int) (v : Val) (h : v.s.size ≤ 32) : (plainB k v).length ≤ 42 := by
  have h1 := vintF_length 10 (zz v.n)
  have h2 := vintF_length 10 v.s.size
  unfold plainB
  split
  · unfold vint; omega
  · split
    · simp
    · rw [List.length_append, bytesOf_length]; unfold vint; omega

/-- What is asked of a value ahead of being written. -/
structure VOk (v : Val) : Prop where
  lo : -9223372036854775808 ≤ v.n
  hi : v.n ≤ 9223372036854775807
  sz : v.s.size ≤ 32

theorem Grew.box {w w1 : World} {v v1 : Value} {o : Obj} (h : Grew (w.alloc o) w1 v v1) : Grew w w1 v v1 := ((Grew.refl w v).alloc o).trans h
theorem below_box {w w1 : World} {o : Obj} (h : Below (w.alloc o).heap.size (w.alloc o) w1) : Below w.heap.size w w1 :=
  ((Below.refl _ _).alloc (Nat.le_refl _) o).trans (h.mono (by simp))

theorem box_two {w w1 : World} {a b c : Value} {t : TypeId} (h : Below ((w.alloc (.cells #[a, b, c] t)).drew).heap.size (w.alloc (.cells #[a, b, c] t)).drew w1) : w1.cell? ⟨w.heap.size, 2, none⟩ = some c :=
  (h.cell (p := ⟨w.heap.size, 2, none⟩) (by simp)).trans (by simp)

set_option maxRecDepth 100000 in
set_option maxHeartbeats 2000000 in
theorem plain_any (v : Val) (k : Int) (w : World) (hk : k = 1 ∨ k = 2 ∨ k = 3) (hv : VOk v) :
    Calls Try.prog 88 #[.agg #[.bool v.null, .int .i64 v.n, .string v.s], .int .i64 k] w fun e w' => e = .returned (.string (strOf (plainB k v))) ∧ Below w.heap.size w w' := by
  obtain ⟨h0, h1, h2⟩ := hv
  rcases hk with rfl | rfl | rfl
  · rw [show plainB 1 v = vint (zz v.n) from by simp [plainB]]
    have HZ := zigzag_any v.n h0 h1
    have HV := fun W => varint_any (zz v.n) W (zz_lt _ h0 h1)
    go_enter Try.func88, Try.ntmps88
    go_wp2_with first
      | (go_at_call 103; refine (HZ _).mono ?_; rintro e w1 ⟨rfl, rfl⟩)
      | (go_at_call 87; refine (HV _).mono ?_; rintro e w1 ⟨rfl, hb1⟩)
    go_ret
    exact ⟨rfl, below_box hb1⟩
  · rw [show plainB 2 v = [byteOf v.n] from by simp [plainB]]
    have hwb : IntKind.u8.wrap v.n = v.n % 256 := by simp [IntKind.wrap, IntKind.bits, IntKind.signed]
    rw [byteOf_int] at hwb
    have hcv : ∀ (W : World) (g : Nat), W.cell? ⟨g, 0, none⟩ = some (.int .u8 (byteOf v.n : Int)) → (convert 44 9 (.slice (some ⟨g, 0, none⟩) 1 1)).run Try.prog W = .ok (.string (strOf [byteOf v.n])) W := fun W g h => conv_one h
    go_enter Try.func88, Try.ntmps88
    go_wp2
    go_ret
    exact ⟨rfl, ((Below.refl _ _).alloc (Nat.le_refl _) _).alloc (by simp) _⟩
  · rw [show plainB 3 v = vint v.s.size ++ bytesOf v.s from by simp [plainB], strOf_append, strOf_bytesOf]
    have HV := fun W => varint_any v.s.size W (by omega)
    have hl := vintF_length 10 v.s.size
    have hsz : ¬ 9223372036854775807 < (strOf (vint v.s.size)).size + v.s.size := by rw [Pk.strOf_size]; unfold vint; omega
    go_enter Try.func88, Try.ntmps88
    go_wp2_with fail
    have hwz : IntKind.u64.wrap (v.s.size : Int) = (v.s.size : Int) := by rw [wrap_u64]; omega
    go_region_with (go_at_call 87; refine (HV _).mono ?_; rintro e w1 ⟨rfl, hb1⟩; have hk1 := box_two hb1)
    all_goals
      go_wp2
      go_ret
      exact ⟨rfl, below_one hb1⟩

end Go.Proofs.Ytjidbonhhpkljaa.Ec

/- How many bits a place among so many wants: on both sides. -/
set_option linter.unusedVariables false
namespace Go.Proofs.Ytjidbonhhpkljaa.Ec
open Go.RowKit Go.Proofs.Ytjidbonhhpkljaa.Pk Go.Proofs.Ytjidbonhhpkljaa.Pm
def wid (n : Nat) : Nat := if n ≤ 1 then 0 else if n ≤ 2 then 1 else if n ≤ 4 then 2 else if n ≤ 8 then 3 else if n ≤ 16 then 4 else if n ≤ 32 then 5 else if n ≤ 64 then 6 else 7

theorem wid_le (n : Nat) : wid n ≤ 7 := by unfold wid; repeat' split
                                           all_goals omega
end Go.Proofs.Ytjidbonhhpkljaa.Ec

/- Lists of values: rows of the call's own, the place of a value, and values as Plain one behind the other. -/
set_option linter.unusedVariables false
namespace Go.Proofs.Ytjidbonhhpkljaa.Ec
open Go.RowKit Go.Proofs.Ytjidbonhhpkljaa.Pk Go.Proofs.Ytjidbonhhpkljaa.Pm
/-- Two rows of the call's own do not lie in the same memory. -/
def Apart (u v : Value) : Prop := u.ownBlock = none ∨ u.ownBlock ≠ v.ownBlock

theorem Apart.symm {u v : Value} (h : Apart u v) : Apart v u := by
  rcases h with h | h
  · cases hv : v.ownBlock with
    | none => exact .inl hv
    | some g => exact .inr (by rw [h, hv]; simp)
  · exact .inr (fun e => h e.symm)
theorem Apart.nil (u : Value) : Apart u (.slice none 0 0) := by
  cases hu : u.ownBlock with
  | none => exact .inl hu
  | some g => exact .inr (by rw [hu]; simp [Value.ownBlock])
theorem kept_grew {w w' : World} {base e size n : Nat} {u v v' : Value} {xs : List Value} (h : w.ownsRow base e size u n xs) (hg : Grew w w' v v') (ha : Apart u v) : w'.ownsRow base e size u n xs :=
  h.kept hg.by_ ha
theorem Apart.grew {w w' : World} {base e size n : Nat} {u v v' : Value} {xs : List Value} (ha : Apart u v) (h : w.ownsRow base e size u n xs) (hg : Grew w w' v v') : Apart u v' := by
  rcases ha with h1 | h1
  · exact .inl h1
  · cases hu : u.ownBlock with
    | none => exact .inl hu
    | some g =>
      right
      intro e
      rw [hu] at e h1
      have hlt := (h.lt g hu).2
      rcases hg.at_ g e.symm with h2 | h2
      · exact h1 h2.symm
      · omega
theorem Apart.new {w : World} {base B e size n : Nat} {e2 size2 n2 : Nat} {u v : Value} {xs ys : List Value} {w' : World} (h : w.ownsRow base e size u n xs) (hn : w'.ownsRow w.heap.size e2 size2 v n2 ys) : Apart u v := by
  cases hu : u.ownBlock with
  | none => exact .inl hu
  | some g =>
    right
    intro e2
    rw [hu] at e2
    have h1 := (h.lt g hu).2
    have h2 := (hn.lt g e2.symm).1
    omega

/-- A slice of values. -/
def VSl (w : World) (v : Value) (l : List Val) : Prop := ∃ ao b off cap, v = .slice ao l.length cap ∧ VRow w ao b off l
theorem VSl.below {w w' : World} {v : Value} {l : List Val} (h : VSl w v l) (hb : Below w.heap.size w w') : VSl w' v l := by
  obtain ⟨ao, b, off, cap, rfl, h⟩ := h
  exact ⟨ao, b, off, cap, rfl, h.below hb⟩

theorem vcells_cons (x : Val) (r : List Val) : vcells (x :: r) = [.bool x.null, .int .i64 x.n, .string x.s] ++ vcells r := by simp [vcells]
theorem vcells_at (l : List Val) : ∀ (j : Nat) (h : j < l.length), (vcells l)[j * 3]? = some (.bool l[j].null) ∧ (vcells l)[j * 3 + 1]? = some (.int .i64 l[j].n) ∧ (vcells l)[j * 3 + 2]? = some (.string l[j].s) := by
  induction l with
  | nil => intro j h; simp at h
  | cons x r ih =>
    intro j h
    rw [vcells_cons]
    cases j with
    | zero => simp
    | succ j =>
      have := ih j (by simpa using h)
      have e0 : (j + 1) * 3 = j * 3 + 3 := by omega
      rw [e0, List.getElem?_append_right (by simp), List.getElem?_append_right (by simp), List.getElem?_append_right (by simp)]
      simpa [show j * 3 + 3 + 1 - 3 = j * 3 + 1 by omega, show j * 3 + 3 + 2 - 3 = j * 3 + 2 by omega] using this

theorem VSl.of_owns {w : World} {base : Nat} {v : Value} {l : List Val} (h : w.ownsRow base 39 3 v l.length (vcells l)) : VSl w v l := by
  rcases h.2 with ⟨rfl, h0⟩ | ⟨g, cap, cur, rfl, hbg, hgb, hnc, hcm, hcs, htake⟩
  · have : l = [] := List.eq_nil_of_length_eq_zero h0
    subst this
    exact ⟨none, 0, 0, 0, rfl, ⟨fun h => by simp at h, fun h => by simp at h, fun j h => by simp at h, fun j h => by simp at h, fun j h => by simp at h⟩⟩
  · have hc := h.cells (g := g) rfl
    refine ⟨some ⟨g, 0, none⟩, g, 0, cap, rfl, ⟨fun _ => rfl, fun _ => (h.lt g rfl).2, ?_, ?_, ?_⟩⟩
    · intro j hj
      have := hc _ _ (vcells_at l j hj).1
      simpa [Addr.add_lit] using this
    · intro j hj
      have := hc _ _ (vcells_at l j hj).2.1
      simpa [Addr.add_lit] using this
    · intro j hj
      have := hc _ _ (vcells_at l j hj).2.2
      simpa [Addr.add_lit] using this

/-- Where a value stands first. -/
def idx : List Val → Val → Nat
  | [], _ => 0
  | y :: r, x => if veq y x then 0 else idx r x + 1
theorem idx_le (l : List Val) (x : Val) : idx l x ≤ l.length := by
  induction l with
  | nil => simp [idx]
  | cons y r ih => simp only [idx]; split <;> simp <;> omega
end Go.Proofs.Ytjidbonhhpkljaa.Ec

/- The program's side, list by list: Plain, Delta, the bits of Bools. -/
set_option linter.unusedVariables false
namespace Go.Proofs.Ytjidbonhhpkljaa.Ec
open Go.RowKit Go.Proofs.Ytjidbonhhpkljaa.Pk Go.Proofs.Ytjidbonhhpkljaa.Pm
/-- Values as Plain, one behind the other. -/
def plainsB (k : Int) (l : List Val) : List Nat := l.flatMap (plainB k)
theorem plainsB_length (k : Int) (l : List Val) (h : ∀ x ∈ l, VOk x) : (plainsB k l).length ≤ 42 * l.length := by
  induction l with
  | nil => simp [plainsB]
  | cons x r ih =>
    have h1 := ih (fun y hy => h y (by simp [hy]))
    have h2 := plainB_length k x (h x (by simp)).sz
    unfold plainsB at h1 ⊢
    simp at h1 ⊢
    omega

/-- Differences. -/
def deltaF : Int → List Val → List Nat
  | _, [] => []
  | a, v :: r => vint (zz (wrap64 (v.n - a))) ++ deltaF v.n r
theorem deltaF_length (a : Int) (l : List Val) : (deltaF a l).length ≤ 10 * l.length := by
  induction l generalizing a with
  | nil => simp [deltaF]
  | cons y r ih =>
    have h1 := ih y.n
    have h2 := vintF_length 10 (zz (wrap64 (y.n - a)))
    simp only [deltaF, List.length_append, List.length_cons]
    unfold vint
    omega
end Go.Proofs.Ytjidbonhhpkljaa.Ec

/- Numbers packed behind what was written: the program's side. -/
set_option linter.unusedVariables false
namespace Go.Proofs.Ytjidbonhhpkljaa.Ec
open Go.RowKit Go.Proofs.Ytjidbonhhpkljaa.Pk Go.Proofs.Ytjidbonhhpkljaa.Pm
/-- A slice of numbers. -/
def ISl (w : World) (v : Value) (zs : List Int) : Prop := ∃ ao b off cap, v = .slice ao zs.length cap ∧ (0 < zs.length → ao = some ⟨b, off, none⟩) ∧ (0 < zs.length → b < w.heap.size) ∧ ∀ j, j < zs.length → w.cell? ⟨b, off + j, none⟩ = some (.int .i64 (zs.getD j 0))
theorem ISl.of_owns {w : World} {base : Nat} {v : Value} {zs : List Int} (h : w.ownsRow base 3 1 v zs.length (icells zs)) : ISl w v zs := by
  rcases h.2 with ⟨rfl, h0⟩ | ⟨g, cap, cur, rfl, hbg, hgb, hnc, hcm, hcs, htake⟩
  · have : zs = [] := List.eq_nil_of_length_eq_zero h0
    subst this
    exact ⟨none, 0, 0, 0, rfl, fun h => by simp at h, fun h => by simp at h, fun j h => by simp at h⟩
  · have hc := h.cells (g := g) rfl
    refine ⟨some ⟨g, 0, none⟩, g, 0, cap, rfl, fun _ => rfl, fun _ => (h.lt g rfl).2, ?_⟩
    intro j hj
    have := hc _ _ (icells_get zs j hj)
    rw [getD_get hj]
    simpa [Addr.add_lit] using this

end Go.Proofs.Ytjidbonhhpkljaa.Ec

/- Values as keys of a map; dictionaries as plain functions. -/
set_option linter.unusedVariables false
namespace Go.Proofs.Ytjidbonhhpkljaa.Ec
open Go.RowKit Go.Proofs.Ytjidbonhhpkljaa.Pk Go.Proofs.Ytjidbonhhpkljaa.Pm
theorem laidV : laidOutB Try.prog = true := by kernel_rfl
theorem rowV : (39 : TypeId) < Try.prog.types.size := of_decide_eq_true (by kernel_rfl)
theorem ktV : Try.prog.keyTypeAt 2 39 = true := by kernel_rfl
theorem lawV : Maps.Keyed Try.prog 39 := Maps.Keyed.of_law (deep_law_laid laidV (m := 2) (by omega) rowV ktV (by rw [Try.underlying39]))
theorem cellsV : Try.prog.cellsOf 39 = 3 := by kernel_rfl
theorem cellsB1 : Try.prog.cellsOf 4 = 1 := by kernel_rfl
theorem cellsI1 : Try.prog.cellsOf 3 = 1 := by kernel_rfl
theorem cellsS1 : Try.prog.cellsOf 9 = 1 := by kernel_rfl
theorem size_succ (n : Nat) (h : 39 < n) : ∃ m, n = m + 1 := ⟨n - 1, by omega⟩
theorem sizeP : ∃ m, Try.prog.types.size = m + 1 := size_succ _ rowV
theorem keyTypeV : Try.prog.keyType 39 = true := by kernel_rfl

/-- What a value reads as, as a key. -/
def kl (x : Val) : Lit := .string (keyBytes [.bool x.null, .int .i64 x.n, .string x.s.data.toList])

theorem wf_i64 (a : Int) (h0 : -9223372036854775808 ≤ a) (h1 : a ≤ 9223372036854775807) : (Lit.int .i64 a).wf = true := by
  simp [Lit.wf, IntKind.min, IntKind.max, IntKind.signed, IntKind.bits]
  omega

theorem key_mk (x : Val) (h : VOk x) : keyOf Try.prog 39 (.agg #[.bool x.null, .int .i64 x.n, .string x.s]) = some (kl x) := by
  obtain ⟨m, hm⟩ := sizeP
  have hw := wf_i64 x.n h.lo h.hi
  have hs : x.s.size ≤ maxLen := by have := h.sz; unfold maxLen; omega
  have hf : (Value.agg #[.bool x.null, .int .i64 x.n, .string x.s]).formed Try.prog 39 = true := by simp [Value.formed, Try.underlying39, cellsV]
  unfold keyOf
  simp only [Try.underlying39, keyTypeV, hf, Bool.and_self, if_true, hm]
  unfold Program.keyLits
  simp [Try.underlying39, cellsV, cellsB1, cellsI1, cellsS1, Value.cells, Program.keyLits, Try.underlying4, Try.underlying3, Try.underlying9, hw, hs, kl]

theorem kl_inj {x y : Val} (hx : VOk x) (hy : VOk y) (h : kl x = kl y) : x = y := by
  have e := lawV.inj (key_mk x hx) (by rw [h]; exact key_mk y hy)
  cases x; cases y
  simp at e
  simp [e]
theorem kl_key (x : Val) : WideAt.IsKeyLit (kl x) := trivial

/-- A dictionary, one value more. -/
def ins (d : List Val) (v : Val) : List Val := if idx d v < d.length then d else d ++ [v]

theorem idx_append_in (d : List Val) (x : Val) (r : List Val) (h : idx d x < d.length) : idx (d ++ r) x = idx d x := by
  induction d with
  | nil => simp at h
  | cons y t ih =>
    simp only [idx, List.cons_append] at h ⊢
    by_cases hy : veq y x = true
    · simp [hy]
    · simp only [hy] at h ⊢
      have := ih (by simpa using h)
      simp [this]
theorem idx_append_out (d : List Val) (x : Val) (h : ¬ idx d x < d.length) (v : Val) : idx (d ++ [v]) x = if veq v x then d.length else d.length + 1 := by
  induction d with
  | nil => simp [idx]
  | cons y t ih =>
    simp only [idx, List.cons_append] at h ⊢
    by_cases hy : veq y x = true
    · simp [hy] at h
    · simp only [hy] at h ⊢
      have := ih (by simpa using h)
      rw [if_neg (by simp), this]
      split <;> simp
theorem idx_ins (d : List Val) (v : Val) : idx (ins d v) v = idx d v ∧ idx (ins d v) v < (ins d v).length ∧ (¬ idx d v < d.length → idx d v = d.length) := by
  have hle := idx_le d v
  unfold ins
  by_cases h : idx d v < d.length
  · simp only [h, if_true]
    exact ⟨trivial, trivial, fun h => absurd trivial h⟩
  · have hv : veq v v = true := veq_iff.2 rfl
    have := idx_append_out d v h v
    rw [hv] at this
    simp only [h, if_false]
    simp at this
    rw [this]
    refine ⟨by omega, by simp, fun _ => by omega⟩

def dstep (s : List Val × List Nat) (v : Val) : List Val × List Nat := (ins s.1 v, s.2 ++ [idx (ins s.1 v) v])
def dfold (l : List Val) : List Val × List Nat := l.foldl dstep ([], [])
theorem dfold_succ (l : List Val) (k : Nat) (h : k < l.length) : dfold (l.take (k + 1)) = dstep (dfold (l.take k)) l[k] := by
  unfold dfold
  rw [List.take_succ_eq_append_getElem h, List.foldl_append]
  rfl
theorem ins_length (d : List Val) (v : Val) : (ins d v).length ≤ d.length + 1 ∧ d.length ≤ (ins d v).length := by
  unfold ins; split <;> simp
theorem ins_mem (d : List Val) (v x : Val) (h : x ∈ ins d v) : x ∈ d ∨ x = v := by
  unfold ins at h
  split at h
  · exact .inl h
  · rcases List.mem_append.1 h with h | h
    · exact .inl h
    · exact .inr (by simpa using h)
theorem dfold_ok (l : List Val) : ∀ k, k ≤ l.length → (dfold (l.take k)).1.length ≤ k ∧ (dfold (l.take k)).2.length = k ∧ (∀ p ∈ (dfold (l.take k)).2, p < (dfold (l.take k)).1.length) ∧ (∀ x ∈ (dfold (l.take k)).1, x ∈ l) := by
  intro k
  induction k with
  | zero => intro _; simp [dfold]
  | succ k ih =>
    intro h
    obtain ⟨h1, h2, h3, h4⟩ := ih (by omega)
    rw [dfold_succ l k (by omega)]
    have i1 := ins_length (dfold (l.take k)).1 l[k]
    have i2 := idx_ins (dfold (l.take k)).1 l[k]
    unfold dstep
    refine ⟨by simp only; omega, by simp [h2], ?_, ?_⟩
    · intro p hp
      simp only at hp ⊢
      rcases List.mem_append.1 hp with hp | hp
      · have := h3 p hp; omega
      · simp at hp; rw [hp]; exact i2.2.1
    · intro x hx
      rcases ins_mem _ _ _ hx with h | h
      · exact h4 x h
      · rw [h]; exact List.getElem_mem _

/-- What a map knows of a dictionary. -/
structure Knows (D : DataW Unit) (d : List Val) : Prop where
  map : Maps.IsMap D
  has : ∀ x, VOk x → Maps.has D (kl x) = decide (idx d x < d.length)
  at_ : ∀ x, VOk x → idx d x < d.length → D.atKey (kl x) (.lit (.int .i64 0)) = .lit (.int .i64 (idx d x : Int))
theorem Knows.empty : Knows (.map []) [] := ⟨Maps.isMap_empty, fun x _ => by simp [Maps.has_eq], fun x _ h => by simp at h⟩
theorem Knows.put {D : DataW Unit} {d : List Val} (h : Knows D d) (v : Val) (hv : VOk v) (hn : ¬ idx d v < d.length) : Knows (D.put (kl v) (.lit (.int .i64 (d.length : Int)))) (d ++ [v]) := by
  have hvv : veq v v = true := veq_iff.2 rfl
  refine ⟨h.map.put _ _, ?_, ?_⟩
  · intro x hx
    by_cases e : x = v
    · subst e
      rw [Maps.has_put_same h.map (kl_key x)]
      have := idx_append_out d x hn x
      rw [hvv] at this
      simp at this
      simp [this]
    · rw [Maps.has_put_other (fun e2 => e (kl_inj hx hv e2)), h.has x hx]
      by_cases hi : idx d x < d.length
      · rw [idx_append_in d x [v] hi]; simp; omega
      · rw [idx_append_out d x hi v]
        have : veq v x = false := by
          rw [Bool.eq_false_iff]; intro h2; exact e (veq_iff.1 h2).symm
        rw [this]
        simp; omega
  · intro x hx hi
    by_cases e : x = v
    · subst e
      rw [Maps.atKey_put_same h.map (kl_key x)]
      have := idx_append_out d x hn x
      rw [hvv] at this
      simp at this
      rw [this]
    · rw [Maps.atKey_put_other (fun e2 => e (kl_inj hx hv e2))]
      by_cases hi2 : idx d x < d.length
      · rw [idx_append_in d x [v] hi2]; exact h.at_ x hx hi2
      · exfalso
        rw [idx_append_out d x hi2 v] at hi
        have : veq v x = false := by
          rw [Bool.eq_false_iff]; intro h2; exact e (veq_iff.1 h2).symm
        rw [this] at hi
        simp at hi
end Go.Proofs.Ytjidbonhhpkljaa.Ec

/- Dict: the program's side. -/
set_option linter.unusedVariables false
namespace Go.Proofs.Ytjidbonhhpkljaa.Ec
open Go.RowKit Go.Proofs.Ytjidbonhhpkljaa.Pk Go.Proofs.Ytjidbonhhpkljaa.Pm
theorem Grew.of_below {w w' : World} {u : Value} (h : Below w.heap.size w w') : Grew w w' u u := ⟨⟨h.1, h.2, h.3, h.4, fun k hk _ => h.block k hk⟩, fun _ h => .inl h⟩

/-- A dictionary and its places, as bytes. -/
def dictB (k : Int) (l : List Val) : List Nat := vint (dfold l).1.length ++ (plainsB k (dfold l).1 ++ packBytes (wid (dfold l).1.length) (dfold l).2)

end Go.Proofs.Ytjidbonhhpkljaa.Ec

/- A whole column: the program's side. -/
set_option linter.unusedVariables false
namespace Go.Proofs.Ytjidbonhhpkljaa.Ec
open Go.RowKit Go.Proofs.Ytjidbonhhpkljaa.Pk Go.Proofs.Ytjidbonhhpkljaa.Pm
def lev (x : Val) : Int := if x.null then 0 else 1
def there (l : List Val) : List Val := l.filter fun x => !x.null
def codedB (k e : Int) (l : List Val) : List Nat := if e = 1 then deltaF 0 l else if e = 2 then dictB k l else if e = 3 then runsB (l.map Val.n) else plainsB k l
def columnB (k e : Int) (l : List Val) : List Nat := runsB (l.map lev) ++ codedB k e (there l)

theorem there_mem {l : List Val} {x : Val} (h : x ∈ there l) : x ∈ l := (List.mem_filter.1 h).1
theorem there_length (l : List Val) : (there l).length ≤ l.length := List.length_filter_le _ _
theorem runsB_length (l : List Int) (h : l.length ≤ 100) : (runsB l).length ≤ 1100 := by
  have := runsF_length l.length l
  unfold runsB
  omega

end Go.Proofs.Ytjidbonhhpkljaa.Ec

/- A whole column, and Encode: the document's side. -/
set_option linter.unusedVariables false
namespace Go.Proofs.Ytjidbonhhpkljaa.Ec
open Go.RowKit Go.Proofs.Ytjidbonhhpkljaa.Pk Go.Proofs.Ytjidbonhhpkljaa.Pm
theorem codedB_length (k e : Int) (l : List Val) (h : ∀ x ∈ l, VOk x) (hl : l.length ≤ 100) : (codedB k e l).length ≤ 100000 := by
  unfold codedB
  split
  · have := deltaF_length 0 l; omega
  · split
    · unfold dictB
      have ho := dfold_ok l l.length (Nat.le_refl _)
      rw [List.take_length] at ho
      obtain ⟨h1, h2, h3, h4⟩ := ho
      have hp := plainsB_length k (dfold l).1 (fun x hx => h x (h4 x hx))
      have hv := vintF_length 10 (dfold l).1.length
      have hw := wid_le (dfold l).1.length
      have hm : (dfold l).2.length * wid (dfold l).1.length ≤ 100 * 7 := Nat.mul_le_mul (by omega) hw
      rw [List.length_append, List.length_append, packBytes_length]
      unfold vint
      omega
    · split
      · have := runsB_length (l.map Val.n) (by rw [List.length_map]; omega); omega
      · have := plainsB_length k l h; omega

end Go.Proofs.Ytjidbonhhpkljaa.Ec

/- Encode on both sides: what it answers, as a plain function. -/
set_option linter.unusedVariables false
namespace Go.Proofs.Ytjidbonhhpkljaa.Ec
open Go.RowKit Go.Proofs.Ytjidbonhhpkljaa.Pk Go.Proofs.Ytjidbonhhpkljaa.Pm
/-- A value as it may come in. -/
structure VIn (v : Val) : Prop where
  lo : -9223372036854775808 ≤ v.n
  hi : v.n ≤ 9223372036854775807

theorem size_nil {s : ByteArray} (h : s.toList = []) : s.size = 0 := by
  have h1 : s.toList = s.data.toList := ByteArray.toList_eq s
  rw [h1] at h
  show s.data.size = 0
  rw [← Array.length_toList, h]
  rfl
theorem vok_of_may {x : Val} {k : Int} (h : VIn x) (hm : mayB x k = true) : VOk x := by
  refine ⟨h.lo, h.hi, ?_⟩
  unfold mayB at hm
  split at hm
  · simp at hm; have := size_nil hm.2; omega
  · split at hm
    · simp at hm; have := size_nil hm; omega
    · split at hm
      · simp at hm; have := size_nil hm.2; omega
      · simp at hm; omega

def encOf (l : List Val) (k e : Int) : ByteArray × Int :=
  if 100 < l.length then (⟨#[]⟩, 6) else if hasEncB k e = false then (⟨#[]⟩, 2) else if (l.all fun x => mayB x k) = false then (⟨#[]⟩, 1) else (strOf (columnB k e l), 0)

theorem enc_ok {l : List Val} {k e : Int} (h : ¬ 100 < l.length) (h2 : hasEncB k e = true) (ha : ∀ j, (hj : j < l.length) → mayB l[j] k = true) : encOf l k e = (strOf (columnB k e l), 0) := by
  unfold encOf
  rw [if_neg h, if_neg (by simp [h2]), if_neg]
  have : (l.all fun x => mayB x k) = true := by
    rw [List.all_eq_true]
    intro x hx
    obtain ⟨j, hj, rfl⟩ := List.getElem_of_mem hx
    exact ha j hj
  simp [this]

end Go.Proofs.Ytjidbonhhpkljaa.Ec

/- Lists that are read one element behind the other: what was read, and that nothing else can stand there; plain values. -/
set_option linter.unusedVariables false
namespace Go.Proofs.Ytjidbonhhpkljaa.Ec
open Go.RowKit Go.Proofs.Ytjidbonhhpkljaa.Pk Go.Proofs.Ytjidbonhhpkljaa.Pm
/-- Of count elements some were read: E what a list is written as, e what an element is behind those ahead of it. -/
structure QSt {α : Type} (E : List α → List Nat) (ok : α → Prop) (B : List Nat) (p cn : Nat) (l : List α) : Prop where
  le : l.length ≤ cn
  oks : ∀ x ∈ l, ok x
  st : Starts B p (E l)
  uni : ∀ L : List α, L.length = cn → (∀ x ∈ L, ok x) → Starts B p (E L) → ∃ m, L = l ++ m

theorem snoc_pre {α : Type} {E : List α → List Nat} {e : List α → α → List Nat} (hE : ∀ l x, E (l ++ [x]) = E l ++ e l x) (l m : List α) : ∃ t, E (l ++ m) = E l ++ t := by
  induction m generalizing l with
  | nil => exact ⟨[], by simp⟩
  | cons x r ih =>
    obtain ⟨t, ht⟩ := ih (l ++ [x])
    refine ⟨e l x ++ t, ?_⟩
    rw [show l ++ x :: r = l ++ [x] ++ r by simp, ht, hE, List.append_assoc]

theorem QSt.zero {α : Type} {E : List α → List Nat} {ok : α → Prop} {B : List Nat} {p cn : Nat} (h0 : E [] = []) : QSt E ok B p cn [] :=
  ⟨Nat.zero_le _, fun x hx => by simp at hx, by rw [h0]; exact starts_nil _ _, fun L _ _ _ => ⟨L, rfl⟩⟩
theorem QSt.next {α : Type} {E : List α → List Nat} {ok : α → Prop} {e : List α → α → List Nat} {B : List Nat} {p cn : Nat} {l : List α} (h : QSt E ok B p cn l) (hE : ∀ l x, E (l ++ [x]) = E l ++ e l x) (hlt : l.length < cn)
    (L : List α) (hL : L.length = cn) (hok : ∀ x ∈ L, ok x) (hs : Starts B p (E L)) : ∃ x m, L = (l ++ [x]) ++ m ∧ ok x ∧ Starts B (p + (E l).length) (e l x) := by
  obtain ⟨m, rfl⟩ := h.uni L hL hok hs
  cases m with
  | nil => simp at hL; omega
  | cons x r =>
    obtain ⟨t, ht⟩ := snoc_pre hE (l ++ [x]) r
    refine ⟨x, r, by simp, hok x (by simp), ?_⟩
    rw [show l ++ x :: r = l ++ [x] ++ r by simp, ht, hE, List.append_assoc, starts_append, starts_append] at hs
    exact hs.2.1
theorem QSt.more {α : Type} {E : List α → List Nat} {ok : α → Prop} {e : List α → α → List Nat} {B : List Nat} {p cn : Nat} {l : List α} (h : QSt E ok B p cn l) (hE : ∀ l x, E (l ++ [x]) = E l ++ e l x) (hlt : l.length < cn)
    {x : α} (hx : ok x) (hs : Starts B (p + (E l).length) (e l x)) (hu : ∀ y, ok y → Starts B (p + (E l).length) (e l y) → y = x) : QSt E ok B p cn (l ++ [x]) := by
  refine ⟨by simp; omega, ?_, by rw [hE, starts_append]; exact ⟨h.st, hs⟩, ?_⟩
  · intro y hy
    rcases List.mem_append.1 hy with h1 | h1
    · exact h.oks y h1
    · simp at h1; rw [h1]; exact hx
  · intro L hL hok hsL
    obtain ⟨y, m, h1, h2, h3⟩ := h.next hE hlt L hL hok hsL
    rw [hu y h2 h3] at h1
    exact ⟨m, h1⟩
theorem QSt.fail {α : Type} {E : List α → List Nat} {ok : α → Prop} {e : List α → α → List Nat} {B : List Nat} {p cn : Nat} {l : List α} (h : QSt E ok B p cn l) (hE : ∀ l x, E (l ++ [x]) = E l ++ e l x) (hlt : l.length < cn)
    (hu : ∀ y, ok y → ¬ Starts B (p + (E l).length) (e l y)) (L : List α) (hL : L.length = cn) (hok : ∀ x ∈ L, ok x) : ¬ Starts B p (E L) := by
  intro hs
  obtain ⟨y, m, h1, h2, h3⟩ := h.next hE hlt L hL hok hs
  exact hu y h2 h3
theorem QSt.done {α : Type} {E : List α → List Nat} {ok : α → Prop} {B : List Nat} {p cn : Nat} {l : List α} (h : QSt E ok B p cn l) (hl : ¬ l.length < cn) :
    l.length = cn ∧ (∀ L : List α, L.length = cn → (∀ x ∈ L, ok x) → Starts B p (E L) → L = l) := by
  have hlen : l.length = cn := by have := h.le; omega
  refine ⟨hlen, ?_⟩
  intro L hL hb hs
  obtain ⟨m, rfl⟩ := h.uni L hL hb hs
  rw [List.length_append] at hL
  have : m = [] := List.length_eq_zero_iff.1 (by omega)
  rw [this]; simp

/-- The number that was folded. -/
def uz (m : Nat) : Int := if m % 2 = 1 then -((m / 2 : Nat) : Int) - 1 else ((m / 2 : Nat) : Int)
theorem zz_uz (m : Nat) : zz (uz m) = m := by
  unfold zz uz
  split <;> split <;> omega
theorem uz_zz (n : Int) : uz (zz n) = n := by
  unfold zz uz
  split <;> split <;> omega
theorem uz_range (m : Nat) (h : m < 18446744073709551616) : -9223372036854775808 ≤ uz m ∧ uz m ≤ 9223372036854775807 := by
  unfold uz
  split <;> omega

/-- A value that is there, of a kind. -/
structure VK (k : Int) (v : Val) : Prop where
  there : v.null = false
  lo : -9223372036854775808 ≤ v.n
  hi : v.n ≤ 9223372036854775807
  s1 : k = 1 → v.s = ⟨#[]⟩
  s2 : k = 2 → (v.n = 0 ∨ v.n = 1) ∧ v.s = ⟨#[]⟩
  s3 : k = 3 → v.n = 0 ∧ v.s.size ≤ 32

theorem nil_of_toList {s : ByteArray} (h : s.toList = []) : s = ⟨#[]⟩ := by
  rw [ByteArray.toList_eq s] at h
  apply ByteArray.ext
  apply Array.ext'
  simpa using h
theorem may_of_vk {k : Int} {v : Val} (hk : k = 1 ∨ k = 2 ∨ k = 3) (h : VK k v) : mayB v k = true := by
  unfold mayB
  rw [h.there]
  rcases hk with rfl | rfl | rfl
  · simp [h.s1 rfl, ByteArray.toList_eq]
  · have := h.s2 rfl
    simp [this.2, this.1, ByteArray.toList_eq]
  · have := h.s3 rfl
    simp [this.1]; omega
theorem vk_of_may {k : Int} {v : Val} (hk : k = 1 ∨ k = 2 ∨ k = 3) (hn : v.null = false) (h : VIn v) (hm : mayB v k = true) : VK k v := by
  unfold mayB at hm
  rw [hn] at hm
  refine ⟨hn, h.lo, h.hi, ?_, ?_, ?_⟩
  · rintro rfl
    simp at hm
    exact nil_of_toList hm
  · rintro rfl
    simp at hm
    exact ⟨hm.1, nil_of_toList hm.2⟩
  · rintro rfl
    simp at hm
    exact ⟨hm.1, by omega⟩
theorem VK.ok {k : Int} {v : Val} (hk : k = 1 ∨ k = 2 ∨ k = 3) (h : VK k v) : VOk v := by
  refine ⟨h.lo, h.hi, ?_⟩
  rcases hk with rfl | rfl | rfl
  · rw [h.s1 rfl]; decide
  · rw [(h.s2 rfl).2]; decide
  · exact (h.s3 rfl).2

/-- Two values that stand at one place are alike. -/
theorem plain_one {k : Int} (hk : k = 1 ∨ k = 2 ∨ k = 3) {B : List Nat} {p : Nat} {x y : Val} (hx : VK k x) (hy : VK k y) (h1 : Starts B p (plainB k x)) (h2 : Starts B p (plainB k y)) : x = y := by
  have key : x.n = y.n → x.s = y.s → x = y := by
    intro a b
    have c := hx.there.trans hy.there.symm
    cases x; cases y
    simp at a b c
    simp [a, b, c]
  rcases hk with rfl | rfl | rfl
  · have e1 : ∀ v, plainB 1 v = vint (zz v.n) := fun v => rfl
    rw [e1] at h1 h2
    have := vint_one (zz_lt _ hx.lo hx.hi) (zz_lt _ hy.lo hy.hi) h1 h2
    refine key ?_ (by rw [hx.s1 rfl, hy.s1 rfl])
    rw [← uz_zz x.n, this, uz_zz]
  · have e1 : ∀ v, plainB 2 v = [byteOf v.n] := fun v => rfl
    rw [e1, starts_one] at h1 h2
    rw [h1] at h2
    simp at h2
    refine key ?_ (by rw [(hx.s2 rfl).2, (hy.s2 rfl).2])
    rw [byteOf_bit (hx.s2 rfl).1, byteOf_bit (hy.s2 rfl).1] at h2
    have := (hx.s2 rfl).1
    have := (hy.s2 rfl).1
    omega
  · have e1 : ∀ v, plainB 3 v = vint v.s.size ++ bytesOf v.s := fun v => rfl
    rw [e1, starts_append] at h1 h2
    have a1 := (hx.s3 rfl).2
    have a2 := (hy.s3 rfl).2
    have := vint_one (by omega) (by omega) h1.1 h2.1
    rw [this] at h1
    refine key (by rw [(hx.s3 rfl).1, (hy.s3 rfl).1]) ?_
    exact bytesOf_inj (starts_same h1.2 h2.2 (by rw [bytesOf_length, bytesOf_length, this]))

end Go.Proofs.Ytjidbonhhpkljaa.Ec

/- Dictionaries and whole columns, read: as plain mathematics. -/
set_option linter.unusedVariables false
namespace Go.Proofs.Ytjidbonhhpkljaa.Ec
open Go.RowKit Go.Proofs.Ytjidbonhhpkljaa.Pk Go.Proofs.Ytjidbonhhpkljaa.Pm
/-- How many places are known behind these, if each new one is the next. -/
def chk : Nat → List Nat → Option Nat
  | s, [] => some s
  | s, q :: r => if q < s then chk s r else if q = s then chk (s + 1) r else none
/-- A value of a column. -/
def VC (k : Int) (v : Val) : Prop := (v.null = true ∧ v.n = 0 ∧ v.s = ⟨#[]⟩) ∨ VK k v
theorem VC.may {k : Int} {v : Val} (hk : k = 1 ∨ k = 2 ∨ k = 3) (h : VC k v) : mayB v k = true := by
  rcases h with ⟨h1, h2, h3⟩ | h
  · unfold mayB
    rw [h1, h2, h3]
    simp [ByteArray.toList_eq]
  · exact may_of_vk hk h
theorem VC.vin {k : Int} {v : Val} (h : VC k v) : VIn v := by
  rcases h with ⟨h1, h2, h3⟩ | h
  · exact ⟨by omega, by omega⟩
  · exact ⟨h.lo, h.hi⟩
def ones (zs : List Int) : Nat := (zs.filter fun z => z != 0).length
end Go.Proofs.Ytjidbonhhpkljaa.Ec
