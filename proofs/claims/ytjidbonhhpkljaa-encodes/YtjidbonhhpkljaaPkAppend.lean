/- The contract of the code's appendPacked: the same bytes, by another road. -/
import Derived.Test.YtjidbonhhpkljaaPkBits
import Derived.Laws.BitsLemmas
set_option linter.unusedVariables false
namespace Go.Proofs.Ytjidbonhhpkljaa.Pk
open Go.RowKit Go.Proofs.Ytjidbonhhpkljaa.Pm

theorem wraps_i64 (n : Int) (h₀ : 0 ≤ n) (h₁ : n < 2 ^ 62) : IntKind.i64.wrap n = n := by rw [IntKind.wrap_i64]; omega

/-- 'held | n << bits', held below 2^bits: a sum. -/
theorem or_shl (hh x qq : Nat) (hq : qq ≤ 16) (hx : x < 65536) (hh0 : hh < 2 ^ qq) : bits .or .i64 (hh : Int) (wrap64 ((x : Int) * 2 ^ qq)) = ((hh + 2 ^ qq * x : Nat) : Int) := by
  have h1 : 2 ^ qq ≤ 2 ^ 16 := Nat.pow_le_pow_right (by omega) hq
  have h2 : 2 ^ qq * x ≤ 2 ^ 16 * 65536 := Nat.mul_le_mul h1 (by omega)
  have e : wrap64 ((x : Int) * 2 ^ qq) = ((2 ^ qq * x : Nat) : Int) := by
    rw [show (x : Int) * 2 ^ qq = ((2 ^ qq * x : Nat) : Int) from by push_cast; rw [Int.mul_comm]]
    generalize 2 ^ qq * x = z at *
    unfold wrap64; omega
  rw [e, (bits_nat .i64 62 (by decide) wraps_i64 hh (2 ^ qq * x) (by omega) (by omega)).2, Nat.or_comm, ← Nat.two_pow_add_eq_or_of_lt hh0 x, Nat.add_comm]

theorem hq_next (n qq k wd : Nat) (h : 8 * n + qq = k * wd) : 8 * n + (qq + wd) = (k + 1) * wd := by rw [Nat.add_mul k 1 wd, Nat.one_mul]; omega

theorem bcells_snoc (ns : List Nat) (x : Nat) : bcells ns ++ [.int .u8 (x : Int)] = bcells (ns ++ [x]) := by simp [bcells]

theorem snoc_lt (ns : List Nat) (x : Nat) (h : ∀ y ∈ ns, y < 256) (hx : x < 256) : ∀ y ∈ ns ++ [x], y < 256 := by
  intro y hy
  rcases List.mem_append.1 hy with h1 | h1
  · exact h y h1
  · simp at h1; omega

/-- A byte is laid. -/
theorem V_push (ns : List Nat) (hh A : Nat) (h : V ns + 256 ^ ns.length * hh = A) : V (ns ++ [hh % 256]) + 256 ^ (ns ++ [hh % 256]).length * (hh / 256) = A := by
  rw [V_append, List.length_append, List.length_singleton, Nat.pow_succ, Nat.mul_assoc, ← h]
  have : V [hh % 256] = hh % 256 := by simp [V]
  rw [this, Nat.add_assoc, ← Nat.mul_add]
  congr 2; omega

theorem div_lt_pow (hh qq : Nat) (h8 : 8 ≤ qq) (h : hh < 2 ^ qq) : hh / 256 < 2 ^ (qq - 8) := by
  rw [Nat.div_lt_iff_lt_mul (by omega), show (256 : Nat) = 2 ^ 8 by rfl, ← Nat.pow_add, show qq - 8 + 8 = qq by omega]; exact h

theorem add_lt_pow (hh x qq wd : Nat) (h : hh < 2 ^ qq) (hx : x < 2 ^ wd) : hh + 2 ^ qq * x < 2 ^ (qq + wd) := by
  rw [Nat.pow_add]
  have : 2 ^ qq * (x + 1) ≤ 2 ^ qq * 2 ^ wd := Nat.mul_le_mul_left _ hx
  rw [Nat.mul_add] at this; omega

/-- One number more. -/
theorem N_next (ns : List Nat) (hh x qq wd k : Nat) (l : List Nat) (hk : k < l.length) (hx : l[k] = x) (hq : 8 * ns.length + qq = k * wd) (h : V ns + 256 ^ ns.length * hh = N wd (l.take k)) :
    V ns + 256 ^ ns.length * (hh + 2 ^ qq * x) = N wd (l.take (k + 1)) := by
  rw [N_take_succ wd l k hk, hx, ← h, Nat.mul_add, ← Nat.mul_assoc, pow256, ← Nat.pow_add, hq, Nat.mul_comm k wd, Nat.add_assoc]

set_option maxRecDepth 100000 in
set_option maxHeartbeats 2000000 in
theorem appendPacked_any (l : List Nat) (wd : Nat) (ao : Option Addr) (b off cap : Nat) (w : World) (hw : wd ≤ 16) (hl : l.length ≤ 100) (hlt0 : ∀ x ∈ l, x < 2 ^ wd)
    (hs : 0 < l.length → ao = some ⟨b, off, none⟩) (hb : 0 < l.length → b < w.heap.size) (hc : ∀ j, j < l.length → w.cell? ⟨b, off + j, none⟩ = some (.int .i64 ((l.getD j 0 : Nat) : Int))) :
    Calls Try.prog 37 #[.slice none 0 0, .slice ao l.length cap, .int .i64 wd] w fun e w' => ∃ (v : Value) (ns : List Nat), ns.length = (l.length * wd + 7) / 8 ∧ (∀ x ∈ ns, x < 256) ∧ V ns = N wd l ∧
      e = .returned v ∧ w'.ownsRow w.heap.size 5 1 v ns.length (bcells ns) ∧ Below w.heap.size w w' := by
  obtain ⟨i0, hi, hz0, hz1, hz2⟩ := info_parts Try.info5
  have hm : l.length * wd ≤ 1600 := Nat.mul_le_mul hl hw
  go_enter Try.func37, Try.ntmps37
  go_wp2_with fail
  go_loopw [0, 7, 8, 13] (fun bv h q i wr => ∃ (k hh qq : Nat) (ns : List Nat), k ≤ l.length ∧ i = .int .i64 k ∧ h = .int .i64 hh ∧ q = .int .i64 qq ∧ qq < 8 ∧ hh < 2 ^ qq ∧ 8 * ns.length + qq = k * wd ∧ (∀ x ∈ ns, x < 256) ∧ V ns + 256 ^ ns.length * hh = N wd (l.take k) ∧
      wr.ownsRow w.heap.size 5 1 bv ns.length (bcells ns) ∧ Below w.heap.size w wr) (fun _ _ _ i _ => l.length - (intOf i).toNat)
  case atStart => exact ⟨0, 0, 0, [], Nat.zero_le _, rfl, rfl, rfl, by omega, by simp, by simp, by simp, by simp [V, N], World.ownsRow_nil _ _ _ _, Below.refl _ _⟩
  case round =>
    obtain ⟨k, hh, qq, ns, hk, rfl, rfl, rfl, hq8, hhq, hnq, hn256, hnV, hown, hbel⟩ := hrel
    have HNQ : Hid (8 * ns.length + qq = k * wd) := hnq
    have HNV : Hid (V ns + 256 ^ ns.length * hh = N wd (l.take k)) := hnV
    clear hnV hnq
    by_cases hlt : k < l.length
    · obtain rfl := hs (by omega)
      have hx : l.getD k 0 = l[k] := by simp [List.getD, hlt]
      have hcx : w.cell? ⟨b, off + k, none⟩ = some (.int .i64 ((l[k] : Nat) : Int)) := by rw [hc k hlt, hx]
      have hbw : b < w.heap.size := hb (by omega)
      have hcr : wr.cell? ⟨b, off + k, none⟩ = some (.int .i64 ((l[k] : Nat) : Int)) := (hbel.cell (p := ⟨b, off + k, none⟩) hbw).trans hcx
      have hxw : l[k] < 2 ^ wd := hlt0 _ (List.getElem_mem hlt)
      have hx64 : (l[k] : Nat) < 65536 := by have h2 : 2 ^ wd ≤ 2 ^ 16 := Nat.pow_le_pow_right (by omega) hw; omega
      have hkw : (k + 1) * wd ≤ 100 * 16 := Nat.mul_le_mul (by omega) hw
      have HN : Hid (V ns + 256 ^ ns.length * (hh + 2 ^ qq * l[k]) = N wd (l.take (k + 1))) := N_next ns hh _ qq wd k l hlt rfl HNQ.out HNV.out
      have HQ : Hid (8 * ns.length + (qq + wd) = (k + 1) * wd) := hq_next _ _ _ _ HNQ.out
      have HP : Hid (hh + 2 ^ qq * l[k] < 2 ^ (qq + wd)) := add_lt_pow hh _ qq wd hhq hxw
      have hor := or_shl hh l[k] qq (by omega) hx64 hhq
      clear hx hc hb hs HNQ HNV
      generalize l[k] = x at *
      generalize hh + 2 ^ qq * x = h2 at *
      go_wp2_with fail
      clear hor
      go_loopw [0, 7, 8] (fun bv h q wr => ∃ (hh qq2 : Nat) (ns : List Nat), h = .int .i64 hh ∧ q = .int .i64 qq2 ∧ qq2 < 24 ∧ hh < 2 ^ qq2 ∧ 8 * ns.length + qq2 = (k + 1) * wd ∧ (∀ x ∈ ns, x < 256) ∧ V ns + 256 ^ ns.length * hh = N wd (l.take (k + 1)) ∧
          wr.ownsRow w.heap.size 5 1 bv ns.length (bcells ns) ∧ Below w.heap.size w wr) (fun _ _ q _ => (intOf q).toNat)
      case atStart => exact ⟨h2, qq + wd, ns, rfl, by go_num, by omega, HP.out, HQ.out, hn256, HN.out, hown, hbel⟩
      case round =>
        clear hown hbel hn256 HP HQ HN hhq hcr
        obtain ⟨hh, q2, ns, rfl, rfl, hq24, hhq, hnq, hn256, hnV, hown, hbel⟩ := hrel
        have HNQ : Hid (8 * ns.length + q2 = (k + 1) * wd) := hnq
        have HNV : Hid (V ns + 256 ^ ns.length * hh = N wd (l.take (k + 1))) := hnV
        have hnl : ns.length ≤ 200 := by omega
        have hhb : hh < 16777216 := by have h2 : 2 ^ q2 ≤ 2 ^ 24 := Nat.pow_le_pow_right (by omega) (by omega); omega
        clear hnV hnq
        by_cases h8 : 8 ≤ q2
        · go_wp2_with (at_builtin; refine wpList_append_own _ rfl _ _ 44 rfl w.heap.size 5 i0 (.int .u8 0) 1 1 Try.underlying44 hi hz0 hz1 hz2 rfl (by decide) _ _ _ rfl (hown.alloc _) ⟨wr.heap.size, 0, none⟩ 1 1 [.int .u8 ((hh : Int) % 256)] rfl rfl ?c1 ?c2 ?c3 ?c4 ?c5 ?_)
          case c1 =>
            intro j u hj
            match j, hj with
            | 0, hj => simp at hj; subst hj; simp [Addr.add]
          case c2 => intro u hu; simp at hu; subst hu; rfl
          case c3 => unfold maxLen; omega
          case c4 => omega
          case c5 => have := hbel.size; simp; omega
          · intro v' w1 hown' hgrow _
            have hbel' : Below w.heap.size w w1 := (hbel.alloc hbel.size _).grown hgrow (by have := hbel.size; simp; omega) (fun j hj => (hown.lt j hj).1)
            rw [show ((hh : Int) % 256) = ((hh % 256 : Nat) : Int) from by omega, bcells_snoc] at hown'
            clear hown hgrow hbel
            go_wp2
            go_roundw
            case rel => exact ⟨hh / 256, q2 - 8, ns ++ [hh % 256], by go_num, by go_num, by omega, div_lt_pow hh q2 h8 hhq, by have := HNQ.out; simp; omega, snoc_lt ns _ hn256 (by omega), V_push ns hh _ HNV.out, by simpa using hown', hbel'⟩
            case measure => simp [intOf]; omega
        · go_wp2_with fail
          go_roundw
          case rel => exact ⟨k + 1, hh, q2, ns, by omega, by go_num, rfl, rfl, by omega, hhq, HNQ.out, hn256, HNV.out, hown, hbel⟩
          case measure => simp [intOf]; omega
    · have hkl : k = l.length := by omega
      subst hkl
      have HNV2 : Hid (V ns + 256 ^ ns.length * hh = N wd l) := by have := HNV.out; rwa [List.take_length] at this
      have hnl : ns.length ≤ 200 := by have := HNQ.out; omega
      have hhb : hh < 256 := by have h2 : 2 ^ qq ≤ 2 ^ 8 := Nat.pow_le_pow_right (by omega) (by omega); omega
      by_cases hq0 : 0 < qq
      · go_wp2_with (at_builtin; refine wpList_append_own _ rfl _ _ 44 rfl w.heap.size 5 i0 (.int .u8 0) 1 1 Try.underlying44 hi hz0 hz1 hz2 rfl (by decide) _ _ _ rfl (hown.alloc _) ⟨wr.heap.size, 0, none⟩ 1 1 [.int .u8 ((hh : Int))] rfl rfl ?d1 ?d2 ?d3 ?d4 ?d5 ?_)
        case d1 =>
          intro j u hj
          match j, hj with
          | 0, hj => simp at hj; subst hj; simp [Addr.add]
        case d2 => intro u hu; simp at hu; subst hu; rfl
        case d3 => unfold maxLen; omega
        case d4 => omega
        case d5 => have := hbel.size; simp; omega
        · intro v' w1 hown' hgrow _
          have hbel' : Below w.heap.size w w1 := (hbel.alloc hbel.size _).grown hgrow (by have := hbel.size; simp; omega) (fun j hj => (hown.lt j hj).1)
          rw [bcells_snoc] at hown'
          clear hown hgrow hbel
          go_wp2
          go_ret
          exact ⟨_, ns ++ [hh], by have := HNQ.out; simp; omega, snoc_lt ns _ hn256 hhb, by rw [V_append, ← HNV2.out]; simp [V], rfl, by simpa using hown', hbel'⟩
      · have hq00 : qq = 0 := by omega
        subst hq00
        go_wp2
        go_ret
        exact ⟨_, ns, by have := HNQ.out; omega, hn256, by have := HNV2.out; simp at hhq; subst hhq; simpa using this, rfl, hown, hbel⟩
end Go.Proofs.Ytjidbonhhpkljaa.Pk
