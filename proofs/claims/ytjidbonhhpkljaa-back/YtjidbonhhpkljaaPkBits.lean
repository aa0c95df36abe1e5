/- The contract of the document's bits: the bytes of a list of numbers of so many bits. -/
import Derived.Test.YtjidbonhhpkljaaPkA
import Derived.Test.YtjidbonhhpkljaaPkMath
import Derived.Deep.QuietTactic
import Derived.BigQuiet
import Derived.Laws.BytesArg
import Derived.Deep.RegionWith
set_option linter.unusedVariables false
namespace Go.Proofs.Ytjidbonhhpkljaa.Pk
open Go.RowKit Go.Proofs.Ytjidbonhhpkljaa.Pm

theorem Try.info5 : (Try.prog.info? 5).map (fun i => (i.zero, i.size, i.bytes)) = some (some (.int .u8 0), 1, 1) := by kernel_rfl
theorem Try.info3 : (Try.prog.info? 3).map (fun i => (i.zero, i.size, i.bytes)) = some (some (.int .i64 0), 1, 8) := by kernel_rfl

/-- The cells of bytes. -/
def bcells (ns : List Nat) : List Value := ns.map fun (n : Nat) => Value.int .u8 (n : Int)

theorem made_bytes (n : Nat) : (madeCells (Value.cells (.int .u8 0)) (n * 1)).toList = bcells (List.replicate n 0) := by
  have : Value.cells (.int .u8 0) = #[.int .u8 0] := rfl
  rw [this, toList_madeCells_one, bcells, List.map_replicate, Nat.mul_one]; rfl

theorem bcells_get (ns : List Nat) (i : Nat) (h : i < ns.length) : (bcells ns)[i]? = some (.int .u8 ((ns[i] : Nat) : Int)) := by
  simp [bcells, h]

theorem bcells_at {w : World} {base g n cap : Nat} {ns : List Nat} (h : w.ownsRow base 5 1 (.slice (some ⟨g, 0, none⟩) n cap) n (bcells ns)) (hl : ns.length = n) :
    ∀ i, i < n → w.cell? ⟨g, 0 + i, none⟩ = some (.int .u8 ((ns.map (fun (n : Nat) => (n : Int))).getD i 0)) := by
  intro i hi
  rw [Nat.zero_add, h.cellAt i (by omega), bcells_get ns i (by omega)]
  simp [List.getD, show i < ns.length by omega]

theorem bcells_set (ns : List Nat) (j x : Nat) : (bcells ns).set j (.int .u8 (x : Int)) = bcells (ns.set j x) := by simp [bcells, List.map_set]
theorem bits_store {w : World} {base g n cap : Nat} {ns : List Nat} (h : w.ownsRow base 5 1 (.slice (some ⟨g, 0, none⟩) n cap) n (bcells ns)) (j y r : Nat) :
    ((w.setCell ⟨g, j, none⟩ (.int .u8 ((y : Int) + pw r))).drew).ownsRow base 5 1 (.slice (some ⟨g, 0, none⟩) n cap) n (bcells (ns.set j (y + 2 ^ r))) := by
  have h1 := (h.stored j (.int .u8 ((y : Int) + pw r))).1
  rw [show (y : Int) + pw r = ((y + 2 ^ r : Nat) : Int) from by unfold pw; omega, bcells_set] at h1
  rw [show (y : Int) + pw r = ((y + 2 ^ r : Nat) : Int) from by unfold pw; omega]
  exact h1.drew
theorem power_mod8 (a : Nat) (w : World) : Calls Try.prog 34 #[.int .i64 ((a : Int) % 8)] w fun e w' => e = .returned (.int .i64 (pw (a % 8))) ∧ w' = w := by
  have h : ((a : Int) % 8) = ((a % 8 : Nat) : Int) := by omega
  rw [h]
  exact power_nat _ (by omega) w
theorem wrap_u8_id {x : Int} (h0 : 0 ≤ x) (h1 : x < 256) : IntKind.u8.wrap x = x := by
  simp [IntKind.wrap, IntKind.signed, IntKind.bits]; omega
theorem byte_sum {y a : Nat} (h : y + 2 ^ a < 256) : (y : Int) + pw a < 256 := by unfold pw; omega
theorem bit_int (x t : Nat) : (x : Int) / pw t % 2 = ((x / 2 ^ t % 2 : Nat) : Int) := by unfold pw; rw [← Int.natCast_ediv]; omega
theorem bit_nat (x t : Nat) (h : (x : Int) / pw t % 2 = 1) : x / 2 ^ t % 2 = 1 := by rw [bit_int] at h; omega
theorem bit_nat_no (x t : Nat) (h : ¬ (x : Int) / pw t % 2 = 1) : ¬ x / 2 ^ t % 2 = 1 := by rw [bit_int] at h; omega
theorem below_drewN {B : Nat} {a w : World} (h : Below B a w) (n : Nat) : Below B a (w.drewN n) := h.trans ⟨rfl, rfl, rfl, Nat.le_refl _, fun _ _ => rfl⟩
theorem ownsRow_drewN {w : World} {base : Nat} {e : TypeId} {size : Nat} {v : Value} {n : Nat} {xs : List Value} (h : w.ownsRow base e size v n xs) (k : Nat) : (w.drewN k).ownsRow base e size v n xs := by
  induction k with
  | zero => exact h
  | succ k ih => exact ih.drew

set_option maxRecDepth 100000 in
set_option maxHeartbeats 1000000 in
theorem bits_any (l : List Nat) (wd : Nat) (ao : Option Addr) (b off cap : Nat) (w : World) (hw : wd ≤ 16) (hl : l.length ≤ 100) (hlt0 : ∀ x ∈ l, x < 2 ^ wd)
    (hs : 0 < l.length → ao = some ⟨b, off, none⟩) (hb : 0 < l.length → b < w.heap.size) (hc : ∀ j, j < l.length → w.cell? ⟨b, off + j, none⟩ = some (.int .i64 ((l.getD j 0 : Nat) : Int))) :
    Calls Try.prog 35 #[.slice ao l.length cap, .int .i64 wd] w fun e w' => ∃ ns : List Nat, ns.length = (l.length * wd + 7) / 8 ∧ (∀ x ∈ ns, x < 256) ∧ V ns = N wd l ∧
      e = .returned (.string (strOfNums (ns.map (fun (n : Nat) => (n : Int))))) ∧ Below w.heap.size w w' := by
  obtain ⟨i0, hi, hz0, hz1, hz2⟩ := info_parts Try.info5
  have hm : l.length * wd ≤ 1600 := Nat.mul_le_mul hl hw
  have hm0 : (0 : Int) ≤ (l.length : Int) * (wd : Int) := by rw [← Int.natCast_mul]; omega
  have hm1 : (l.length : Int) * (wd : Int) ≤ 1600 := by rw [← Int.natCast_mul]; omega
  go_enter Try.func35, Try.ntmps35
  go_wp2_with (at_make; refine wpList_make_full _ rfl _ _ 44 rfl w.heap.size 5 i0 (.int .u8 0) 1 Try.underlying44 hi hz0 hz1 .i64 .i64 _ _ ((l.length * wd + 7) / 8) rfl rfl (by first | omega | (push_cast; omega)) (by first | omega | (push_cast; omega)) (by rw [hz2]; omega) (by unfold maxLen; omega) (Nat.le_refl _) ?_; intro w0 hown0 hgrow0)
  rw [made_bytes] at hown0
  have hbel0 : Below w.heap.size w w0 := (Below.refl _ _).grown hgrow0 (Nat.le_refl _) (by simp)
  generalize hnb : (l.length * wd + 7) / 8 = nb at *
  have HNB : Hid ((l.length * wd + 7) / 8 = nb) := hnb
  clear hnb hgrow0
  go_loopw [7] (fun i wr => ∃ (k : Nat) (ns : List Nat), k ≤ l.length ∧ i = .int .i64 k ∧ ns.length = nb ∧ (∀ x ∈ ns, x < 256) ∧ V ns = N wd (l.take k) ∧
      wr.ownsRow w.heap.size 5 1 (.slice (some ⟨w.heap.size, 0, none⟩) nb nb) nb (bcells ns) ∧ Below w.heap.size w wr) (fun i _ => l.length - (intOf i).toNat)
  case atStart => exact ⟨0, List.replicate nb 0, Nat.zero_le _, rfl, by simp, by intro x hx; simp at hx; omega, by simp [V_zero, N], hown0, hbel0⟩
  case round =>
    obtain ⟨k, ns, hk, rfl, hnl, hn256, hnV, hown, hbel⟩ := hrel
    clear hown0 hbel0
    by_cases hlt : k < l.length
    · obtain rfl := hs (by omega)
      have hx : l.getD k 0 = l[k] := by simp [List.getD, hlt]
      have hcx : w.cell? ⟨b, off + k, none⟩ = some (.int .i64 ((l[k] : Nat) : Int)) := by rw [hc k hlt, hx]
      have hbw : b < w.heap.size := hb (by omega)
      have hx64 : (l[k] : Nat) < 65536 := by have h1 := hlt0 _ (List.getElem_mem hlt); have h2 : 2 ^ wd ≤ 2 ^ 16 := Nat.pow_le_pow_right (by omega) hw; omega
      have hA : N wd (l.take k) < 2 ^ (wd * k) := N_take_lt wd l k hlt0 (by omega)
      have hkw : k * wd ≤ 100 * 16 := Nat.mul_le_mul (by omega) hw
      have hkw0 : (0 : Int) ≤ (k : Int) * (wd : Int) := by rw [← Int.natCast_mul]; omega
      have hkw1 : (k : Int) * (wd : Int) ≤ 1600 := by rw [← Int.natCast_mul]; omega
      have hNs : Hid (N wd (l.take (k + 1)) = N wd (l.take k) + 2 ^ (wd * k) * l[k]) := N_take_succ wd l k hlt
      have hxlt : Hid (l[k] % 2 ^ wd = l[k]) := Nat.mod_eq_of_lt (hlt0 _ (List.getElem_mem hlt))
      clear hx hc hb hs
      generalize l[k] = x at *
      generalize N wd (l.take k) = A at *
      go_wp2_with fail
      go_loopw [8] (fun q wr => ∃ (t : Nat) (ns : List Nat), t ≤ wd ∧ q = .int .i64 t ∧ ns.length = nb ∧ (∀ x ∈ ns, x < 256) ∧ V ns = A + 2 ^ (wd * k) * (x % 2 ^ t) ∧
          wr.ownsRow w.heap.size 5 1 (.slice (some ⟨w.heap.size, 0, none⟩) nb nb) nb (bcells ns) ∧ Below w.heap.size w wr) (fun q _ => wd - (intOf q).toNat)
      case atStart => exact ⟨0, ns, Nat.zero_le _, rfl, hnl, hn256, by rw [hnV]; simp [Nat.mod_one], hown, hbel⟩
      case round =>
        clear hnV hown hbel hnl hn256
        obtain ⟨t, ns, ht, rfl, hnl, hn256, hnV, hown, hbel⟩ := hrel
        have hcr : wr.cell? ⟨b, off + k, none⟩ = some (.int .i64 (x : Int)) := (hbel.cell (p := ⟨b, off + k, none⟩) hbw).trans hcx
        have hp0 := pw_pos t
        have hp1 := pw_16 t (by omega)
        have hq0 : (0 : Int) ≤ (x : Int) / pw t := Int.ediv_nonneg (by omega) (by omega)
        have hq1 : (x : Int) / pw t ≤ 65536 := by have := Int.ediv_le_self (a := (x : Int)) (pw t) (by omega); omega
        by_cases htl : t < wd
        · by_cases hbit : (x : Int) / pw t % 2 = 1
          · have hbb : ((x : Int) / pw t % 2 == 1) = true := beq_iff_eq.2 hbit
            have HB : Hid ((x : Int) / pw t % 2 = 1) := hbit
            clear hbit
            go_wp2_with fail
            go_quiet ((go_at_call 34; exact Calls.quiet_of_same (power_nat _ (by omega) _)))
            go_wp2_with fail
            rw [show (k : Int) * (wd : Int) + (t : Int) = ((k * wd + t : Nat) : Int) from by push_cast; rfl]
            have hj : (k * wd + t) / 8 < ns.length := by rw [hnl, ← HNB.out]; exact at_lt _ _ _ _ hlt htl
            have S : Hid _ := step_yes ns A x wd k t hA hnV hj (bit_nat x t HB.out)
            have ha0 : k * wd + t ≤ 1616 := by omega
            generalize hat : k * wd + t = a at *
            clear hat hbb HB
            have hownq := ownsRow_drewN hown nq
            have hbelq := below_drewN hbel nq
            clear hown hbel hcr
            generalize wr.drewN nq = wq at *
            clear wr
            have hce := hownq.cellAt (a / 8) (by omega)
            rw [bcells_get ns _ hj] at hce
            have hfr := hownq.frozenAt (a / 8)
            have hy : ns[a / 8] < 256 := hn256 _ (List.getElem_mem hj)
            have hj2 : (a : Int) / 8 < (nb : Int) := by omega
            have hj3 : a / 8 < nb := by omega
            generalize hyy : ns[a / 8] = y at *
            have HYY : Hid (ns[a / 8] = y) := hyy
            clear hyy
            have he8 : Hid (((a : Int) / 8).toNat = a / 8) := show _ = _ by omega
            have hce' : wq.cell? ⟨w.heap.size, ((a : Int) / 8).toNat, none⟩ = some (.int .u8 (y : Int)) := by rw [he8.out]; exact hce
            have hfr' : wq.frozen? ⟨w.heap.size, ((a : Int) / 8).toNat, none⟩ = false := by rw [he8.out]; exact hfr
            have hw1 : IntKind.i64.wrap ((a : Int) / 8) = ((a / 8 : Nat) : Int) := by simp [IntKind.wrap_i64]; omega
            have hw2 : IntKind.i64.wrap ((a : Int) % 8) = ((a % 8 : Nat) : Int) := by simp [IntKind.wrap_i64]; omega
            have hr1 := pw_pos (a % 8)
            have hr2 : pw (a % 8) ≤ 128 := pw_le (a % 8) 7 (by omega)
            have hw3 : IntKind.u8.wrap (pw (a % 8)) = pw (a % 8) := wrap_u8_id (by omega) (by omega)
            have hw4 : IntKind.u8.wrap ((y : Int) + pw (a % 8)) = (y : Int) + pw (a % 8) := wrap_u8_id (by omega) (byte_sum S.out.1)
            go_region_with (go_at_call 34; refine (power_mod8 a _).mono ?_; rintro e w' ⟨rfl, rfl⟩)
            all_goals
              go_wp2
              go_roundw
              case rel =>
                try rw [he8.out]
                exact ⟨t + 1, ns.set (a / 8) (y + 2 ^ (a % 8)), by omega, by go_num, by rw [List.length_set]; exact hnl, set_lt ns _ _ hn256 S.out.1, S.out.2, bits_store hownq (a / 8) y (a % 8), (hbelq.setCell (Nat.le_refl _) _).drew⟩
              case measure => simp [intOf]; omega
          · have hbb : ((x : Int) / pw t % 2 == 1) = false := beq_eq_false_iff_ne.2 hbit
            go_wp2_with fail
            go_quiet ((go_at_call 34; exact Calls.quiet_of_same (power_nat _ (by omega) _)))
            go_wp2
            go_roundw
            case rel => exact ⟨t + 1, ns, by omega, by go_num, hnl, hn256, by rw [hnV, step_no x t (bit_nat_no x t hbit)], ownsRow_drewN hown nq, below_drewN hbel nq⟩
            case measure => simp [intOf]; omega
        · have htw : t = wd := by omega
          subst htw
          go_wp2
          go_roundw
          case rel => exact ⟨k + 1, ns, by omega, by go_num, hnl, hn256, by rw [hnV, hNs.out, hxlt.out], hown, hbel⟩
          case measure => simp [intOf]; omega
    · have hkl : k = l.length := by omega
      subst hkl
      rw [List.take_length] at hnV
      have hcv := run_convert_bytes_arg (P := Try.prog) wr 44 5 Try.underlying44 Try.underlying5 w.heap.size 0 nb nb (ns.map (fun (n : Nat) => (n : Int))) (by simp [hnl]) (bcells_at hown hnl) 9 Try.underlying9
      clear hown
      go_wp2
      go_ret
      exact ⟨ns, by rw [hnl, HNB.out], hn256, hnV, rfl, hbel⟩
end Go.Proofs.Ytjidbonhhpkljaa.Pk
