/- Numbers packed behind what was written: the program's side. -/
import Derived.Test.YtjidbonhhpkljaaEcColC
import Derived.Test.YtjidbonhhpkljaaPkAppend
set_option linter.unusedVariables false
namespace Go.Proofs.Ytjidbonhhpkljaa.Ec
open Go.RowKit Go.Proofs.Ytjidbonhhpkljaa.Pk Go.Proofs.Ytjidbonhhpkljaa.Pm

/-- A slice of numbers. -/
def ISl (w : World) (v : Value) (zs : List Int) : Prop := ∃ ao b off cap, v = .slice ao zs.length cap ∧ (0 < zs.length → ao = some ⟨b, off, none⟩) ∧ (0 < zs.length → b < w.heap.size) ∧ ∀ j, j < zs.length → w.cell? ⟨b, off + j, none⟩ = some (.int .i64 (zs.getD j 0))
theorem ISl.of_owns {w : World} {base : Nat} {v : Value} {zs : List Int} (h : w.ownsRow base 3 1 v zs.length (icells zs)) : ISl w v zs := by
  rcases h.2 with ⟨rfl, h0⟩ | ⟨g, cap, cur, rfl, hbg, hgb, hnc, hcm, hcs, htake⟩
  · have : zs = [] := List.eq_nil_of_length_eq_zero h0
    subst this
    exact ⟨none, 0, 0, 0, rfl, fun h => by simp at h, fun h => by simp at h, fun j h => by simp at h⟩
  · have hc := h.cells (g := g) rfl
    refine ⟨some ⟨g, 0, none⟩, g, 0, cap, rfl, fun _ => rfl, fun _ => (h.lt g rfl).2, ?_⟩
    intro j hj
    have := hc _ _ (icells_get zs j hj)
    rw [getD_get hj]
    simpa [Addr.add_lit] using this

set_option maxRecDepth 100000 in
set_option maxHeartbeats 4000000 in
theorem appendPackedG (u lv : Value) (pre l : List Nat) (wd base : Nat) (w : World) (hw : wd ≤ 16) (hl : l.length ≤ 100) (hlt0 : ∀ x ∈ l, x < 2 ^ wd) (hpl : pre.length ≤ 60000) (hbase : base ≤ w.heap.size)
    (hown0 : w.ownsRow base 5 1 u pre.length (bcells pre)) (hkeep : ∀ w' u', Grew w w' u u' → ISl w' lv (l.map fun (n : Nat) => (n : Int))) :
    Calls Try.prog 37 #[u, lv, .int .i64 wd] w fun e w' => ∃ (v : Value) (ns : List Nat), ns.length = (l.length * wd + 7) / 8 ∧ (∀ x ∈ ns, x < 256) ∧ V ns = N wd l ∧
      e = .returned v ∧ w'.ownsRow base 5 1 v (pre ++ ns).length (bcells (pre ++ ns)) ∧ Grew w w' u v := by
  obtain ⟨ao, b, off, cap, hlv, -, -, -⟩ := hkeep w u (Grew.refl _ _)
  rw [List.length_map] at hlv
  subst hlv
  have HK : Hid (∀ w' u', Grew w w' u u' → ∃ b off, (0 < l.length → ao = some ⟨b, off, none⟩) ∧ ∀ j, (h : j < l.length) → w'.cell? ⟨b, off + j, none⟩ = some (.int .i64 ((l[j] : Nat) : Int))) := fun w' u' hg => by
    obtain ⟨ao2, b2, off2, cap2, he, h2, h3, h4⟩ := hkeep w' u' hg
    rw [List.length_map] at he
    cases he
    refine ⟨b2, off2, by simpa using h2, fun j hj => ?_⟩
    rw [h4 j (by simpa using hj), getD_get (by simpa using hj)]
    simp
  clear hkeep
  obtain ⟨i0, hi, hz0, hz1, hz2⟩ := info_parts Try.info5
  have hm : l.length * wd ≤ 1600 := Nat.mul_le_mul hl hw
  go_enter Try.func37, Try.ntmps37
  go_wp2_with fail
  go_loopw [0, 7, 8, 13] (fun bv h q i wr => ∃ (k hh qq : Nat) (ns : List Nat), k ≤ l.length ∧ i = .int .i64 k ∧ h = .int .i64 hh ∧ q = .int .i64 qq ∧ qq < 8 ∧ hh < 2 ^ qq ∧ 8 * ns.length + qq = k * wd ∧ (∀ x ∈ ns, x < 256) ∧ V ns + 256 ^ ns.length * hh = N wd (l.take k) ∧
      wr.ownsRow base 5 1 bv (pre ++ ns).length (bcells (pre ++ ns)) ∧ Grew w wr u bv) (fun _ _ _ i _ => l.length - (intOf i).toNat)
  case atStart => exact ⟨0, 0, 0, [], Nat.zero_le _, rfl, rfl, rfl, by omega, by simp, by simp, by simp, by simp [V, N], by simpa using hown0, Grew.refl _ _⟩
  case round =>
    obtain ⟨k, hh, qq, ns, hk, rfl, rfl, rfl, hq8, hhq, hnq, hn256, hnV, hown, hbel⟩ := hrel
    have HNQ : Hid (8 * ns.length + qq = k * wd) := hnq
    have HNV : Hid (V ns + 256 ^ ns.length * hh = N wd (l.take k)) := hnV
    clear hnV hnq
    by_cases hlt : k < l.length
    · obtain ⟨b1, off1, hs1, hc1⟩ := HK.out _ _ hbel
      obtain rfl := hs1 (by omega)
      have hcr := hc1 k hlt
      clear hs1 hc1
      have hxw : l[k] < 2 ^ wd := hlt0 _ (List.getElem_mem hlt)
      have hx64 : (l[k] : Nat) < 65536 := by have h2 : 2 ^ wd ≤ 2 ^ 16 := Nat.pow_le_pow_right (by omega) hw; omega
      have hkw : (k + 1) * wd ≤ 100 * 16 := Nat.mul_le_mul (by omega) hw
      have HN : Hid (V ns + 256 ^ ns.length * (hh + 2 ^ qq * l[k]) = N wd (l.take (k + 1))) := N_next ns hh _ qq wd k l hlt rfl HNQ.out HNV.out
      have HQ : Hid (8 * ns.length + (qq + wd) = (k + 1) * wd) := hq_next _ _ _ _ HNQ.out
      have HP : Hid (hh + 2 ^ qq * l[k] < 2 ^ (qq + wd)) := add_lt_pow hh _ qq wd hhq hxw
      have hor := or_shl hh l[k] qq (by omega) hx64 hhq
      clear HNQ HNV
      generalize l[k] = x at *
      generalize hh + 2 ^ qq * x = h2 at *
      go_wp2_with fail
      clear hor
      go_loopw [0, 7, 8] (fun bv h q wr => ∃ (hh qq2 : Nat) (ns : List Nat), h = .int .i64 hh ∧ q = .int .i64 qq2 ∧ qq2 < 24 ∧ hh < 2 ^ qq2 ∧ 8 * ns.length + qq2 = (k + 1) * wd ∧ (∀ x ∈ ns, x < 256) ∧ V ns + 256 ^ ns.length * hh = N wd (l.take (k + 1)) ∧
          wr.ownsRow base 5 1 bv (pre ++ ns).length (bcells (pre ++ ns)) ∧ Grew w wr u bv) (fun _ _ q _ => (intOf q).toNat)
      case atStart => exact ⟨h2, qq + wd, ns, rfl, by go_num, by omega, HP.out, HQ.out, hn256, HN.out, hown, hbel⟩
      case round =>
        clear hown hbel hn256 HP HQ HN hhq hcr
        obtain ⟨hh, q2, ns, rfl, rfl, hq24, hhq, hnq, hn256, hnV, hown, hbel⟩ := hrel
        have HNQ : Hid (8 * ns.length + q2 = (k + 1) * wd) := hnq
        have HNV : Hid (V ns + 256 ^ ns.length * hh = N wd (l.take (k + 1))) := hnV
        have hnl : ns.length ≤ 200 := by omega
        have hhb : hh < 16777216 := by have h2 : 2 ^ q2 ≤ 2 ^ 24 := Nat.pow_le_pow_right (by omega) (by omega); omega
        clear hnV hnq
        have HG : Hid (Grew w wr u u0) := hbel
        have hsz : w.heap.size ≤ wr.heap.size := hbel.by_.size
        have hpbl : (pre ++ ns).length ≤ 60200 := by rw [List.length_append]; omega
        clear hbel
        by_cases h8 : 8 ≤ q2
        · generalize hpb : pre ++ ns = pb at *
          have HPB : Hid (pre ++ ns = pb) := hpb
          clear hpb
          go_wp2_with (at_builtin; refine wpList_append_keep _ rfl _ _ 44 rfl base 5 i0 (.int .u8 0) 1 1 Try.underlying44 hi hz0 hz1 hz2 rfl (by decide) _ pb.length _ rfl (hown.alloc _) ⟨wr.heap.size, 0, none⟩ 1 1 [.int .u8 ((hh : Int) % 256)] rfl (by decide) rfl (one_at _ _ _) (one_oneB _) (by unfold maxLen; omega) (by omega) (by simp; omega) ?_; intro v1 w1 hown1 hgr1)
          rw [show (hh : Int) % 256 = ((hh % 256 : Nat) : Int) from by omega, bcells_snoc] at hown1
          go_roundw
          case rel => exact ⟨hh / 256, q2 - 8, ns ++ [hh % 256], by go_num, by go_num, by omega, div_lt_pow hh q2 h8 hhq, by have := HNQ.out; simp; omega, snoc_lt ns _ hn256 (by omega), V_push ns hh _ HNV.out, by rw [← List.append_assoc, HPB.out]; simpa using hown1, HG.out.trans (Grew.append hgr1)⟩
          case measure => simp [intOf]; omega
        · go_wp2_with fail
          go_roundw
          case rel => exact ⟨k + 1, hh, q2, ns, by omega, by go_num, rfl, rfl, by omega, hhq, HNQ.out, hn256, HNV.out, hown, HG.out⟩
          case measure => simp [intOf]; omega
    · have hkl : k = l.length := by omega
      subst hkl
      have HNV2 : Hid (V ns + 256 ^ ns.length * hh = N wd l) := by have := HNV.out; rwa [List.take_length] at this
      have hnl : ns.length ≤ 200 := by have := HNQ.out; omega
      have hhb : hh < 256 := by have h2 : 2 ^ qq ≤ 2 ^ 8 := Nat.pow_le_pow_right (by omega) (by omega); omega
      have HG : Hid (Grew w wr u u0) := hbel
      have hsz : w.heap.size ≤ wr.heap.size := hbel.by_.size
      have hpbl : (pre ++ ns).length ≤ 60200 := by rw [List.length_append]; omega
      clear hbel
      by_cases hq0 : 0 < qq
      · generalize hpb : pre ++ ns = pb at *
        have HPB : Hid (pre ++ ns = pb) := hpb
        clear hpb
        go_wp2_with (at_builtin; refine wpList_append_keep _ rfl _ _ 44 rfl base 5 i0 (.int .u8 0) 1 1 Try.underlying44 hi hz0 hz1 hz2 rfl (by decide) _ pb.length _ rfl (hown.alloc _) ⟨wr.heap.size, 0, none⟩ 1 1 [.int .u8 (hh : Int)] rfl (by decide) rfl (one_at _ _ _) (one_oneB _) (by unfold maxLen; omega) (by omega) (by simp; omega) ?_; intro v1 w1 hown1 hgr1)
        rw [bcells_snoc] at hown1
        go_ret
        exact ⟨_, ns ++ [hh], by have := HNQ.out; simp; omega, snoc_lt ns _ hn256 hhb, by rw [V_append, ← HNV2.out]; simp [V], rfl, by rw [← List.append_assoc, HPB.out]; simpa using hown1, HG.out.trans (Grew.append hgr1)⟩
      · have hq00 : qq = 0 := by omega
        subst hq00
        go_wp2
        go_ret
        exact ⟨_, ns, by have := HNQ.out; omega, hn256, by have := HNV2.out; simp at hhq; subst hhq; simpa using this, rfl, hown, HG.out⟩
end Go.Proofs.Ytjidbonhhpkljaa.Ec
