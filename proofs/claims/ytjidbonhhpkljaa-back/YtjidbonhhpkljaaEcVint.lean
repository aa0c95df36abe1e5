/- The contracts of varints and zigzag, on both sides. -/
import Derived.Test.YtjidbonhhpkljaaEcMath
import Derived.Test.YtjidbonhhpkljaaEcVals
import Derived.Laws.BitsLemmas
set_option linter.unusedVariables false
namespace Go.Proofs.Ytjidbonhhpkljaa.Ec
open Go.RowKit Go.Proofs.Ytjidbonhhpkljaa.Pk Go.Proofs.Ytjidbonhhpkljaa.Pm

/-- A row of bytes has grown: what else was there has stayed; it lies where it lay, or in new memory. -/
structure Grew (w w' : World) (v v' : Value) : Prop where
  by_ : w.grownBy w' v.ownBlock
  at_ : ∀ g, v'.ownBlock = some g → v.ownBlock = some g ∨ w.heap.size ≤ g

theorem Grew.refl (w : World) (v : Value) : Grew w w v v := ⟨World.grownBy.refl w _, fun _ h => .inl h⟩
theorem Grew.trans {w w1 w2 : World} {v v1 v2 : Value} (h1 : Grew w w1 v v1) (h2 : Grew w1 w2 v1 v2) : Grew w w2 v v2 := by
  refine ⟨⟨h2.by_.os.trans h1.by_.os, h2.by_.tape.trans h1.by_.tape, h2.by_.output.trans h1.by_.output, Nat.le_trans h1.by_.size h2.by_.size, ?_⟩, ?_⟩
  · intro k hk hne
    rw [h2.by_.block k (Nat.lt_of_lt_of_le hk h1.by_.size) (fun hr => ?_), h1.by_.block k hk hne]
    rcases h1.at_ k hr.symm with h | h
    · exact hne h.symm
    · omega
  · intro g hg
    rcases h2.at_ g hg with h | h
    · exact h1.at_ g h
    · exact .inr (Nat.le_trans h1.by_.size h)
theorem Grew.alloc {w w1 : World} {v v1 : Value} (h : Grew w w1 v v1) (o : Obj) : Grew w (w1.alloc o) v v1 :=
  h.trans ⟨World.grownBy_alloc w1 o _, fun _ h => .inl h⟩
theorem Grew.drewN {w w1 : World} {v v1 : Value} (h : Grew w w1 v v1) (n : Nat) : Grew w (w1.drewN n) v v1 :=
  h.trans ⟨⟨rfl, rfl, rfl, Nat.le_refl _, fun _ _ _ => rfl⟩, fun _ h => .inl h⟩
theorem Grew.below {w w' : World} {v v' : Value} {base : Nat} (h : Grew w w' v v') (hv : ∀ g, v.ownBlock = some g → base ≤ g) (hb : base ≤ w.heap.size) : Below base w w' :=
  (Below.refl base w).grown h.by_ hb hv
theorem Grew.append {w w1 : World} {v v1 : Value} {e size n : Nat} {xs : List Value} {o : Obj}
    (h : ((w.alloc o).grownBy w1 none ∧ w1.ownsRow (w.alloc o).heap.size e size v1 n xs) ∨ (v1.ownBlock = v.ownBlock ∧ (w.alloc o).grownBy w1 v.ownBlock)) : Grew w w1 v v1 := by
  have ha := (Grew.refl w v).alloc o
  refine ha.trans ?_
  rcases h with ⟨h1, h2⟩ | ⟨h1, h2⟩
  · refine ⟨⟨h1.os, h1.tape, h1.output, h1.size, fun k hk _ => h1.block k hk (by simp)⟩, fun g hg => .inr (h2.lt g hg).1⟩
  · exact ⟨h2, fun g hg => .inl (by rw [← h1]; exact hg)⟩

/-- 'string([]byte{x})'. -/
theorem conv_one {w : World} {g : Nat} {x : Nat} (hc : w.cell? ⟨g, 0, none⟩ = some (.int .u8 (x : Int))) :
    (convert 44 9 (.slice (some ⟨g, 0, none⟩) 1 1)).run Try.prog w = .ok (.string (strOf [x])) w :=
  run_convert_bytes_arg w 44 5 Try.underlying44 Try.underlying5 g 0 1 1 [(x : Int)] rfl (fun i hi => by
    have : i = 0 := by omega
    subst this
    exact hc) 9 Try.underlying9
theorem after_new {w w1 : World} {v : Value} {t : TypeId} (h : Below ((w.alloc (.cells #[v] t)).drew).heap.size (w.alloc (.cells #[v] t)).drew w1) : w1.cell? ⟨w.heap.size, 0, none⟩ = some v :=
  (h.cell (p := ⟨w.heap.size, 0, none⟩) (by simp)).trans (by simp)
theorem below_one {w w1 : World} {o : Obj} (h : Below ((w.alloc o).drew).heap.size (w.alloc o).drew w1) : Below w.heap.size w w1 :=
  (((Below.refl _ _).alloc (Nat.le_refl _) o).drew).trans (h.mono (by simp))
theorem below_two {w w1 : World} (o : Obj) (h : Below w.drew.heap.size w.drew w1) : Below w.heap.size w (w1.alloc o) :=
  (((Below.refl _ _).drew).trans h).alloc h.size o
theorem one_at (w : World) (a : Value) (t : TypeId) : ∀ (j : Nat) (u : Value), [a][j]? = some u → (w.alloc (.cells #[a] t)).cell? ((⟨w.heap.size, 0, none⟩ : Addr).add j) = some u := by
  intro j u hj
  match j, hj with
  | 0, hj => simp at hj; subst hj; simp [Addr.add]
theorem one_oneB (x : Int) : ∀ u ∈ [Value.int .u8 x], u.oneCell' = true := by
  intro u hu
  simp at hu
  subst hu
  rfl
theorem conv_new (w : World) (x : Nat) : (convert 44 9 (.slice (some ⟨w.heap.size, 0, none⟩) 1 1)).run Try.prog (w.alloc (.cells #[.int .u8 (x : Int)] 5)) = .ok (.string (strOf [x])) (w.alloc (.cells #[.int .u8 (x : Int)] 5)) :=
  conv_one (by simp)

set_option maxRecDepth 100000 in
set_option maxHeartbeats 2000000 in
theorem varint_small (f n : Nat) (w : World) (h : n < 128) : Calls Try.prog 87 #[.int .u64 n] w fun e w' => e = .returned (.string (strOf (vintF (f + 1) n))) ∧ Below w.heap.size w w' := by
  rw [vintF_small f n h]
  have hcv := conv_new w n
  go_enter Try.func87, Try.ntmps87
  go_wp2
  go_ret
  exact ⟨rfl, (Below.refl _ _).alloc (Nat.le_refl _) _⟩

set_option maxRecDepth 100000 in
set_option maxHeartbeats 2000000 in
theorem varint_fuel (f : Nat) (hf : f ≤ 9) : ∀ (n : Nat) (w : World), n < 128 ^ (f + 1) → n < 18446744073709551616 →
    Calls Try.prog 87 #[.int .u64 n] w fun e w' => e = .returned (.string (strOf (vintF (f + 1) n))) ∧ Below w.heap.size w w' := by
  induction f with
  | zero => intro n w h _; exact varint_small 0 n w (by simpa using h)
  | succ f ih =>
    intro n w hn hn2
    have ih := ih (by omega)
    by_cases h : n < 128
    · exact varint_small (f + 1) n w h
    · rw [vintF_big (f + 1) n h]
      have hq := pow128 (f + 1) n hn
      have IH : Hid (∀ w, Calls Try.prog 87 #[.int .u64 ((n : Int) / 128)] w fun e w' => e = .returned (.string (strOf (vintF (f + 1) (n / 128)))) ∧ Below w.heap.size w w') := fun w => by
        have := ih (n / 128) w hq (by omega)
        rwa [show ((n / 128 : Nat) : Int) = (n : Int) / 128 from by omega] at this
      obtain ⟨y, hy⟩ : ∃ y, y = n % 128 + 128 := ⟨_, rfl⟩
      have hw4 : IntKind.u8.wrap (IntKind.u8.wrap ((n : Int).tmod 128) + 128) = (y : Int) := by
        rw [Int.tmod_eq_emod_of_nonneg (by omega), wrap_u8_id (x := (n : Int) % 128) (by omega) (by omega), wrap_u8_id (by omega) (by omega)]; omega
      have hw2 : IntKind.u64.wrap ((n : Int) / 128) = (n : Int) / 128 := by simp [IntKind.wrap, IntKind.signed, IntKind.bits]; omega
      have hcv : ∀ (W : World) (g : Nat), W.cell? ⟨g, 0, none⟩ = some (.int .u8 (y : Int)) → (convert 44 9 (.slice (some ⟨g, 0, none⟩) 1 1)).run Try.prog W = .ok (.string (strOf [y])) W := fun W g h => conv_one h
      rw [← hy, show strOf (y :: vintF (f + 1) (n / 128)) = strOf [y] ++ strOf (vintF (f + 1) (n / 128)) from strOf_append [y] _]
      have hln : (vintF (f + 1) (n / 128)).length ≤ f + 1 := vintF_length _ _
      have HY : Hid (y = n % 128 + 128) := hy
      clear ih hn hq hy
      generalize vintF (f + 1) (n / 128) = rest at *
      have hsz : ¬ 9223372036854775807 < (strOf [y]).size + (strOf rest).size := by rw [Pk.strOf_size, Pk.strOf_size]; simp; omega
      go_enter Try.func87, Try.ntmps87
      go_wp2_with fail
      go_region_with (go_at_call 87; refine (IH.out _).mono ?_; rintro e w1 ⟨rfl, hb1⟩; try (have hcc := after_new hb1))
      all_goals
        go_wp2
        go_ret
        exact ⟨rfl, by first | exact below_one hb1 | exact below_two _ hb1⟩

theorem varint_any (n : Nat) (w : World) (h : n < 18446744073709551616) : Calls Try.prog 87 #[.int .u64 n] w fun e w' => e = .returned (.string (strOf (vint n))) ∧ Below w.heap.size w w' :=
  varint_fuel 9 (by omega) n w (lt_128_10 n h) h

theorem or_u8 (n : Nat) : bits .or .u8 ((n : Int) % 256) 128 = ((n % 128 + 128 : Nat) : Int) := by
  have h := (bits_nat .u8 8 (by decide) wraps_u8 (n % 256) 128 (by omega) (by omega)).2
  rw [show ((n % 256 : Nat) : Int) = (n : Int) % 256 from by omega, or128 (n % 256) (by omega)] at h
  rw [show (128 : Int) = ((128 : Nat) : Int) from rfl, h]
  omega

set_option maxRecDepth 100000 in
set_option maxHeartbeats 2000000 in
theorem appendVarint_any (v : Value) (pre : List Nat) (n base : Nat) (w : World) (hn : n < 18446744073709551616) (hl : pre.length ≤ 4000000) (hb : base ≤ w.heap.size)
    (hown : w.ownsRow base 5 1 v pre.length (bcells pre)) :
    Calls Try.prog 136 #[v, .int .u64 n] w fun e w' => ∃ v', e = .returned v' ∧ w'.ownsRow base 5 1 v' (pre ++ vint n).length (bcells (pre ++ vint n)) ∧ Grew w w' v v' := by
  obtain ⟨i0, hi, hz0, hz1, hz2⟩ := info_parts Try.info5
  go_enter Try.func136, Try.ntmps136
  go_wp2_with fail
  go_loopw [0, 1] (fun bv nv wr => ∃ (f m : Nat) (bs : List Nat), f ≤ 9 ∧ nv = .int .u64 m ∧ m < 128 ^ (f + 1) ∧ m < 18446744073709551616 ∧ bs.length + f = 9 ∧ bs ++ vintF (f + 1) m = vint n ∧ wr.ownsRow base 5 1 bv (pre ++ bs).length (bcells (pre ++ bs)) ∧ Grew w wr v bv ∧ w.heap.size ≤ wr.heap.size) (fun _ nv _ => (intOf nv).toNat)
  case atStart => exact ⟨9, n, [], by omega, rfl, lt_128_10 n hn, hn, rfl, rfl, by simpa using hown, Grew.refl _ _, Nat.le_refl _⟩
  case round =>
    obtain ⟨f, m, bs, hf, rfl, hm, hm2, hbl, hbs, hown, hgr, hsz⟩ := hrel
    have HM : Hid (m < 128 ^ (f + 1)) := hm
    have HBS : Hid (bs ++ vintF (f + 1) m = vint n) := hbs
    have HL : Hid (bs.length + f = 9) := hbl
    have hpl : (pre ++ bs).length ≤ 4000009 := by simp; omega
    clear hm hbs hbl
    have HG : Hid (Grew w wr v u0) := hgr
    clear hgr
    have HPP : Hid (∃ pb, pb = pre ++ bs) := ⟨_, rfl⟩
    generalize hpb : pre ++ bs = pb at *
    have HPB : Hid (pre ++ bs = pb) := hpb
    clear hpb HPP
    by_cases h : m < 128
    · have hwm : IntKind.u8.wrap (m : Int) = (m : Int) := wrap_u8_id (by omega) (by omega)
      go_wp2_with (at_builtin; refine wpList_append_keep _ rfl _ _ 44 rfl base 5 i0 (.int .u8 0) 1 1 Try.underlying44 hi hz0 hz1 hz2 rfl (by decide) _ pb.length _ rfl (hown.alloc _) ⟨wr.heap.size, 0, none⟩ 1 1 [.int .u8 (m : Int)] rfl (by decide) rfl (one_at _ _ _) (one_oneB _) (by unfold maxLen; omega) (by omega) (by simp; omega) ?_; intro v1 w1 hown1 hgr1)
      go_ret
      refine ⟨_, rfl, ?_, HG.out.trans (Grew.append hgr1)⟩
      rw [bcells_snoc] at hown1
      have e : pre ++ vint n = pb ++ [m] := by rw [← HBS.out, vintF_small f m h, ← HPB.out, List.append_assoc]
      rw [e]
      simpa using hown1
    · have hor := or_u8 m
      obtain ⟨y, hy⟩ : ∃ y, y = m % 128 + 128 := ⟨_, rfl⟩
      rw [← hy] at hor
      have hf0 : 0 < f := by
        rcases Nat.eq_zero_or_pos f with h0 | h0
        · subst h0; have := HM.out; simp at this; omega
        · exact h0
      have HY : Hid (y = m % 128 + 128) := hy
      clear hy
      go_wp2_with (at_builtin; refine wpList_append_keep _ rfl _ _ 44 rfl base 5 i0 (.int .u8 0) 1 1 Try.underlying44 hi hz0 hz1 hz2 rfl (by decide) _ pb.length _ rfl (hown.alloc _) ⟨wr.heap.size, 0, none⟩ 1 1 [.int .u8 (y : Int)] rfl (by decide) rfl (one_at _ _ _) (one_oneB _) (by unfold maxLen; omega) (by omega) (by simp; omega) ?_; intro v1 w1 hown1 hgr1)
      have hgr2 := HG.out.trans (Grew.append hgr1)
      have hsz2 : w.heap.size ≤ w1.heap.size := hgr2.by_.size
      rw [bcells_snoc] at hown1
      refine ⟨⟨f - 1, m / 128, bs ++ [y], by omega, by go_num, ?_, by omega, by have := HL.out; simp; omega, ?_, ?_, hgr2, hsz2⟩, by simp [intOf]; omega⟩
      · have := pow128 f m HM.out
        rwa [show f - 1 + 1 = f by omega]
      · rw [← HBS.out, vintF_big f m h, show f - 1 + 1 = f by omega, HY.out, List.append_assoc]; rfl
      · rw [← List.append_assoc, HPB.out]
        simpa using hown1
end Go.Proofs.Ytjidbonhhpkljaa.Ec
