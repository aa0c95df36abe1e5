/- Strict: whatever is decoded or unpacked is written just so. -/
import Derived.Test.YtjidbonhhpkljaaDcDecode
import Derived.Test.YtjidbonhhpkljaaPkUnpackC
import Derived.WalkSpells
set_option linter.unusedVariables false
namespace Go.Proofs.Ytjidbonhhpkljaa.Ec
open Go.RowKit Go.Proofs.Ytjidbonhhpkljaa.Pk Go.Proofs.Ytjidbonhhpkljaa.Pm

theorem cDecode_two (s : ByteArray) (k e cn : Int) (w : World) (hm : s.size ≤ maxLen) :
    Calls Try.prog 23 #[.string s, .int .i64 k, .int .i64 e, .int .i64 cn] w fun f w' => Below w.heap.size w w' ∧ ∃ v E, f = .returned (.tuple #[v, .int .i64 E]) ∧
      (E ≠ 0 ∨ (E = 0 ∧ ∃ l : List Val, w'.ownsRow w.heap.size 39 3 v l.length (vcells l) ∧ (l.length : Int) = cn ∧ (∀ x ∈ l, VIn x) ∧ l.length ≤ 100 ∧ encOf l k e = (s, 0))) := by
  refine (cDecode_any s k e cn w hm).mono ?_
  rintro f w' ⟨hb, ⟨hne, rfl⟩ | ⟨c, rfl, hc, h0, he, ⟨v, l, rfl, hown, hd⟩ | ⟨rfl, hno⟩⟩⟩
  · exact ⟨hb, _, _, rfl, .inl hne⟩
  · refine ⟨hb, _, _, rfl, .inr ⟨rfl, l, hown, by rw [hd.len], fun x hx => (hd.ok x hx).vin, by rw [hd.len]; exact hc, ?_⟩⟩
    rw [enc_ok (by rw [hd.len]; omega) he (fun j hj => (hd.ok _ (List.getElem_mem hj)).may (enc_kinds he).1), hd.eq, strOf_bytesOf]
  · exact ⟨hb, _, _, rfl, .inl (by decide)⟩

theorem unpack_pack {s : ByteArray} {wd cn : Int} (h : (unpackOf s wd cn).2 = 0) : packOf (unpackOf s wd cn).1 wd = (s, 0) ∧ (((unpackOf s wd cn).1.length : Nat) : Int) = cn := by
  by_cases h1 : cn < 0 ∨ 100 < cn
  · rw [unpackOf_long h1] at h; simp at h
  · by_cases h2 : wd < 0 ∨ 16 < wd
    · rw [unpackOf_wide h1 h2] at h; simp at h
    · obtain ⟨c, rfl⟩ := Int.eq_ofNat_of_zero_le (show 0 ≤ cn by omega)
      obtain ⟨m, rfl⟩ := Int.eq_ofNat_of_zero_le (show 0 ≤ wd by omega)
      by_cases h3 : unpackOk s m c = true
      · rw [unpackOf_ok (by omega) (by omega) h3]
        have hl : (intsOf (D m (V (bytesOf s)) c)).length = c := by simp [intsOf, D_length]
        refine ⟨?_, by rw [hl]⟩
        rw [packOf_ok (by rw [hl]; omega) (by omega) (D_fits _ _ _), D_back]
        have := (strOf_eq s m c).2 h3
        rw [this]
      · rw [unpackOf_bad (by omega) (by omega) (by simpa using h3)] at h; simp at h

theorem new_three (w : World) (x y z : Int) (t : TypeId) : ∀ j, j < [x, y, z].length → (w.alloc (.cells #[.int .i64 x, .int .i64 y, .int .i64 z] t)).cell? ⟨w.heap.size, 0 + j, none⟩ = some (.int .i64 ([x, y, z].getD j 0)) := by
  intro j hj
  match j, hj with
  | 0, _ => simp
  | 1, _ => simp
  | 2, _ => simp
theorem nine : unpackOf ⟨#[57]⟩ 2 3 = ([1, 2, 3], 0) := by decide +kernel

theorem nine_any (w : World) : Calls Try.prog 24 #[.string ⟨#[57]⟩, .int .i64 2, .int .i64 3] w fun e w' => Below w.heap.size w w' ∧ ∃ g cap, e = .returned (.tuple #[.slice (some ⟨g, 0, none⟩) 3 cap, .int .i64 0]) ∧ g < w'.heap.size ∧ ∀ j, j < 3 → w'.cell? ⟨g, 0 + j, none⟩ = some (.int .i64 ([1, 2, 3].getD j 0)) := by
  refine (cUnpack_any ⟨#[57]⟩ 2 3 w (by unfold maxLen; decide)).mono ?_
  rintro r w5 ⟨v5, rfl, hown5, _, hb5⟩
  rw [nine] at hown5 ⊢
  have hown : w5.ownsRow w.heap.size 3 1 v5 ([1, 2, 3] : List Int).length (icells [1, 2, 3]) := hown5
  obtain ⟨ao5, g5, cap5, rfl, q1, q2, q3⟩ := owned_ints hown
  obtain rfl := q1 (by decide)
  exact ⟨hb5, g5, cap5, rfl, q2 (by decide), q3⟩

theorem same_any (W : World) (g cap : Nat) (t : TypeId) (hg : g < W.heap.size) (hc : ∀ j, j < 3 → W.cell? ⟨g, 0 + j, none⟩ = some (.int .i64 ([1, 2, 3].getD j 0))) :
    Calls Try.prog 13 #[.slice (some ⟨g, 0, none⟩) 3 cap, .slice (some ⟨W.heap.size, 0, none⟩) 3 3] (W.alloc (.cells #[.int .i64 1, .int .i64 2, .int .i64 3] t)) fun e w' => e = .returned (.bool true) ∧ Below W.heap.size W w' := by
  have hb : Below W.heap.size W (W.alloc (.cells #[.int .i64 1, .int .i64 2, .int .i64 3] t)) := (Below.refl _ _).alloc (Nat.le_refl _) _
  refine (sameInts_any [1, 2, 3] [1, 2, 3] (some ⟨g, 0, none⟩) (some ⟨W.heap.size, 0, none⟩) g 0 cap W.heap.size 0 3 _ (by unfold maxLen; decide) (by unfold maxLen; decide) (fun _ => rfl) (fun j hj => (hb.cell (p := ⟨g, 0 + j, none⟩) hg).trans (hc j hj)) (fun _ => rfl) (new_three W 1 2 3 t)).mono ?_
  rintro e w' ⟨rfl, n, rfl⟩
  exact ⟨by simp, below_drewN hb n⟩

set_option maxRecDepth 100000 in
set_option maxHeartbeats 4000000 in
theorem strict_any (s : ByteArray) (k e cn wd : Int) (w : World) (hm : s.size ≤ maxLen) :
    Calls Try.prog 7 #[.string s, .int .i64 k, .int .i64 e, .int .i64 cn, .int .i64 wd] w fun r w' => r = .returned (.bool true) ∧ Below w.heap.size w w' := by
  go_enter Try.func7, Try.ntmps7
  go_wp2_with fail
  refine (cDecode_two s k e cn _ hm).mono ?_
  rintro r w1 ⟨hb1, v, E, rfl, hE | ⟨rfl, l, hown, hlen, hin, hl100, henc⟩⟩
  · have HB1 : Hid (Below w.heap.size w w1) := hb1
    have hE0 : (E == 0) = false := by simpa using hE
    clear hb1 hE
    go_wp2_with fail
    refine (cUnpack_any s wd cn _ hm).mono ?_
    rintro r w3 ⟨v3, rfl, hown3, _, hb3⟩
    have hsz3 := HB1.out.size
    have HB3 : Hid (Below w.heap.size w w3) := HB1.out.trans (hb3.mono hsz3)
    have hul : (unpackOf s wd cn).1.length ≤ 100 := unpackOf_length s wd cn
    by_cases hu : (unpackOf s wd cn).2 = 0
    · obtain ⟨hp1, hp2⟩ := unpack_pack hu
      obtain ⟨ao3, g3, cap3, rfl, o1, o2, o3⟩ := owned_ints hown3
      have hne3 : (((unpackOf s wd cn).1.length : Int) != cn) = false := by simp [hp2]
      rw [hu]
      have HP1 : Hid (packOf (unpackOf s wd cn).1 wd = (s, 0)) := hp1
      have O3 : Hid _ := o3
      clear hp1 hp2 hown3 hb3 hu o3
      generalize (unpackOf s wd cn).1 = zs at *
      go_wp2_with fail
      refine (cPack_any zs wd ao3 g3 0 cap3 _ (by unfold maxLen; omega) o1 o2 O3.out).mono ?_
      rintro r w4 ⟨rfl, hb4⟩
      have HB4 : Hid (Below w.heap.size w w4) := HB3.out.trans (hb4.mono (by have := HB3.out.size; omega))
      rw [HP1.out]
      clear hb4 HB3 O3 o1 o2
      go_wp2_with fail
      refine (nine_any _).mono ?_
      rintro r w5 ⟨hb5, g5, cap5, rfl, q2, q3⟩
      have HB5 : Hid (Below w.heap.size w w5) := HB4.out.trans (hb5.mono (by have := HB4.out.size; omega))
      have Q3 : Hid _ := q3
      clear hb5 HB4 q3
      go_wp2_with fail
      refine (same_any w5 g5 cap5 _ q2 Q3.out).mono ?_
      rintro r w6 ⟨rfl, hb6⟩
      have HB6 : Hid (Below w.heap.size w w6) := HB5.out.trans (hb6.mono (by have := HB5.out.size; omega))
      clear hb6 HB5
      go_wp2
      go_ret
      exact ⟨rfl, HB6.out⟩
    · have hu0 : ((unpackOf s wd cn).2 == 0) = false := by simpa using hu
      obtain ⟨ao3, cap3, rfl⟩ := own_shape hown3
      clear hown3 hb3 hu hul
      generalize (unpackOf s wd cn).2 = U at *
      generalize (unpackOf s wd cn).1.length = L3 at *
      go_wp2_with fail
      refine (nine_any _).mono ?_
      rintro r w5 ⟨hb5, g5, cap5, rfl, q2, q3⟩
      have HB5 : Hid (Below w.heap.size w w5) := HB3.out.trans (hb5.mono (by have := HB3.out.size; omega))
      have Q3 : Hid _ := q3
      clear hb5 HB3 q3
      go_wp2_with fail
      refine (same_any w5 g5 cap5 _ q2 Q3.out).mono ?_
      rintro r w6 ⟨rfl, hb6⟩
      have HB6 : Hid (Below w.heap.size w w6) := HB5.out.trans (hb6.mono (by have := HB5.out.size; omega))
      clear hb6 HB5
      go_wp2
      go_ret
      exact ⟨rfl, HB6.out⟩
  · have HB1 : Hid (Below w.heap.size w w1) := hb1
    have HO : Hid _ := hown
    have HIN : Hid (∀ x ∈ l, VIn x) := hin
    have HENC : Hid (encOf l k e = (s, 0)) := henc
    have HVS : Hid (VSl w1 v l) := VSl.of_owns hown
    obtain ⟨ao, cap, rfl⟩ := own_shape hown
    have hne : ((l.length : Int) != cn) = false := by simp [hlen]
    have hsz := hb1.size
    clear hb1 hown hin henc
    go_wp2_with fail
    refine (cEncode_any _ l k e _ (by unfold maxLen; omega) HIN.out HVS.out).mono ?_
    rintro r w2 ⟨rfl, hb2⟩
    have HB2 : Hid (Below w.heap.size w w2) := HB1.out.trans (hb2.mono hsz)
    rw [HENC.out]
    clear hb2 HB1 HO HVS
    go_wp2_with fail
    refine (cUnpack_any s wd cn _ hm).mono ?_
    rintro r w3 ⟨v3, rfl, hown3, _, hb3⟩
    have hsz3 := HB2.out.size
    have HB3 : Hid (Below w.heap.size w w3) := HB2.out.trans (hb3.mono hsz3)
    have hul : (unpackOf s wd cn).1.length ≤ 100 := unpackOf_length s wd cn
    by_cases hu : (unpackOf s wd cn).2 = 0
    · obtain ⟨hp1, hp2⟩ := unpack_pack hu
      obtain ⟨ao3, g3, cap3, rfl, o1, o2, o3⟩ := owned_ints hown3
      have hne3 : (((unpackOf s wd cn).1.length : Int) != cn) = false := by simp [hp2]
      rw [hu]
      have HP1 : Hid (packOf (unpackOf s wd cn).1 wd = (s, 0)) := hp1
      have O3 : Hid _ := o3
      clear hp1 hp2 hown3 hb3 hu o3
      generalize (unpackOf s wd cn).1 = zs at *
      go_wp2_with fail
      refine (cPack_any zs wd ao3 g3 0 cap3 _ (by unfold maxLen; omega) o1 o2 O3.out).mono ?_
      rintro r w4 ⟨rfl, hb4⟩
      have HB4 : Hid (Below w.heap.size w w4) := HB3.out.trans (hb4.mono (by have := HB3.out.size; omega))
      rw [HP1.out]
      clear hb4 HB3 O3 o1 o2
      go_wp2_with fail
      refine (nine_any _).mono ?_
      rintro r w5 ⟨hb5, g5, cap5, rfl, q2, q3⟩
      have HB5 : Hid (Below w.heap.size w w5) := HB4.out.trans (hb5.mono (by have := HB4.out.size; omega))
      have Q3 : Hid _ := q3
      clear hb5 HB4 q3
      go_wp2_with fail
      refine (same_any w5 g5 cap5 _ q2 Q3.out).mono ?_
      rintro r w6 ⟨rfl, hb6⟩
      have HB6 : Hid (Below w.heap.size w w6) := HB5.out.trans (hb6.mono (by have := HB5.out.size; omega))
      clear hb6 HB5
      go_wp2
      go_ret
      exact ⟨rfl, HB6.out⟩
    · have hu0 : ((unpackOf s wd cn).2 == 0) = false := by simpa using hu
      obtain ⟨ao3, cap3, rfl⟩ := own_shape hown3
      clear hown3 hb3 hu hul
      generalize (unpackOf s wd cn).2 = U at *
      generalize (unpackOf s wd cn).1.length = L3 at *
      go_wp2_with fail
      refine (nine_any _).mono ?_
      rintro r w5 ⟨hb5, g5, cap5, rfl, q2, q3⟩
      have HB5 : Hid (Below w.heap.size w w5) := HB3.out.trans (hb5.mono (by have := HB3.out.size; omega))
      have Q3 : Hid _ := q3
      clear hb5 HB3 q3
      go_wp2_with fail
      refine (same_any w5 g5 cap5 _ q2 Q3.out).mono ?_
      rintro r w6 ⟨rfl, hb6⟩
      have HB6 : Hid (Below w.heap.size w w6) := HB5.out.trans (hb6.mono (by have := HB5.out.size; omega))
      clear hb6 HB5
      go_wp2
      go_ret
      exact ⟨rfl, HB6.out⟩
end Go.Proofs.Ytjidbonhhpkljaa.Ec
