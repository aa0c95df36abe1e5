/- What the proof stands on: RdCols, RdBand, RdFoot, RdWhole, RdStr, RdCut. -/
import Derived.Test.YtjidbonhhpkljaaMe

/- The columns in a footer, read: the contract of readColumns. -/
set_option linter.unusedVariables false
namespace Go.Proofs.Ytjidbonhhpkljaa.Ec
open Go.RowKit Go.Proofs.Ytjidbonhhpkljaa.Pk Go.Proofs.Ytjidbonhhpkljaa.Pm
theorem wrapB {n : Nat} (h : n < 256) : wrap64 (n : Int) = (n : Int) ∧ IntKind.i64.wrap (n : Int) = (n : Int) := by
  constructor
  · unfold wrap64; omega
  · rw [IntKind.wrap_i64]; omega
/-- What readColumns answers. -/
def RCols (w : World) (r p : Nat) (s : ByteArray) (e : Ending) (w' : World) : Prop :=
  Kp r w w' ∧ ((∃ (l : List (Col × Int)) (cv ev : Value), e = .returned (.tuple #[cv, ev]) ∧ PlOk l ∧ Starts (bytesOf s) p (plB l) ∧ p + (plB l).length ≤ s.size ∧ w'.heap[r]? = some (rdr s (p + (plB l).length)) ∧ w'.ownsRow w.heap.size 104 2 cv l.length (ccells (l.map Prod.fst)) ∧ w'.ownsRow w.heap.size 3 1 ev l.length (icells (l.map Prod.snd)) ∧ (∀ l', PlOk l' → Starts (bytesOf s) p (plB l') → l' = l)) ∨
    (∃ q, e = .panicked (badAt q) ∧ ∀ l, PlOk l → ¬ Starts (bytesOf s) p (plB l)))

set_option maxRecDepth 100000 in
set_option maxHeartbeats 8000000 in
theorem readColumns_any (r p : Nat) (s : ByteArray) (w : World) (hm : s.size ≤ 65536) (hp : p ≤ s.size) (h : w.heap[r]? = some (rdr s p)) :
    Calls Try.prog 133 #[.pointer (some ⟨r, 0, none⟩)] w (RCols w r p s) := by
  obtain ⟨j0, hj, hy0, hy1, hy2⟩ := info_parts Try.info104
  obtain ⟨q0', hq, hx0, hx1, hx2⟩ := info_parts Try.info3
  have hrl : r < w.heap.size := lt_of_block h
  have hm2 : s.size ≤ maxLen := by unfold maxLen; omega
  have HR : Hid (w.heap[r]? = some (rdr s p)) := h
  clear h
  go_enter Try.func133, Try.ntmps133
  go_wp2_with fail
  refine (number_rd r p s _ hm2 hp HR.out).mono ?_
  rintro e w1 ⟨hK1, ⟨n, rfl, hn, hs1, hl1, hR1⟩ | ⟨q, rfl, hno⟩⟩
  rotate_left
  · have HNO : Hid (∀ l, PlOk l → ¬ Starts (bytesOf s) p (plB l)) := fun l hl hs => hno _ hl.each.2 (starts_append.1 hs).1
    have HK1 : Hid (Kp r w w1) := hK1
    clear hno hK1
    go_wp2
    exact ⟨rfl, HK1.out, .inr ⟨q, rfl, HNO.out⟩⟩
  · have HS1 : Hid (Starts (bytesOf s) p (vint n)) := hs1
    have HN : Hid (n < 2147483648) := hn
    obtain ⟨p0, hp0⟩ : ∃ p0, p0 = p + (vint n).length := ⟨_, rfl⟩
    have HP0 : Hid (p0 = p + (vint n).length) := hp0
    rw [← hp0] at hl1 hR1
    have HR1 : Hid (w1.heap[r]? = some (rdr s p0)) := hR1
    have HK1 : Hid (Kp r w w1) := hK1
    have hni : (n : Int) < 2147483648 := by omega
    clear hs1 hp0 hR1 hK1 HR hn
    go_wp2_with fail
    go_loopw [2, 3, 7] (fun cv ev i wr => ∃ l : List (Col × Int), i = .int .i64 (l.length : Int) ∧ QSt pcsB PcOk (bytesOf s) p0 n l ∧ p0 + (pcsB l).length ≤ s.size ∧ wr.heap[r]? = some (rdr s (p0 + (pcsB l).length)) ∧ wr.ownsRow w.heap.size 104 2 cv l.length (ccells (l.map Prod.fst)) ∧ wr.ownsRow w.heap.size 3 1 ev l.length (icells (l.map Prod.snd)) ∧ Kp r w wr) (fun _ _ i _ => n - (intOf i).toNat)
    case atStart => exact ⟨[], rfl, QSt.zero rfl, by simpa [pcsB] using hl1, by simpa [pcsB] using HR1.out, World.ownsRow_nil _ _ _ _, World.ownsRow_nil _ _ _ _, HK1.out⟩
    case round =>
      clear HK1 HR1
      obtain ⟨l, rfl, hS, hpl, hR, hoc, hoe, hK⟩ := hrel
      have HS : Hid (QSt pcsB PcOk (bytesOf s) p0 n l) := hS
      have HRR : Hid (wr.heap[r]? = some (rdr s (p0 + (pcsB l).length))) := hR
      have HK : Hid (Kp r w wr) := hK
      have HOC : Hid (wr.ownsRow w.heap.size 104 2 u2 l.length (ccells (l.map Prod.fst))) := hoc
      have HOE : Hid (wr.ownsRow w.heap.size 3 1 u3 l.length (icells (l.map Prod.snd))) := hoe
      have hll : l.length ≤ 65536 := by have := pcsB_len l; omega
      have hle := hS.le
      obtain ⟨p1, hp1⟩ : ∃ p1, p1 = p0 + (pcsB l).length := ⟨_, rfl⟩
      have HP1 : Hid (p1 = p0 + (pcsB l).length) := hp1
      rw [← hp1] at hpl HRR
      clear hS hR hK hoc hoe hp1
      by_cases hlt : l.length < n
      · have HF : Hid ((∀ y, PcOk y → ¬ Starts (bytesOf s) p1 (pcB y)) → ∀ L, PlOk L → ¬ Starts (bytesOf s) p (plB L)) := fun hu L hL hs => by
          obtain ⟨h1, h2⟩ := starts_append.1 hs
          have he := vint_one (by have := hL.each.2; omega) (by omega) h1 HS1.out
          rw [he] at h2
          refine HS.out.fail (e := fun _ y => pcB y) pcsB_snoc hlt (fun y hy => ?_) L he hL.each.1 (by rw [HP0.out]; exact h2)
          rw [← HP1.out]
          exact hu y hy
        go_wp2_with fail
        refine (number_rd r p1 s _ hm2 hpl HRR.out).mono ?_
        rintro e w2 ⟨hK2, ⟨v, rfl, hv, hs2, hl2, hR2⟩ | ⟨q, rfl, hno⟩⟩
        rotate_left
        · have HNO := HF.out (fun y hy hs => hno _ hy.n (starts_append.1 hs).1)
          have HN : Hid (∀ L, PlOk L → ¬ Starts (bytesOf s) p (plB L)) := HNO
          have HK2 : Hid (Kp r w w2) := HK.out.trans hK2
          clear hno hK2 HNO
          go_wp2
          exact ⟨rfl, HK2.out, .inr ⟨q, rfl, HN.out⟩⟩
        · have HV : Hid (v < 2147483648) := hv
          have HS2 : Hid (Starts (bytesOf s) p1 (vint v)) := hs2
          have hv2 : v ≤ 2147483648 := by omega
          have HK2 : Hid (Kp r w w2) := HK.out.trans hK2
          have HOC2 : Hid (w2.ownsRow w.heap.size 104 2 u2 l.length (ccells (l.map Prod.fst))) := hK2.own HOC.out hrl
          have HOE2 : Hid (w2.ownsRow w.heap.size 3 1 u3 l.length (icells (l.map Prod.snd))) := hK2.own HOE.out hrl
          obtain ⟨p2, hp2⟩ : ∃ p2, p2 = p1 + (vint v).length := ⟨_, rfl⟩
          have HP2 : Hid (p2 = p1 + (vint v).length) := hp2
          rw [← hp2] at hl2 hR2
          have HR2 : Hid (w2.heap[r]? = some (rdr s p2)) := hR2
          clear hs2 hK2 hR2 hp2 HK HOC HOE HRR hv
          go_wp2_with fail
          refine (takeS_any r p2 v s _ hm2 hl2 hv2 HR2.out).mono ?_
          rintro e w3 ⟨hK3, ⟨x, rfl, hxv, hs3, hl3, hR3⟩ | ⟨q, rfl, hno⟩⟩
          rotate_left
          · have HN : Hid (∀ L, PlOk L → ¬ Starts (bytesOf s) p (plB L)) := HF.out (fun y hy hs => hno (bytesOf y.1.name) (by rw [bytesOf_length]; exact pc_name hy HV.out HS2.out hs) (by unfold pcB at hs; rw [pc_name hy HV.out HS2.out (by unfold pcB; exact hs)] at hs; rw [HP2.out]; exact (starts_append.1 (starts_append.1 hs).2).1))
            have HKP : Hid (Kp r w w3) := HK2.out.trans hK3
            clear hno
            go_wp2
            exact ⟨rfl, HKP.out, .inr ⟨q, rfl, HN.out⟩⟩
          · have HS3 : Hid (Starts (bytesOf s) p2 (bytesOf x)) := hs3
            have HXV : Hid (x.size = v) := hxv
            have HK3 : Hid (Kp r w w3) := HK2.out.trans hK3
            have HOC3 : Hid (w3.ownsRow w.heap.size 104 2 u2 l.length (ccells (l.map Prod.fst))) := hK3.own HOC2.out hrl
            have HOE3 : Hid (w3.ownsRow w.heap.size 3 1 u3 l.length (icells (l.map Prod.snd))) := hK3.own HOE2.out hrl
            have HR3 : Hid (w3.heap[r]? = some (rdr s (p2 + v))) := hR3
            have hxl : x.size ≤ 65536 := by omega
            have HCL : Hid (∀ W, Calls Try.prog 101 #[.string x] W fun e w' => e = .returned (.string x) ∧ Below W.heap.size W w') := fun W => cloneL_any x W hxl
            clear hs3 hxv hK3 hR3 HK2 HOC2 HOE2 HR2 hxl
            go_upto_region 4 with (go_at_call 101; refine (HCL.out _).mono ?_; rintro e w4 ⟨rfl, hb4⟩)
            have HK4 : Hid (Kp r w w4) := HK3.out.trans (Kp.of_below hb4)
            have HOC4 : Hid (w4.ownsRow w.heap.size 104 2 u2 l.length (ccells (l.map Prod.fst))) := ownsRow_below HOC3.out hb4
            have HOE4 : Hid (w4.ownsRow w.heap.size 3 1 u3 l.length (icells (l.map Prod.snd))) := ownsRow_below HOE3.out hb4
            have HR4 : Hid (w4.heap[r]? = some (rdr s (p2 + v))) := (hb4.block _ (lt_of_block HR3.out)).trans HR3.out
            clear hb4 HK3 HOC3 HOE3 HR3 HCL
            go_wp2_with fail
            refine (byteS_any r (p2 + v) s _ hm2 hl3 HR4.out).mono ?_
            rintro e w5 ⟨hK5, ⟨kd, rfl, hkd, hs5, hl5, hR5⟩ | ⟨q, rfl, hno⟩⟩
            rotate_left
            · have HN : Hid (∀ L, PlOk L → ¬ Starts (bytesOf s) p (plB L)) := HF.out (fun y hy hs => hno _ (starts_one.2 (starts_cons.1 (by have := (pc_text hy HV.out HS2.out HXV.out (by rw [← HP2.out]; exact HS3.out) hs).2; rw [← HP2.out] at this; exact this)).1))
              have HKP : Hid (Kp r w w5) := HK4.out.trans hK5
              clear hno
              go_wp2
              exact ⟨rfl, HKP.out, .inr ⟨q, rfl, HN.out⟩⟩
            · have HS5 : Hid (Starts (bytesOf s) (p2 + v) [kd]) := hs5
              have HK5 : Hid (Kp r w w5) := HK4.out.trans hK5
              have hoc5 := hK5.own HOC4.out hrl
              have HOC5 : Hid (w5.ownsRow w.heap.size 104 2 u2 l.length (ccells (l.map Prod.fst))) := hoc5
              have HOE5 : Hid (w5.ownsRow w.heap.size 3 1 u3 l.length (icells (l.map Prod.snd))) := hK5.own HOE4.out hrl
              have HR5 : Hid (w5.heap[r]? = some (rdr s (p2 + v + 1))) := hR5
              have hsz5 := HK5.out.size
              clear hs5 hK5 hR5 HK4 HOC4 HOE4 HR4
              have hwi := (wrapB hkd).2
              have HKD : Hid (kd < 256) := hkd
              have HLL : Hid (l.length ≤ 65536) := hll
              have HL5 : Hid (p2 + v + 1 ≤ s.size) := hl5
              clear hv2 hkd hll hm hni hl5 hl3 hl2 hpl hle
              go_upto_region 5 with (at_builtin; refine wpList_append_lies _ rfl _ _ 49 rfl w.heap.size 104 j0 _ 2 24 Try.underlying49 hj hy0 hy1 hy2 rfl (by decide) _ l.length _ rfl (hoc5.alloc _) ⟨w5.heap.size, 0, none⟩ 1 1 [.string x, .int .i64 (kd : Int)] rfl rfl (two_atC w5 _ _ _) (by intro u hu; simp at hu; rcases hu with rfl | rfl <;> rfl) (by decide) (by have := HLL.out; unfold maxLen; omega) (by have := HLL.out; omega) (by simp; omega) _ rfl ?_; intro g6 cap6 w6 hown6 hgr6 hat6 hlt6)
              have hg6 := Grew.lies (n := l.length + 1) (cap := cap6) hgr6 hat6
              have HK6 : Hid (Kp r w w6) := HK5.out.grown hg6.by_ (fun g hg => (HOC5.out.lt g hg).1)
              have HR6 : Hid (w6.heap[r]? = some (rdr s (p2 + v + 1))) := (hg6.by_.block r (by omega) (fun e => by have := (HOC5.out.lt r e.symm).1; omega)).trans HR5.out
              have HOC6 : Hid (w6.ownsRow w.heap.size 104 2 (.slice (some ⟨g6, 0, none⟩) (l.length + 1) cap6) (l.length + 1) (ccells (l.map Prod.fst) ++ [.string x, .int .i64 (kd : Int)])) := hown6
              have HOE6 : Hid (w6.ownsRow w.heap.size 3 1 u3 l.length (icells (l.map Prod.snd))) := kept_grew HOE5.out hg6 (apart_of HOE5.out HOC5.out (by decide))
              clear hown6 hgr6 hat6 hlt6 hg6 hoc5 HOC5 HOE5 HK5 HR5 hsz5
              generalize Value.slice (some ⟨g6, 0, none⟩) (l.length + 1) cap6 = cv6 at *
              go_wp2_with fail
              refine (byteS_any r (p2 + v + 1) s _ hm2 HL5.out HR6.out).mono ?_
              rintro e w7 ⟨hK7, ⟨en, rfl, hen, hs7, hl7, hR7⟩ | ⟨q, rfl, hno⟩⟩
              rotate_left
              · have HN : Hid (∀ L, PlOk L → ¬ Starts (bytesOf s) p (plB L)) := HF.out (fun y hy hs => hno _ (by have := (pc_text hy HV.out HS2.out HXV.out (by rw [← HP2.out]; exact HS3.out) hs).2; rw [← HP2.out] at this; exact (starts_cons.1 this).2))
                have HKP : Hid (Kp r w w7) := HK6.out.trans hK7
                clear hno
                go_wp2
                exact ⟨rfl, HKP.out, .inr ⟨q, rfl, HN.out⟩⟩
              · have HS7 : Hid (Starts (bytesOf s) (p2 + v + 1) [en]) := hs7
                have HK7 : Hid (Kp r w w7) := HK6.out.trans hK7
                have HOC7 : Hid (w7.ownsRow w.heap.size 104 2 cv6 (l.length + 1) (ccells (l.map Prod.fst) ++ [.string x, .int .i64 (kd : Int)])) := hK7.own HOC6.out hrl
                have hoe7 := hK7.own HOE6.out hrl
                have HOE7 : Hid (w7.ownsRow w.heap.size 3 1 u3 l.length (icells (l.map Prod.snd))) := hoe7
                have HR7 : Hid (w7.heap[r]? = some (rdr s (p2 + v + 1 + 1))) := hR7
                have hsz7 := HK7.out.size
                have hewi := (wrapB hen).2
                have HEN : Hid (en < 256) := hen
                have HL7 : Hid (p2 + v + 1 + 1 ≤ s.size) := hl7
                clear hen hl7
                clear hs7 hK7 hR7 HK6 HOC6 HOE6 HR6
                go_upto_region 6 with (at_builtin; refine wpList_append_lies _ rfl _ _ 22 rfl w.heap.size 3 q0' _ 1 8 Try.underlying22 hq hx0 hx1 hx2 rfl (by decide) _ l.length _ rfl (hoe7.alloc _) ⟨w7.heap.size, 0, none⟩ 1 1 [.int .i64 (en : Int)] rfl rfl (one_at w7 _ _) (by intro u hu; simp at hu; subst hu; rfl) (by decide) (by have := HLL.out; unfold maxLen; omega) (by have := HLL.out; omega) (by simp; omega) _ rfl ?_; intro g8 cap8 w8 hown8 hgr8 hat8 hlt8)
                have hg8 := Grew.lies (n := l.length + 1) (cap := cap8) hgr8 hat8
                have HK8 : Hid (Kp r w w8) := HK7.out.grown hg8.by_ (fun g hg => (HOE7.out.lt g hg).1)
                have HR8 : Hid (w8.heap[r]? = some (rdr s (p2 + v + 1 + 1))) := (hg8.by_.block r (by omega) (fun e => by have := (HOE7.out.lt r e.symm).1; omega)).trans HR7.out
                have HOE8 : Hid (w8.ownsRow w.heap.size 3 1 (.slice (some ⟨g8, 0, none⟩) (l.length + 1) cap8) (l ++ [((⟨x, (kd : Int)⟩ : Col), (en : Int))]).length (icells ((l ++ [((⟨x, (kd : Int)⟩ : Col), (en : Int))]).map Prod.snd))) := by
                  show World.ownsRow _ _ _ _ _ _ _
                  rw [List.length_append, List.map_append]
                  unfold icells at hown8 ⊢
                  rw [List.map_append]
                  exact hown8
                have HOC8 : Hid (w8.ownsRow w.heap.size 104 2 cv6 (l ++ [((⟨x, (kd : Int)⟩ : Col), (en : Int))]).length (ccells ((l ++ [((⟨x, (kd : Int)⟩ : Col), (en : Int))]).map Prod.fst))) := by
                  have := kept_grew HOC7.out hg8 (apart_of HOC7.out HOE7.out (by decide))
                  show World.ownsRow _ _ _ _ _ _ _
                  rw [List.length_append, List.map_append, ccells_append]
                  exact this
                have hps := pc_starts HS2.out HXV.out (by rw [← HP2.out]; exact HS3.out) (by rw [← HP2.out]; exact HS5.out) (by rw [← HP2.out]; exact HS7.out) HKD.out HEN.out
                have HMORE : Hid (QSt pcsB PcOk (bytesOf s) p0 n (l ++ [((⟨x, (kd : Int)⟩ : Col), (en : Int))])) := HS.out.more (e := fun _ y => pcB y) pcsB_snoc hlt ⟨by have := HXV.out; have := HV.out; show x.size < _; omega, by show (0 : Int) ≤ (kd : Int); omega, by have := HKD.out; show (kd : Int) < 256; omega, by show (0 : Int) ≤ (en : Int); omega, by have := HEN.out; show (en : Int) < 256; omega⟩ (by rw [← HP1.out]; exact hps.1) (fun y hy hs => by
                  rw [← HP1.out] at hs
                  exact pc_one hy HV.out HS2.out HXV.out (by rw [← HP2.out]; exact HS3.out) (by rw [← HP2.out]; exact HS5.out) (by rw [← HP2.out]; exact HS7.out) hs)
                have HPL : Hid (p0 + (pcsB (l ++ [((⟨x, (kd : Int)⟩ : Col), (en : Int))])).length = p2 + v + 1 + 1) := by
                  show _ = _
                  have h1 := HP1.out
                  have h2 := HP2.out
                  rw [pcsB_snoc, List.length_append, hps.2]
                  omega
                clear hown8 hgr8 hat8 hlt8 hg8 hoe7 HOE7 HOC7 HK7 HR7 hps hsz7
                generalize Value.slice (some ⟨g8, 0, none⟩) (l.length + 1) cap8 = ev8 at *
                have hll := HLL.out
                go_wp2_with fail
                go_roundw
                case rel => exact ⟨_, by rw [List.length_append]; go_num, HMORE.out, by rw [HPL.out]; exact HL7.out, by rw [HPL.out]; exact HR8.out, HOC8.out, HOE8.out, HK8.out⟩
                case measure => simp [intOf]; omega
      · have HD := HS.out.done hlt
        have HUN : Hid (∀ L, PlOk L → Starts (bytesOf s) p (plB L) → L = l) := fun L hL hs => by
          obtain ⟨h1, h2⟩ := starts_append.1 hs
          have he := vint_one (by have := hL.each.2; omega) (by omega) h1 HS1.out
          rw [he, ← HP0.out] at h2
          exact HD.2 L he hL.each.1 h2
        have HPB : Hid (p + (plB l).length = p1 ∧ Starts (bytesOf s) p (plB l)) := by
          have h1 := HP1.out
          have h2 := HP0.out
          have h3 := HD.1
          refine ⟨by unfold plB; rw [List.length_append, h3]; omega, ?_⟩
          unfold plB
          rw [h3]
          exact starts_append.2 ⟨HS1.out, by rw [← h2]; exact HS.out.st⟩
        have HPLl : Hid (p1 ≤ s.size) := hpl
        obtain ⟨co, ccap, rfl⟩ := own_form HOC.out
        obtain ⟨eo, ecap, rfl⟩ := own_form HOE.out
        have HC : Hid (CSl wr (.slice co l.length ccap) (l.map Prod.fst)) := CSl.of_owns (by rw [List.length_map]; exact HOC.out)
        have HE : Hid (ISl wr (.slice eo l.length ecap) (l.map Prod.snd)) := ISl.of_owns (by rw [List.length_map]; exact HOE.out)
        have hlm : (l.map Prod.fst).length ≤ maxLen := by rw [List.length_map]; unfold maxLen; omega
        have hlm2 : (l.map Prod.snd).length ≤ maxLen := by rw [List.length_map]; unfold maxLen; omega
        have HAC : Hid (Calls Try.prog 89 #[.slice co l.length ccap] wr fun e w' => ∃ bb, e = .returned (.bool bb) ∧ (bb = true ↔ ColsOk (l.map Prod.fst)) ∧ Below wr.heap.size wr w') := areColumns_any (l.map Prod.fst) _ wr hlm HC.out
        have HAE : Hid (∀ W, Below wr.heap.size wr W → Calls Try.prog 91 #[.slice eo l.length ecap, .slice co l.length ccap] W fun e w' => ∃ bb, e = .returned (.bool bb) ∧ (bb = true ↔ EncsOk (l.map Prod.fst) (l.map Prod.snd)) ∧ Below W.heap.size W w') := fun W hW => areEncodings_any (l.map Prod.fst) (l.map Prod.snd) _ _ W hlm hlm2 (HC.out.below hW) (HE.out.lower hW)
        have hnl : n = l.length := HD.1.symm
        subst hnl
        clear hni hll hm hle hpl HD hlm hlm2 HC HE
        go_wp2_with fail
        refine HAC.out.mono ?_
        rintro e wA ⟨bA, rfl, hA, hbA⟩
        have HKA : Hid (Kp r w wA) := HK.out.trans (Kp.of_below hbA)
        have HRA : Hid (wA.heap[r]? = some (rdr s p1)) := (hbA.block r (lt_of_block HRR.out)).trans HRR.out
        have HBA : Hid (Below wr.heap.size wr wA) := hbA
        have HA : Hid (bA = true ↔ ColsOk (l.map Prod.fst)) := hA
        clear hA hbA HAC
        cases bA
        · have HN : Hid (∀ L, PlOk L → ¬ Starts (bytesOf s) p (plB L)) := fun L hL hs => by
            have := HUN.out L hL hs
            rw [this] at hL
            exact absurd (HA.out.2 hL.1) (by simp)
          go_wp2_with (go_at_call 84; refine (giveUp_any r p1 s _ HRA.out).mono ?_; rintro e w' ⟨rfl, rfl⟩)
          exact ⟨rfl, HKA.out, .inr ⟨_, rfl, HN.out⟩⟩
        · have HCO : Hid (ColsOk (l.map Prod.fst)) := HA.out.1 rfl
          clear HA
          go_wp2_with fail
          refine (HAE.out wA HBA.out).mono ?_
          rintro e wB ⟨bB, rfl, hB, hbB⟩
          have HKB : Hid (Kp r w wB) := HKA.out.trans (Kp.of_below hbB)
          have HRB : Hid (wB.heap[r]? = some (rdr s p1)) := (hbB.block r (lt_of_block HRA.out)).trans HRA.out
          have HOCB : Hid (wB.ownsRow w.heap.size 104 2 (.slice co l.length ccap) l.length (ccells (l.map Prod.fst))) := ownsRow_below (ownsRow_below HOC.out HBA.out) hbB
          have HOEB : Hid (wB.ownsRow w.heap.size 3 1 (.slice eo l.length ecap) l.length (icells (l.map Prod.snd))) := ownsRow_below (ownsRow_below HOE.out HBA.out) hbB
          have HB : Hid (bB = true ↔ EncsOk (l.map Prod.fst) (l.map Prod.snd)) := hB
          clear hB hbB HAE HKA HRA HBA HOC HOE
          cases bB
          · have HN : Hid (∀ L, PlOk L → ¬ Starts (bytesOf s) p (plB L)) := fun L hL hs => by
              have := HUN.out L hL hs
              rw [this] at hL
              exact absurd (HB.out.2 hL.2) (by simp)
            go_wp2_with (go_at_call 84; refine (giveUp_any r p1 s _ HRB.out).mono ?_; rintro e w' ⟨rfl, rfl⟩)
            exact ⟨rfl, HKB.out, .inr ⟨_, rfl, HN.out⟩⟩
          · have HPO : Hid (PlOk l) := ⟨HCO.out, HB.out.1 rfl⟩
            go_wp2
            go_ret2
            exact ⟨HKB.out, .inl ⟨l, _, _, rfl, HPO.out, HPB.out.2, by rw [HPB.out.1]; exact HPLl.out, by rw [HPB.out.1]; exact HRB.out, HOCB.out, HOEB.out, HUN.out⟩⟩
end Go.Proofs.Ytjidbonhhpkljaa.Ec

/- A band in a footer, with its chunks: the contract of readBand. -/
set_option linter.unusedVariables false
set_option linter.unusedSimpArgs false
namespace Go.Proofs.Ytjidbonhhpkljaa.Ec
open Go.RowKit Go.Proofs.Ytjidbonhhpkljaa.Pk Go.Proofs.Ytjidbonhhpkljaa.Pm
theorem crow_own {W : World} {base n cap : Nat} {co : Option Addr} {cs : List Col} (h : W.ownsRow base 104 2 (.slice co n cap) cs.length (ccells cs)) (h0 : 0 < cs.length) : ∃ g, co = some ⟨g, 0, none⟩ ∧ base ≤ g ∧ g < W.heap.size ∧ CRow W co g 0 cs := by
  rcases h.2 with ⟨he, h1⟩ | ⟨g, cap', cur, he, hbg, hgb, hnc, hcm, hcs, htake⟩
  · omega
  · cases he
    have hc := h.cells (g := g) rfl
    refine ⟨g, rfl, hbg, lt_of_block hgb, ⟨fun _ => rfl, fun _ => lt_of_block hgb, fun j hj => ?_, fun j hj => ?_⟩⟩
    · have := hc _ _ (flat_at (fun c : Col => [Value.string c.name, Value.int .i64 c.kind]) 2 (fun _ => rfl) cs j hj 0 _ rfl)
      simpa [Addr.add_lit] using this
    · have := hc _ _ (flat_at (fun c : Col => [Value.string c.name, Value.int .i64 c.kind]) 2 (fun _ => rfl) cs j hj 1 _ rfl)
      simpa [Addr.add_lit] using this

set_option maxRecDepth 100000 in
set_option maxHeartbeats 8000000 in
theorem readBand_any (cs : List Col) (cv : Value) (r p q t base : Nat) (s z : ByteArray) (w : World) (hrq : r ≠ q) (hm : s.size ≤ 65536) (hz : z.size ≤ 65536) (hp : p ≤ s.size) (ht : t ≤ z.size) (h : w.heap[r]? = some (rdr s p)) (h2 : w.heap[q]? = some (rdr z t)) (hb1 : r < base) (hb2 : q < base)
    (hcs : w.ownsRow base 104 2 cv cs.length (ccells cs)) (hcl : cs.length ≤ 8) (hkd : ∀ i (h : i < cs.length), cs[i].kind = 1 ∨ cs[i].kind = 2 ∨ cs[i].kind = 3) :
    Calls Try.prog 134 #[.pointer (some ⟨r, 0, none⟩), .pointer (some ⟨q, 0, none⟩), cv] w (RBnd cs w r p s q t z) := by
  obtain ⟨j0, hj, hy0, hy1, hy2⟩ := info_parts Try.info156
  have hrl : r < w.heap.size := lt_of_block h
  have hql : q < w.heap.size := lt_of_block h2
  have hm2 : s.size ≤ maxLen := by unfold maxLen; omega
  have hz2 : z.size ≤ maxLen := by unfold maxLen; omega
  have HKD : Hid (∀ i (h : i < cs.length), cs[i].kind = 1 ∨ cs[i].kind = 2 ∨ cs[i].kind = 3) := hkd
  obtain ⟨co, ccap, rfl⟩ := own_form hcs
  have HCS : Hid (w.ownsRow base 104 2 (.slice co cs.length ccap) cs.length (ccells cs)) := hcs
  have HR0 : Hid ((w.alloc (.cells #[.int .i64 0, .slice none 0 0] 152)).heap[r]? = some (rdr s p)) := by
    show _ = _
    rw [Below.heap_alloc _ _ r hrl]; exact h
  have HQ0 : Hid ((w.alloc (.cells #[.int .i64 0, .slice none 0 0] 152)).heap[q]? = some (rdr z t)) := by
    show _ = _
    rw [Below.heap_alloc _ _ q hql]; exact h2
  have HKA : Hid (Kp2 r q w (w.alloc (.cells #[.int .i64 0, .slice none 0 0] 152))) := (Kp2.refl r q w).alloc _
  clear h h2 hcs hkd
  go_enter Try.func134, Try.ntmps134
  go_wp2_with fail
  refine (number_rd r p s _ hm2 hp HR0.out).mono ?_
  rintro e w1 ⟨hK1, ⟨n, rfl, hn, hs1, hl1, hR1⟩ | ⟨m, rfl, hno⟩⟩
  rotate_left
  · have HNO : Hid (∀ b, BdGood cs b → Starts (bytesOf s) p (bandB cs b) → ¬ Starts (bytesOf z) t (textB b.chunks)) := fun b hb hs => (hno _ (by have := hb.hi; omega) (starts_append.1 hs).1).elim
    have HK1 : Hid (Kp2 r q w w1) := HKA.out.trans (Kp2.of_left hK1)
    clear hno hK1
    go_wp2
    exact ⟨rfl, HK1.out, .inr ⟨m, rfl, HNO.out⟩⟩
  · have hQ1 : w1.heap[q]? = some (rdr z t) := Kp.block hK1 HQ0.out (by omega)
    have hS : BrSt w (w1.alloc (.cells #[.int .i64 (n : Int), .slice none 0 0] 152)) w1.heap.size r q n (.slice none 0 0) [] := by
      refine ⟨?_, alloc_at w1 _, World.ownsRow_nil _ _ _ _, (HKA.out.trans (Kp2.of_left hK1)).alloc _⟩
      have := Kp.block hK1 (heap_alloc_new w (.cells #[.int .i64 0, .slice none 0 0] 152)) (by omega)
      exact alloc_old _ (by simpa using lt_of_block this) this
    have hg : w.heap.size < w1.heap.size := by have := hK1.size; simp at this; omega
    have hRW : (w1.alloc (.cells #[.int .i64 (n : Int), .slice none 0 0] 152)).heap[r]? = some (rdr s (p + (vint n).length)) := by rw [Below.heap_alloc _ _ r (by omega)]; exact hR1
    have hQW : (w1.alloc (.cells #[.int .i64 (n : Int), .slice none 0 0] 152)).heap[q]? = some (rdr z t) := by rw [Below.heap_alloc _ _ q (by omega)]; exact hQ1
    go_upto_region 2 with fail
    generalize w1.alloc (.cells #[.int .i64 (n : Int), .slice none 0 0] 152) = W0 at *
    generalize w1.heap.size = g at *
    clear hK1 hR1 hQ1 HR0 HQ0 HKA
    clear w1
    obtain ⟨p1, hp1⟩ : ∃ p1, p1 = p + (vint n).length := ⟨_, rfl⟩
    have HP1 : Hid (p1 = p + (vint n).length) := hp1
    rw [← hp1] at hRW hl1
    have HS1 : Hid (Starts (bytesOf s) p (vint n)) := hs1
    have HRW : Hid (W0.heap[r]? = some (rdr s p1)) := hRW
    have HQW : Hid (W0.heap[q]? = some (rdr z t)) := hQW
    have HS : Hid (BrSt w W0 g r q n (.slice none 0 0) []) := hS
    obtain ⟨t0, t1, t2⟩ := hS.cells
    clear hs1 hp1 hRW hQW hS
    by_cases hin : 1 ≤ n ∧ n ≤ 100
    rotate_left
    · have HNO : Hid (∀ b, BdGood cs b → Starts (bytesOf s) p (bandB cs b) → ¬ Starts (bytesOf z) t (textB b.chunks)) := fun b hb hs => by
        have := vint_one (by have := hb.hi; omega) (by omega) (starts_append.1 hs).1 HS1.out
        have h1 := hb.lo
        have h2 := hb.hi
        omega
      by_cases h0 : n < 1
      · have hd : decide ((n : Int) < 1) = true := by simp; omega
        go_wp2_with (go_at_call 84; refine (giveUp_any r p1 s _ HRW.out).mono ?_; rintro e w' ⟨rfl, rfl⟩)
        exact ⟨rfl, HS.out.kp, .inr ⟨_, rfl, HNO.out⟩⟩
      · have hd : decide ((n : Int) < 1) = false := by simp; omega
        have hd2 : decide (100 < (n : Int)) = true := by simp; omega
        go_wp2_with (go_at_call 84; refine (giveUp_any r p1 s _ HRW.out).mono ?_; rintro e w' ⟨rfl, rfl⟩)
        exact ⟨rfl, HS.out.kp, .inr ⟨_, rfl, HNO.out⟩⟩
    · have hd : decide ((n : Int) < 1) = false := by simp; omega
      have hd2 : decide (100 < (n : Int)) = false := by simp; omega
      have HIN : Hid (1 ≤ n ∧ n ≤ 100) := hin
      have HN : Hid (n < 2147483648) := hn
      go_upto_region 4 with fail
      clear hd hd2 hin hn t0 t1 t2
      go_wp2_with fail
      go_loopw [26] (fun i wr => ∃ (l : List Chk) (kv : Value), i = .int .i64 (l.length : Int) ∧ Q2 (cksB cs) textB (CkOk cs) (bytesOf s) p1 (bytesOf z) t cs.length l ∧ BrSt w wr g r q n kv l ∧ p1 + (cksB cs l).length ≤ s.size ∧ wr.heap[r]? = some (rdr s (p1 + (cksB cs l).length)) ∧ t + (textB l).length ≤ z.size ∧ wr.heap[q]? = some (rdr z (t + (textB l).length))) (fun i _ => cs.length - (intOf i).toNat)
      case atStart => exact ⟨[], _, rfl, Q2.zero rfl rfl, HS.out, by simpa [cksB, partsB] using hl1, by simpa [cksB, partsB] using HRW.out, by simpa [textB] using ht, by simpa [textB] using HQW.out⟩
      case round =>
        clear HS HRW HQW
        obtain ⟨l, kv, rfl, hQ, hS, hpl, hR, htl, hQR⟩ := hrel
        have HQ : Hid (Q2 (cksB cs) textB (CkOk cs) (bytesOf s) p1 (bytesOf z) t cs.length l) := hQ
        have HS : Hid (BrSt w wr g r q n kv l) := hS
        obtain ⟨p2, hp2⟩ : ∃ p2, p2 = p1 + (cksB cs l).length := ⟨_, rfl⟩
        obtain ⟨u, hu⟩ : ∃ u, u = t + (textB l).length := ⟨_, rfl⟩
        have HP2 : Hid (p2 = p1 + (cksB cs l).length) := hp2
        have HU : Hid (u = t + (textB l).length) := hu
        rw [← hp2] at hpl hR
        rw [← hu] at htl hQR
        have HR : Hid (wr.heap[r]? = some (rdr s p2)) := hR
        have HQR : Hid (wr.heap[q]? = some (rdr z u)) := hQR
        have hle : l.length ≤ cs.length := hQ.le
        have hsz : w.heap.size ≤ wr.heap.size := hS.kp.size
        have HCW : Hid (wr.ownsRow base 104 2 (.slice co cs.length ccap) cs.length (ccells cs)) := hS.kp.own HCS.out hb1 hb2
        clear hQ hp2 hu hR hQR
        by_cases hlt : l.length < cs.length
        · have HF : Hid ((∀ y, CkOk cs l.length y → Starts (bytesOf s) p2 (ckB cs l y) → ¬ Starts (bytesOf z) u (bytesOf y.text)) → ∀ b, BdGood cs b → Starts (bytesOf s) p (bandB cs b) → ¬ Starts (bytesOf z) t (textB b.chunks)) := fun hu b hb hs hc => by
            obtain ⟨h1, h2⟩ := starts_append.1 hs
            have he := vint_one (by have := hb.hi; omega) (by have := HN.out; omega) h1 HS1.out
            rw [he, ← HP1.out] at h2
            refine HQ.out.fail (e := ckB cs) (g := fun _ c => bytesOf c.text) (cksB_snoc cs) textB_snoc hlt (fun y hy h3 h4 => ?_) b.chunks hb.len hb.each h2 hc
            rw [← HP2.out] at h3
            rw [← HU.out] at h4
            exact hu y hy h3 h4
          obtain ⟨cb, hco, hcb1, hcb2, hcr⟩ := crow_own HCW.out (by omega)
          subst hco
          have p0 := hcr.c0 l.length hlt
          have p1' := hcr.c1 l.length hlt
          simp only [Nat.zero_add] at p0 p1'
          have HK : Hid (cs[l.length].kind = 1 ∨ cs[l.length].kind = 2 ∨ cs[l.length].kind = 3) := HKD.out l.length hlt
          have HC : Hid (cs.getD l.length ⟨⟨#[]⟩, 0⟩ = cs[l.length]) := by show _ = _; rw [List.getD_eq_getElem?_getD, List.getElem?_eq_getElem hlt]; rfl
          clear hcr hS HCW hcb1 hcb2
          generalize hc : cs[l.length] = c at *
          clear hc
          go_upto_region 7 with fail
          have HSa : Hid (BrSt w (wr.alloc (.cells #[.string c.name, .int .i64 c.kind] 104)) g r q n kv l) := HS.out.below ((Below.refl _ _).alloc (Nat.le_refl _) _)
          have HRa : Hid ((wr.alloc (.cells #[.string c.name, .int .i64 c.kind] 104)).heap[r]? = some (rdr s p2)) := by show _ = _; rw [Below.heap_alloc _ _ r (by omega)]; exact HR.out
          have HQa : Hid ((wr.alloc (.cells #[.string c.name, .int .i64 c.kind] 104)).heap[q]? = some (rdr z u)) := by show _ = _; rw [Below.heap_alloc _ _ q (by omega)]; exact HQR.out
          have HXa : Hid ((wr.alloc (.cells #[.string c.name, .int .i64 c.kind] 104)).heap[wr.heap.size]? = some (.cells #[.string c.name, .int .i64 c.kind] 104 (0, 0))) := alloc_at wr _
          have hgg : g < wr.heap.size := lt_of_block HS.out.box
          generalize wr.alloc (.cells #[.string c.name, .int .i64 c.kind] 104) = Wa at *
          generalize wr.heap.size = gc at *
          clear p0 p1' HS HR HQR
          clear wr
          go_wp2_with fail
          refine (number_rd r p2 s _ hm2 hpl HRa.out).mono ?_
          rintro e w3 ⟨hK3, ⟨v, rfl, hv, hs3, hl3, hR3⟩ | ⟨m, rfl, hno⟩⟩
          rotate_left
          · have HNO : Hid (∀ b, BdGood cs b → Starts (bytesOf s) p (bandB cs b) → ¬ Starts (bytesOf z) t (textB b.chunks)) := HF.out (fun y hy h3 h4 => hno _ hy.n (starts_append.1 h3).1)
            have HK3 : Hid (Kp2 r q w w3) := HSa.out.kp.trans (Kp2.of_left hK3)
            clear hno hK3
            go_wp2
            exact ⟨rfl, HK3.out, .inr ⟨m, rfl, HNO.out⟩⟩
          · have HV : Hid (v < 2147483648) := hv
            have HS3 : Hid (Starts (bytesOf s) p2 (vint v)) := hs3
            have hv2 : v ≤ 2147483648 := by omega
            have HSb : Hid (BrSt w w3 g r q n kv l) := HSa.out.step hrl hql hg (Kp2.of_left hK3)
            have HQb : Hid (w3.heap[q]? = some (rdr z u)) := Kp.block hK3 HQa.out (by omega)
            have HXb : Hid (w3.heap[gc]? = some (.cells #[.string c.name, .int .i64 c.kind] 104 (0, 0))) := Kp.block hK3 HXa.out (by omega)
            obtain ⟨p3, hp3⟩ : ∃ p3, p3 = p2 + (vint v).length := ⟨_, rfl⟩
            have HP3 : Hid (p3 = p2 + (vint v).length) := hp3
            rw [← hp3] at hl3 hR3
            have HR3 : Hid (w3.heap[r]? = some (rdr s p3)) := hR3
            clear hs3 hp3 hK3 hR3 HSa HRa HQa HXa hv
            go_wp2_with fail
            refine (takeS_any q u v z _ hz2 htl hv2 HQb.out).mono ?_
            rintro e w4 ⟨hK4, ⟨x, rfl, hxv, hs4, hl4, hR4⟩ | ⟨m, rfl, hno⟩⟩
            rotate_left
            · have HNO : Hid (∀ b, BdGood cs b → Starts (bytesOf s) p (bandB cs b) → ¬ Starts (bytesOf z) t (textB b.chunks)) := HF.out (fun y hy h3 h4 => hno (bytesOf y.text) (by rw [bytesOf_length]; exact vint_one (by have := hy.n; omega) (by have := HV.out; omega) (starts_append.1 h3).1 HS3.out) h4)
              have HK4 : Hid (Kp2 r q w w4) := HSb.out.kp.trans (Kp2.of_right hK4)
              clear hno hK4
              go_wp2
              exact ⟨rfl, HK4.out, .inr ⟨m, rfl, HNO.out⟩⟩
            · have HS4 : Hid (Starts (bytesOf z) u (bytesOf x)) := hs4
              have HXV : Hid (x.size = v) := hxv
              have HSc : Hid (BrSt w w4 g r q n kv l) := HSb.out.step hrl hql hg (Kp2.of_right hK4)
              have HXc : Hid (w4.heap[gc]? = some (.cells #[.string c.name, .int .i64 c.kind] 104 (0, 0))) := Kp.block hK4 HXb.out (by omega)
              have HRc : Hid (w4.heap[r]? = some (rdr s p3)) := Kp.block hK4 HR3.out (by omega)
              have HQc : Hid (w4.heap[q]? = some (rdr z (u + v))) := hR4
              have HL4 : Hid (u + v ≤ z.size) := hl4
              have HRB : Hid (Calls Try.prog 148 #[.pointer (some ⟨r, 0, none⟩), .int .i64 c.kind] w4.drew (BRead w4.drew r p3 s c.kind)) := readBounds_any c.kind HK.out r p3 s w4.drew hm2 hl3 HRc.out
              clear hs4 hxv hK4 hR4 HSb HXb HR3 HQb hl4 hv2
              obtain ⟨t0, t1, t2⟩ := HSc.out.cells
              have x1 : w4.cell? ⟨gc, 1, none⟩ = some (.int .i64 c.kind) := by have := HXc.out; simp [World.cell?, this]
              have HC2 : Hid (c.kind = 1 ∨ c.kind = 2 ∨ c.kind = 3) := HK.out
              go_upto_region 8 with fail
              refine Un.begin_ (fun W => W.cell? ⟨g, 1, none⟩ = some kv ∧ W.cell? ⟨gc, 1, none⟩ = some (.int .i64 c.kind)) 11 (by kernel_rfl) ?_
              have hHeld : (fun W => W.cell? ⟨g, 1, none⟩ = some kv ∧ W.cell? ⟨gc, 1, none⟩ = some (.int .i64 c.kind)) w4.drew := ⟨t1, x1⟩
              refine Un.pick (i := 0) (v := ?_) rfl (by kernel_rfl) (by kernel_rfl) (by kernel_rfl) (by kernel_rfl) (fun _ _ _ h => h) (Or.inl ⟨by rfl, ?_⟩) (by assumption) ?_
              rotate_left
              · intro w _; go_simp
                try with_reducible rfl
              try simp only [Act.put, List.setIfInBounds_toArray, List.set_cons_zero, List.set_cons_succ]
              refine Un.take (i := 1) (v := ?_) rfl (by kernel_rfl) (by kernel_rfl) (by kernel_rfl) (by kernel_rfl) (by kernel_rfl) (by kernel_rfl) (fun _ _ _ h => h) (Or.inl ⟨by rfl, ?_⟩) (by assumption) ?_
              rotate_left
              · intro w hSw; (try dsimp only at hSw); go_simp
                try with_reducible rfl
              try simp only [Act.put, List.setIfInBounds_toArray, List.set_cons_zero, List.set_cons_succ]
              refine Un.pick (i := 2) (v := ?_) rfl (by kernel_rfl) (by kernel_rfl) (by kernel_rfl) (by kernel_rfl) (fun _ _ _ h => h) (Or.inl ⟨by rfl, ?_⟩) (by assumption) ?_
              rotate_left
              · intro w _; go_simp
                try with_reducible rfl
              try simp only [Act.put, List.setIfInBounds_toArray, List.set_cons_zero, List.set_cons_succ]
              refine Un.pick (i := 3) (v := ?_) rfl (by kernel_rfl) (by kernel_rfl) (by kernel_rfl) (by kernel_rfl) (fun _ _ _ h => h) (Or.inl ⟨by rfl, ?_⟩) (by assumption) ?_
              rotate_left
              · intro w _; go_simp
                try with_reducible rfl
              try simp only [Act.put, List.setIfInBounds_toArray, List.set_cons_zero, List.set_cons_succ]
              refine Un.pick (i := 4) (v := ?_) rfl (by kernel_rfl) (by kernel_rfl) (by kernel_rfl) (by kernel_rfl) (fun _ _ _ h => h) (Or.inl ⟨by rfl, ?_⟩) (by assumption) ?_
              rotate_left
              · intro w _; go_simp
                try with_reducible rfl
              try simp only [Act.put, List.setIfInBounds_toArray, List.set_cons_zero, List.set_cons_succ]
              refine Un.take (i := 5) (v := ?_) rfl (by kernel_rfl) (by kernel_rfl) (by kernel_rfl) (by kernel_rfl) (by kernel_rfl) (by kernel_rfl) (fun _ _ _ h => h) (Or.inl ⟨by rfl, ?_⟩) (by assumption) ?_
              rotate_left
              · intro w hSw; (try dsimp only at hSw); go_simp
                try with_reducible rfl
              try simp only [Act.put, List.setIfInBounds_toArray, List.set_cons_zero, List.set_cons_succ]
              refine Un.one (i := 6) (by kernel_rfl) rfl (fun K hK => ?_)
              rw [if_pos (by rfl)]
              go_simp
              go_at_call 148
              refine HRB.out.mono ?_
              rintro e w6 ⟨hK6, ⟨b, rfl, hbok, hs6, hl6, hR6⟩ | ⟨m, rfl, hno⟩⟩
              rotate_left
              · have hK6 := (Kp.of_below (r := r) ((Below.refl w4.heap.size w4).drew)).trans hK6
                have HNO : Hid (∀ b, BdGood cs b → Starts (bytesOf s) p (bandB cs b) → ¬ Starts (bytesOf z) t (textB b.chunks)) := HF.out (fun y hy h3 h4 => by
                  unfold ckB at h3
                  obtain ⟨a1, a2⟩ := starts_append.1 h3
                  have e1 := vint_one (by have := hy.n; omega) (by have := HV.out; omega) a1 HS3.out
                  rw [e1, HC.out, ← HP3.out] at a2
                  have hb := hy.b
                  rw [HC.out] at hb
                  exact hno _ hb a2)
                have HK6 : Hid (Kp2 r q w w6) := HSc.out.kp.trans (Kp2.of_left hK6)
                clear hno hK6
                exact ⟨rfl, HK6.out, .inr ⟨m, rfl, HNO.out⟩⟩
              · have hK6 := (Kp.of_below (r := r) ((Below.refl w4.heap.size w4).drew)).trans hK6
                unfold bval
                have HSd : Hid (BrSt w w6 g r q n kv l) := HSc.out.step hrl hql hg (Kp2.of_left hK6)
                have HRd : Hid (w6.heap[r]? = some (rdr s (p3 + (boundB c.kind b).length))) := hR6
                have HQd : Hid (w6.heap[q]? = some (rdr z (u + v))) := Kp.block hK6 HQc.out (by omega)
                have HXd : Hid (w6.heap[gc]? = some (.cells #[.string c.name, .int .i64 c.kind] 104 (0, 0))) := Kp.block hK6 HXc.out (by omega)
                have HB : Hid (BOk c.kind b) := hbok
                have HS6 : Hid (Starts (bytesOf s) p3 (boundB c.kind b)) := hs6
                have HL6 : Hid (p3 + (boundB c.kind b).length ≤ s.size) := hl6
                obtain ⟨-, y1, -⟩ := HSd.out.cells
                have y2 : w6.cell? ⟨gc, 1, none⟩ = some (.int .i64 c.kind) := by have := HXd.out; simp [World.cell?, this]
                refine hK.out _ _ (fun _ => ⟨y1, y2⟩) ?_
                clear hK K hHeld hK6 hR6 hbok hs6 hl6 t0 t1 t2 x1 HSc HXc HRc HQc HRB
                try simp only [Act.put, List.setIfInBounds_toArray, List.set_cons_zero, List.set_cons_succ]
                have hHeld : (fun W => W.cell? ⟨g, 1, none⟩ = some kv ∧ W.cell? ⟨gc, 1, none⟩ = some (.int .i64 c.kind)) w6 := ⟨y1, y2⟩
                refine Un.pick (i := 7) (v := ?_) rfl (by kernel_rfl) (by kernel_rfl) (by kernel_rfl) (by kernel_rfl) (fun _ _ _ h => h) (Or.inl ⟨by rfl, ?_⟩) (by assumption) ?_
                rotate_left
                · intro w _; go_simp
                  try with_reducible rfl
                try simp only [Act.put, List.setIfInBounds_toArray, List.set_cons_zero, List.set_cons_succ]
                refine Un.one (i := 8) (by kernel_rfl) rfl (fun K hK => ?_)
                rw [if_pos (by rfl)]
                go_simp
                have HSe : Hid (BrSt w (w6.alloc (.cells (kcell ⟨x, b⟩).toArray 156)) g r q n kv l) := HSd.out.below ((Below.refl _ _).alloc (Nat.le_refl _) _)
                have y3 : (w6.alloc (.cells (kcell ⟨x, b⟩).toArray 156)).cell? ⟨gc, 1, none⟩ = some (.int .i64 c.kind) := (((Below.refl w6.heap.size w6).alloc (Nat.le_refl _) _).cell (p := ⟨gc, 1, none⟩) (lt_of_block HXd.out)).trans y2
                refine hK.out _ _ (fun _ => ⟨HSe.out.cells.2.1, y3⟩) ?_
                clear hK K hHeld
                try simp only [Act.put, List.setIfInBounds_toArray, List.set_cons_zero, List.set_cons_succ]
                refine Un.one (i := 9) (by kernel_rfl) rfl (fun K hK => ?_)
                have hown := HSd.out.own
                have hz1 : w.heap.size ≤ w6.heap.size := HSd.out.kp.size
                refine step_append_lies _ (by rfl) _ _ 150 (by rfl) w.heap.size 156 j0 _ 8 88 Try.underlying150 hj hy0 hy1 hy2 rfl (by decide) kv l.length _ (by rfl) (hown.alloc _) ⟨w6.heap.size, 0, none⟩ 1 1 (kcell ⟨x, b⟩) (by rfl) rfl (eight_at w6 ⟨x, b⟩ _) (eight_one _) (by decide) (by unfold maxLen; omega) (by omega) (by simp; omega) _ rfl ?_
                intro g2 cap2 w7 hown2 hgr2 hat2 hlt2
                have hg2 := Grew.lies (n := l.length + 1) (cap := cap2) hgr2 hat2
                have ho2 : w7.ownsRow w.heap.size 156 8 (.slice (some ⟨g2, 0, none⟩) (l.length + 1) cap2) (l ++ [(⟨x, b⟩ : Chk)]).length (kcells (l ++ [(⟨x, b⟩ : Chk)])) := by
                  unfold kcells at hown2 ⊢
                  rw [List.flatMap_append, List.flatMap_singleton, List.length_append]
                  exact hown2
                have HF2 : Hid (BrSt w (w7.setCell ⟨g, 1, none⟩ (.slice (some ⟨g2, 0, none⟩) (l.length + 1) cap2)) g r q n (.slice (some ⟨g2, 0, none⟩) (l.length + 1) cap2) (l ++ [(⟨x, b⟩ : Chk)])) := HSd.out.grew hg hg2 ho2
                have HRf : Hid ((w7.setCell ⟨g, 1, none⟩ (.slice (some ⟨g2, 0, none⟩) (l.length + 1) cap2)).heap[r]? = some (rdr s (p3 + (boundB c.kind b).length))) := HSd.out.reader hg hg2 hrl HRd.out
                have HQf : Hid ((w7.setCell ⟨g, 1, none⟩ (.slice (some ⟨g2, 0, none⟩) (l.length + 1) cap2)).heap[q]? = some (rdr z (u + v))) := HSd.out.reader hg hg2 hql HQd.out
                obtain ⟨z0, z1⟩ := HSd.out.kept hg2
                have z2 : w7.cell? ⟨gc, 1, none⟩ = some (.int .i64 c.kind) := by
                  have := (hg2.by_.block _ (lt_of_block HXd.out) (own_far HSd.out.own HXd.out (by decide))).trans HXd.out
                  simp [World.cell?, this]
                refine hK.out _ _ (fun _ => ⟨z0, z2⟩) ?_
                clear hK K hown hown2 hgr2 hat2 hlt2 ho2 hg2
                try simp only [Act.put, List.setIfInBounds_toArray, List.set_cons_zero, List.set_cons_succ]
                have hHeld : (fun W => W.cell? ⟨g, 1, none⟩ = some kv ∧ W.cell? ⟨gc, 1, none⟩ = some (.int .i64 c.kind)) w7 := ⟨z0, z2⟩
                refine Un.pick (i := 10) (v := ?_) rfl (by kernel_rfl) (by kernel_rfl) (by kernel_rfl) (by kernel_rfl) (fun _ _ _ h => h) (Or.inl ⟨by rfl, ?_⟩) (by assumption) ?_
                rotate_left
                · intro w _; go_simp
                  try with_reducible rfl
                try simp only [Act.put, List.setIfInBounds_toArray, List.set_cons_zero, List.set_cons_succ]
                refine Un.one (i := 11) (by kernel_rfl) rfl (fun K hK => ?_)
                rw [if_pos (by rfl)]
                go_simp
                refine hK.out _ _ (fun h => absurd h (by decide)) ?_
                clear hK K hHeld z0 z1 z2 y1 y2 y3
                refine Un.done (by kernel_rfl) ?_ _
                try simp only [Act.put, List.setIfInBounds_toArray, List.set_cons_zero, List.set_cons_succ]
                clear HSd HSe HRd HQd HXd
                generalize w7.setCell ⟨g, 1, none⟩ (.slice (some ⟨g2, 0, none⟩) (l.length + 1) cap2) = W9 at *
                generalize Value.slice (some ⟨g2, 0, none⟩) (l.length + 1) cap2 = kv9 at *
                have HCK : Hid (CkOk cs l.length ⟨x, b⟩) := ⟨by have := HXV.out; have := HV.out; show x.size < _; omega, by rw [HC.out]; exact HB.out⟩
                have HST : Hid (Starts (bytesOf s) p2 (ckB cs l ⟨x, b⟩)) := by
                  show Starts _ _ (vint x.size ++ boundB (cs.getD l.length ⟨⟨#[]⟩, 0⟩).kind b)
                  rw [HXV.out, HC.out]
                  exact starts_append.2 ⟨HS3.out, by rw [← HP3.out]; exact HS6.out⟩
                have HLC : Hid (p1 + (cksB cs (l ++ [(⟨x, b⟩ : Chk)])).length = p3 + (boundB c.kind b).length) := by
                  show _ = _
                  rw [cksB_snoc, List.length_append]
                  have h1 : (ckB cs l ⟨x, b⟩).length = (vint v).length + (boundB c.kind b).length := by
                    show (vint x.size ++ boundB (cs.getD l.length ⟨⟨#[]⟩, 0⟩).kind b).length = _
                    rw [HXV.out, HC.out, List.length_append]
                  have h2 := HP2.out
                  have h3 := HP3.out
                  omega
                have HLT : Hid (t + (textB (l ++ [(⟨x, b⟩ : Chk)])).length = u + v) := by
                  show _ = _
                  rw [textB_snoc, List.length_append, bytesOf_length]
                  have h1 := HU.out
                  have h2 := HXV.out
                  simp only
                  omega
                have HMO : Hid (Q2 (cksB cs) textB (CkOk cs) (bytesOf s) p1 (bytesOf z) t cs.length (l ++ [(⟨x, b⟩ : Chk)])) := by
                  refine HQ.out.more (e := ckB cs) (g := fun _ c => bytesOf c.text) (cksB_snoc cs) textB_snoc hlt HCK.out (by rw [← HP2.out]; exact HST.out) (by rw [← HU.out]; exact HS4.out) (fun y hy h3 h4 => ?_)
                  rw [← HP2.out] at h3
                  rw [← HU.out] at h4
                  exact ck_one (by rw [HC.out]; exact HC2.out) HCK.out hy HST.out h3 HS4.out h4
                go_wp2_with fail
                go_roundw
                case rel => exact ⟨l ++ [(⟨x, b⟩ : Chk)], _, by rw [List.length_append]; go_num, HMO.out, HF2.out, by rw [HLC.out]; exact HL6.out, by rw [HLC.out]; exact HRf.out, by rw [HLT.out]; exact HL4.out, by rw [HLT.out]; exact HQf.out⟩
                case measure => simp [intOf]; omega
        · have HD := HQ.out.done hlt
          obtain ⟨ko, kcap, hkv0⟩ := own_form hS.own
          rw [HD.1] at hkv0
          subst hkv0
          generalize hkv : Value.slice ko cs.length kcap = kv at hS
          obtain ⟨t0, t1, -⟩ := hS.cells
          have h1 := heap_setCell_same wr w.heap.size 0 _ _ (.int .i64 (n : Int)) hS.res
          have h2 := heap_setCell_same _ w.heap.size 1 _ _ kv h1
          have HO : Hid (((wr.setCell ⟨w.heap.size, 0, none⟩ (.int .i64 (n : Int))).setCell ⟨w.heap.size, 1, none⟩ kv).ownsRow w.heap.size 156 8 kv l.length (kcells l)) := by
            have a1 := hS.own.kept (box_set_grown wr w.heap.size 0 (.int .i64 (n : Int))) (.inr (own_far hS.own hS.res (by decide)).symm)
            exact a1.kept (box_set_grown _ w.heap.size 1 kv) (.inr (own_far a1 h1 (by decide)).symm)
          have HKF : Hid (Kp2 r q w ((wr.setCell ⟨w.heap.size, 0, none⟩ (.int .i64 (n : Int))).setCell ⟨w.heap.size, 1, none⟩ kv)) := (hS.kp.grown (box_set_grown wr w.heap.size 0 _) (fun g' e => by cases e; exact Nat.le_refl _)).grown (box_set_grown _ w.heap.size 1 _) (fun g' e => by cases e; exact Nat.le_refl _)
          have HRf : Hid (((wr.setCell ⟨w.heap.size, 0, none⟩ (.int .i64 (n : Int))).setCell ⟨w.heap.size, 1, none⟩ kv).heap[r]? = some (rdr s p2)) := by
            show _ = _
            rw [heap_setCell_other _ _ _ _ (by simp; omega), heap_setCell_other _ _ _ _ (by simp; omega)]; exact HR.out
          have HQf : Hid (((wr.setCell ⟨w.heap.size, 0, none⟩ (.int .i64 (n : Int))).setCell ⟨w.heap.size, 1, none⟩ kv).heap[q]? = some (rdr z u)) := by
            show _ = _
            rw [heap_setCell_other _ _ _ _ (by simp; omega), heap_setCell_other _ _ _ _ (by simp; omega)]; exact HQR.out
          have r0 : wr.cell? ⟨w.heap.size, 0, none⟩ = some (.int .i64 0) := by have := hS.res; simp [World.cell?, this]
          have r1 : wr.cell? ⟨w.heap.size, 1, none⟩ = some (.slice none 0 0) := by have := hS.res; simp [World.cell?, this]
          have f0 : wr.frozen? ⟨w.heap.size, 0, none⟩ = false := by have := hS.res; simp [World.frozen?, this]
          have f1 : wr.frozen? ⟨w.heap.size, 1, none⟩ = false := by have := hS.res; simp [World.frozen?, this]
          have s0 : ((wr.setCell ⟨w.heap.size, 0, none⟩ (.int .i64 (n : Int))).setCell ⟨w.heap.size, 1, none⟩ kv).cell? ⟨w.heap.size, 0, none⟩ = some (.int .i64 (n : Int)) := by simp [World.cell?, h2]
          have s1 : ((wr.setCell ⟨w.heap.size, 0, none⟩ (.int .i64 (n : Int))).setCell ⟨w.heap.size, 1, none⟩ kv).cell? ⟨w.heap.size, 1, none⟩ = some kv := by simp [World.cell?, h2]
          have HB1 : Hid ((bandB cs ⟨n, l⟩).length + p = p2 ∧ Starts (bytesOf s) p (bandB cs ⟨n, l⟩)) := by
            have g1 := HP1.out
            have g2 := HP2.out
            refine ⟨by show (vint n ++ cksB cs l).length + p = p2; rw [List.length_append]; omega, ?_⟩
            exact starts_append.2 ⟨HS1.out, by rw [← g1]; exact HQ.out.st⟩
          have HUN : Hid (∀ b', BdGood cs b' → Starts (bytesOf s) p (bandB cs b') → Starts (bytesOf z) t (textB b'.chunks) → b' = ⟨n, l⟩) := fun b' hb' hs hc => by
            obtain ⟨g1, g2⟩ := starts_append.1 hs
            have he := vint_one (by have := hb'.hi; omega) (by have := HN.out; omega) g1 HS1.out
            rw [he, ← HP1.out] at g2
            have hl := HD.2 b'.chunks hb'.len hb'.each g2 hc
            obtain ⟨a, b⟩ := b'
            simp only at he hl
            rw [he, hl]
          have HGD : Hid (BdGood cs ⟨n, l⟩) := ⟨HIN.out.1, HIN.out.2, HD.1, HQ.out.oks⟩
          have HSC : Hid (Starts (bytesOf z) t (textB l)) := HQ.out.sc
          clear h1 h2 hS HD hle hlt
          subst hkv
          have hnl : l.length = cs.length := HGD.out.len
          go_wp2
          simp [bodyPost, results, Try.results134, go_sem, s0, s1]
          trace_state
          exact ⟨HKF.out, .inl ⟨⟨n, l⟩, _, rfl, HGD.out, HB1.out.2, by have := HB1.out.1; omega, by have := HB1.out.1; rw [show p + (bandB cs ⟨n, l⟩).length = p2 by omega]; exact HRf.out, HSC.out, by rw [← HU.out]; exact htl, by rw [← HU.out]; exact HQf.out, HO.out, HUN.out⟩⟩
end Go.Proofs.Ytjidbonhhpkljaa.Ec

/- A footer, with the chunks: the contract of readFooter. -/
set_option linter.unusedVariables false
set_option linter.unusedSimpArgs false
namespace Go.Proofs.Ytjidbonhhpkljaa.Ec
open Go.RowKit Go.Proofs.Ytjidbonhhpkljaa.Pk Go.Proofs.Ytjidbonhhpkljaa.Pm
/-- Where readFooter stands. -/
structure FrSt (w W : World) (g r q : Nat) (l : List (Col × Int)) (co eo : Option Addr) (cc ec : Nat) (bv : Value) (L : List (Bd × Value)) : Prop where
  res : W.heap[w.heap.size]? = some (.cells #[.slice none 0 0, .slice none 0 0, .slice none 0 0] 110 (0, 0))
  box : W.heap[g]? = some (.cells #[.slice co l.length cc, .slice eo l.length ec, bv] 110 (0, 0))
  cols : W.ownsRow w.heap.size 104 2 (.slice co l.length cc) l.length (ccells (l.map Prod.fst))
  encs : W.ownsRow w.heap.size 3 1 (.slice eo l.length ec) l.length (icells (l.map Prod.snd))
  bands : Bands W w.heap.size bv L
  kp : Kp2 r q w W
theorem FrSt.step {w W W1 : World} {g r q : Nat} {l : List (Col × Int)} {co eo : Option Addr} {cc ec : Nat} {bv : Value} {L : List (Bd × Value)} (h : FrSt w W g r q l co eo cc ec bv L) (hr : r < w.heap.size) (hq : q < w.heap.size) (hg : w.heap.size < g) (k : Kp2 r q W W1) : FrSt w W1 g r q l co eo cc ec bv L :=
  ⟨k.keep h.res (by omega) (by omega), k.keep h.box (by omega) (by omega), k.own h.cols hr hq, k.own h.encs hr hq, ⟨k.own h.bands.own hr hq, fun p hp => k.own (h.bands.each p hp) hr hq⟩, h.kp.trans k⟩
theorem FrSt.below {w W W1 : World} {g r q : Nat} {l : List (Col × Int)} {co eo : Option Addr} {cc ec : Nat} {bv : Value} {L : List (Bd × Value)} (h : FrSt w W g r q l co eo cc ec bv L) (hb : Below W.heap.size W W1) : FrSt w W1 g r q l co eo cc ec bv L :=
  ⟨(hb.block _ (lt_of_block h.res)).trans h.res, (hb.block _ (lt_of_block h.box)).trans h.box, ownsRow_below h.cols hb, ownsRow_below h.encs hb, h.bands.below hb, h.kp.trans (Kp2.of_below hb)⟩
theorem FrSt.cells {w W : World} {g r q : Nat} {l : List (Col × Int)} {co eo : Option Addr} {cc ec : Nat} {bv : Value} {L : List (Bd × Value)} (h : FrSt w W g r q l co eo cc ec bv L) :
    W.cell? ⟨g, 0, none⟩ = some (.slice co l.length cc) ∧ W.cell? ⟨g, 1, none⟩ = some (.slice eo l.length ec) ∧ W.cell? ⟨g, 2, none⟩ = some bv ∧ W.frozen? ⟨g, 2, none⟩ = false := by
  have h2 := h.box
  exact ⟨by simp [World.cell?, h2], by simp [World.cell?, h2], by simp [World.cell?, h2], by simp [World.frozen?, h2]⟩
theorem FrSt.kept {w W W1 : World} {g r q : Nat} {l : List (Col × Int)} {co eo : Option Addr} {cc ec : Nat} {bv bv' : Value} {L : List (Bd × Value)} (h : FrSt w W g r q l co eo cc ec bv L) (hg : Grew W W1 bv bv') :
    W1.cell? ⟨g, 2, none⟩ = some bv ∧ W1.frozen? ⟨g, 2, none⟩ = false := by
  have h3 := (hg.by_.block _ (lt_of_block h.box) (own_far h.bands.own h.box (by decide))).trans h.box
  exact ⟨by simp [World.cell?, h3], by simp [World.frozen?, h3]⟩
theorem FrSt.grew {w W W1 : World} {g r q : Nat} {l : List (Col × Int)} {co eo : Option Addr} {cc ec : Nat} {bv bv' : Value} {L : List (Bd × Value)} (h : FrSt w W g r q l co eo cc ec bv L) (hgg : w.heap.size < g) (hg : Grew W W1 bv bv') {b : Bd} {kv : Value} (hk : W.ownsRow w.heap.size 156 8 kv b.chunks.length (kcells b.chunks))
    (ho : W1.ownsRow w.heap.size 152 2 bv' (L ++ [(b, kv)]).length (dcells (L ++ [(b, kv)]))) : FrSt w (W1.setCell ⟨g, 2, none⟩ bv') g r q l co eo cc ec bv' (L ++ [(b, kv)]) := by
  have h2 := (hg.by_.block _ (lt_of_block h.res) (own_far h.bands.own h.res (by decide))).trans h.res
  have h3 := (hg.by_.block _ (lt_of_block h.box) (own_far h.bands.own h.box (by decide))).trans h.box
  have h4 := heap_setCell_same W1 g 2 _ _ bv' h3
  have c1 := kept_grew h.cols hg (apart_of h.cols h.bands.own (by decide))
  have c2 := kept_grew h.encs hg (apart_of h.encs h.bands.own (by decide))
  refine ⟨?_, h4, c1.kept (box_set_grown W1 _ 2 bv') (.inr (own_far c1 h3 (by decide)).symm), c2.kept (box_set_grown W1 _ 2 bv') (.inr (own_far c2 h3 (by decide)).symm), (h.bands.snoc hg hk ho).put h3 (by decide) (by decide) _ _, ?_⟩
  · rw [heap_setCell_other _ _ _ _ (by simp; omega)]; exact h2
  · exact (h.kp.grown hg.by_ (fun g' hg' => (h.bands.own.lt g' hg').1)).grown (box_set_grown W1 g 2 bv') (fun g' e => by cases e; omega)
theorem FrSt.reader {w W W1 : World} {g r q : Nat} {l : List (Col × Int)} {co eo : Option Addr} {cc ec : Nat} {bv bv' : Value} {L : List (Bd × Value)} (h : FrSt w W g r q l co eo cc ec bv L) (hgg : w.heap.size < g) (hg : Grew W W1 bv bv') {i : Nat} {o : Obj} (hi : i < w.heap.size) (hb : W.heap[i]? = some o) : (W1.setCell ⟨g, 2, none⟩ bv').heap[i]? = some o := by
  rw [heap_setCell_other _ _ _ _ (by simp; omega), hg.by_.block i (lt_of_block hb) (fun e => by have := (h.bands.own.lt i e.symm).1; omega)]
  exact hb
theorem starts_all {B xs : List Nat} (h : Starts B 0 xs) (hl : B.length ≤ xs.length) : B = xs := by
  have h2 : xs <+: B := by simpa [Starts] using h
  exact (h2.eq_of_length_le hl).symm
theorem bdsB_snoc (cs : List Col) (bs : List Bd) (b : Bd) : bandsB cs (bs ++ [b]) = bandsB cs bs ++ bandB cs b := by
  unfold bandsB
  rw [List.flatMap_append, List.flatMap_singleton]
theorem bandB_pos (cs : List Col) (b : Bd) : 1 ≤ (bandB cs b).length := by unfold bandB; rw [List.length_append]; have := vint_pos b.rows; omega
theorem bandsB_ge (cs : List Col) (bs : List Bd) : bs.length ≤ (bandsB cs bs).length := by
  induction bs with
  | nil => simp
  | cons b r ih =>
    have := bandB_pos cs b
    unfold bandsB at ih ⊢
    rw [List.flatMap_cons, List.length_append, List.length_cons]
    omega
theorem goods {cs : List Col} {bs : List Bd} (h : ∀ b ∈ bs, BdGood cs b) : AllI (fun _ => BdGood cs) bs := fun i hi => h _ (List.getElem_mem hi)
theorem goods' {cs : List Col} {bs : List Bd} (h : AllI (fun _ => BdGood cs) bs) : ∀ b ∈ bs, BdGood cs b := fun b hb => by
  obtain ⟨i, hi, rfl⟩ := List.getElem_of_mem hb
  exact h i hi
theorem kinds_ok {l : List (Col × Int)} (h : PlOk l) : ∀ i (h : i < (l.map Prod.fst).length), (l.map Prod.fst)[i].kind = 1 ∨ (l.map Prod.fst)[i].kind = 2 ∨ (l.map Prod.fst)[i].kind = 3 := by
  intro i hi
  have := (h.1.2.2 i hi).1
  simp only [colOk, isKindB, Bool.and_eq_true, decide_eq_true_eq] at this
  omega
/-- What readFooter answers. -/
def RFoot (w : World) (r : Nat) (s : ByteArray) (q : Nat) (z : ByteArray) (e : Ending) (w' : World) : Prop :=
  Kp2 r q w w' ∧ ((∃ (l : List (Col × Int)) (bs : List Bd) (L : List (Bd × Value)) (co eo : Option Addr) (cc ec : Nat) (bv : Value), e = .returned (.agg #[.slice co l.length cc, .slice eo l.length ec, bv]) ∧ FOk l bs ∧ L.map Prod.fst = bs ∧ Starts (bytesOf s) 0 (ftB l bs) ∧ (ftB l bs).length ≤ s.size ∧ w'.heap[r]? = some (rdr s (ftB l bs).length) ∧ bytesOf z = bodyB bs ∧
        w'.ownsRow w.heap.size 104 2 (.slice co l.length cc) l.length (ccells (l.map Prod.fst)) ∧ w'.ownsRow w.heap.size 3 1 (.slice eo l.length ec) l.length (icells (l.map Prod.snd)) ∧ Bands w' w.heap.size bv L ∧ (∀ l' bs', FOk l' bs' → Starts (bytesOf s) 0 (ftB l' bs') → bytesOf z = bodyB bs' → l' = l ∧ bs' = bs)) ∨
    (∃ m, e = .panicked (badAt m) ∧ ∀ l bs, FOk l bs → Starts (bytesOf s) 0 (ftB l bs) → bytesOf z ≠ bodyB bs))

set_option maxRecDepth 100000 in
set_option maxHeartbeats 8000000 in
theorem readFooter_any (r q : Nat) (s z : ByteArray) (w : World) (hrq : r ≠ q) (hm : s.size ≤ 65536) (hz : z.size ≤ 65536) (h : w.heap[r]? = some (rdr s 0)) (h2 : w.heap[q]? = some (rdr z 0)) :
    Calls Try.prog 99 #[.pointer (some ⟨r, 0, none⟩), .pointer (some ⟨q, 0, none⟩)] w (RFoot w r s q z) := by
  obtain ⟨j0, hj, hy0, hy1, hy2⟩ := info_parts Try.info152
  have hrl : r < w.heap.size := lt_of_block h
  have hql : q < w.heap.size := lt_of_block h2
  have hm2 : s.size ≤ maxLen := by unfold maxLen; omega
  have hz2 : z.size ≤ maxLen := by unfold maxLen; omega
  have HR0 : Hid ((w.alloc (.cells #[.slice none 0 0, .slice none 0 0, .slice none 0 0] 110)).heap[r]? = some (rdr s 0)) := by
    show _ = _
    rw [Below.heap_alloc _ _ r hrl]; exact h
  have HQ0 : Hid ((w.alloc (.cells #[.slice none 0 0, .slice none 0 0, .slice none 0 0] 110)).heap[q]? = some (rdr z 0)) := by
    show _ = _
    rw [Below.heap_alloc _ _ q hql]; exact h2
  have HKA : Hid (Kp2 r q w (w.alloc (.cells #[.slice none 0 0, .slice none 0 0, .slice none 0 0] 110))) := (Kp2.refl r q w).alloc _
  clear h h2
  go_enter Try.func99, Try.ntmps99
  go_wp2_with fail
  refine (readColumns_any r 0 s _ hm (Nat.zero_le _) HR0.out).mono ?_
  rintro e w1 ⟨hK1, ⟨l, cv, ev, rfl, hpl, hs1, hl1, hR1, hcv, hev, hun1⟩ | ⟨m, rfl, hno⟩⟩
  rotate_left
  · have HNO : Hid (∀ l bs, FOk l bs → Starts (bytesOf s) 0 (ftB l bs) → bytesOf z ≠ bodyB bs) := fun l bs hf hs => (hno l hf.pl (starts_append.1 hs).1).elim
    have HK1 : Hid (Kp2 r q w w1) := HKA.out.trans (Kp2.of_left hK1)
    clear hno hK1
    go_wp2
    exact ⟨rfl, HK1.out, .inr ⟨m, rfl, HNO.out⟩⟩
  · obtain ⟨co, cc, rfl⟩ := own_form hcv
    obtain ⟨eo, ec, rfl⟩ := own_form hev
    have hQ1 : w1.heap[q]? = some (rdr z 0) := Kp.block hK1 HQ0.out (by omega)
    have hS : FrSt w (w1.alloc (.cells #[.slice co l.length cc, .slice eo l.length ec, .slice none 0 0] 110)) w1.heap.size r q l co eo cc ec (.slice none 0 0) [] := by
      refine ⟨?_, alloc_at w1 _, (ownsRow_base hcv (by simp)).alloc _, (ownsRow_base hev (by simp)).alloc _, ⟨World.ownsRow_nil _ _ _ _, fun p hp => by simp at hp⟩, (HKA.out.trans (Kp2.of_left hK1)).alloc _⟩
      have := Kp.block hK1 (heap_alloc_new w (.cells #[.slice none 0 0, .slice none 0 0, .slice none 0 0] 110)) (by omega)
      exact alloc_old _ (by simpa using lt_of_block this) this
    have hg : w.heap.size < w1.heap.size := by have := hK1.size; simp at this; omega
    obtain ⟨p1, hp1⟩ : ∃ p1, p1 = (plB l).length := ⟨_, rfl⟩
    rw [Nat.zero_add, ← hp1] at hl1 hR1
    have HP1 : Hid (p1 = (plB l).length) := hp1
    have HS1 : Hid (Starts (bytesOf s) 0 (plB l)) := hs1
    have HPL : Hid (PlOk l) := hpl
    have HUN1 : Hid (∀ l', PlOk l' → Starts (bytesOf s) 0 (plB l') → l' = l) := hun1
    have hRW : (w1.alloc (.cells #[.slice co l.length cc, .slice eo l.length ec, .slice none 0 0] 110)).heap[r]? = some (rdr s p1) := by rw [Below.heap_alloc _ _ r (by omega)]; exact hR1
    have hQW : (w1.alloc (.cells #[.slice co l.length cc, .slice eo l.length ec, .slice none 0 0] 110)).heap[q]? = some (rdr z 0) := by rw [Below.heap_alloc _ _ q (by omega)]; exact hQ1
    have hl8 : l.length ≤ 8 := by have := hpl.1.2.1; simpa using this
    have HCL : Hid ((l.map Prod.fst).length ≤ 8) := by show _ ≤ _; simpa using hl8
    go_upto_region 3 with fail
    generalize w1.alloc (.cells #[.slice co l.length cc, .slice eo l.length ec, .slice none 0 0] 110) = W0 at *
    generalize w1.heap.size = g at *
    have HRW : Hid (W0.heap[r]? = some (rdr s p1)) := hRW
    have HQW : Hid (W0.heap[q]? = some (rdr z 0)) := hQW
    have HS : Hid (FrSt w W0 g r q l co eo cc ec (.slice none 0 0) []) := hS
    clear hs1 hp1 hRW hQW hS hpl hun1 hcv hev hK1 hR1 hQ1 HR0 HQ0 HKA hl8
    clear w1
    go_wp2_with fail
    refine (number_rd r p1 s _ hm2 hl1 HRW.out).mono ?_
    rintro e w2 ⟨hK2, ⟨n, rfl, hn, hs2, hl2, hR2⟩ | ⟨m, rfl, hno⟩⟩
    rotate_left
    · have HNO : Hid (∀ l bs, FOk l bs → Starts (bytesOf s) 0 (ftB l bs) → bytesOf z ≠ bodyB bs) := fun l' bs hf hs _ => by
        obtain ⟨h1, h2⟩ := starts_append.1 hs
        obtain rfl := HUN1.out l' hf.pl h1
        rw [Nat.zero_add, ← HP1.out] at h2
        refine hno _ ?_ (starts_append.1 h2).1
        have h3 := rowsN_ge bs (fun b hb => (hf.bands b hb).lo)
        have := hf.rows
        omega
      have HK2 : Hid (Kp2 r q w w2) := HS.out.kp.trans (Kp2.of_left hK2)
      clear hno hK2
      go_wp2
      exact ⟨rfl, HK2.out, .inr ⟨m, rfl, HNO.out⟩⟩
    · have HSb : Hid (FrSt w w2 g r q l co eo cc ec (.slice none 0 0) []) := HS.out.step hrl hql hg (Kp2.of_left hK2)
      have HQb : Hid (w2.heap[q]? = some (rdr z 0)) := Kp.block hK2 HQW.out (by omega)
      obtain ⟨p2, hp2⟩ : ∃ p2, p2 = p1 + (vint n).length := ⟨_, rfl⟩
      have HP2 : Hid (p2 = p1 + (vint n).length) := hp2
      rw [← hp2] at hl2 hR2
      have HRb : Hid (w2.heap[r]? = some (rdr s p2)) := hR2
      have HS2 : Hid (Starts (bytesOf s) p1 (vint n)) := hs2
      have HN : Hid (n < 2147483648) := hn
      have hni : (n : Int) < 2147483648 := by omega
      have HFT : Hid (∀ l' bs', FOk l' bs' → Starts (bytesOf s) 0 (ftB l' bs') → l' = l ∧ bs'.length = n ∧ Starts (bytesOf s) p2 (bandsB (l.map Prod.fst) bs')) := fun l' bs' hf hs => by
        obtain ⟨h1, h2⟩ := starts_append.1 hs
        obtain rfl := HUN1.out l' hf.pl h1
        rw [Nat.zero_add, ← HP1.out] at h2
        obtain ⟨h3, h4⟩ := starts_append.1 h2
        have h5 := rowsN_ge bs' (fun b hb => (hf.bands b hb).lo)
        have h6 := hf.rows
        have he := vint_one (by omega) (by have := HN.out; omega) h3 HS2.out
        rw [he, ← HP2.out] at h4
        exact ⟨rfl, he, h4⟩
      clear hs2 hp2 hK2 hR2 HS HRW HQW hn
      go_wp2_with fail
      go_loopw [18] (fun i wr => ∃ (bs : List Bd) (L : List (Bd × Value)) (bv : Value), i = .int .i64 (bs.length : Int) ∧ L.map Prod.fst = bs ∧ Q2 (bandsB (l.map Prod.fst)) bodyB (fun _ => BdGood (l.map Prod.fst)) (bytesOf s) p2 (bytesOf z) 0 n bs ∧ FrSt w wr g r q l co eo cc ec bv L ∧ p2 + (bandsB (l.map Prod.fst) bs).length ≤ s.size ∧ wr.heap[r]? = some (rdr s (p2 + (bandsB (l.map Prod.fst) bs).length)) ∧ (bodyB bs).length ≤ z.size ∧ wr.heap[q]? = some (rdr z (bodyB bs).length)) (fun i _ => n - (intOf i).toNat)
      case atStart => exact ⟨[], [], _, rfl, rfl, Q2.zero rfl rfl, HSb.out, by simpa [bandsB] using hl2, by simpa [bandsB] using HRb.out, by simp [bodyB], by simpa [bodyB] using HQb.out⟩
      case round =>
        clear HSb HRb HQb
        obtain ⟨bs, L, bv, rfl, hL, hQ, hS, hpl, hR, htl, hQR⟩ := hrel
        have HQ : Hid (Q2 (bandsB (l.map Prod.fst)) bodyB (fun _ => BdGood (l.map Prod.fst)) (bytesOf s) p2 (bytesOf z) 0 n bs) := hQ
        have HS : Hid (FrSt w wr g r q l co eo cc ec bv L) := hS
        have HL : Hid (L.map Prod.fst = bs) := hL
        have HLn : Hid (L.length = bs.length) := by show _ = _; rw [← hL, List.length_map]
        have hb6 : bs.length ≤ 65536 := by have := bandsB_ge (l.map Prod.fst) bs; omega
        obtain ⟨p3, hp3⟩ : ∃ p3, p3 = p2 + (bandsB (l.map Prod.fst) bs).length := ⟨_, rfl⟩
        obtain ⟨u, hu⟩ : ∃ u, u = (bodyB bs).length := ⟨_, rfl⟩
        have HP3 : Hid (p3 = p2 + (bandsB (l.map Prod.fst) bs).length) := hp3
        have HU : Hid (u = (bodyB bs).length) := hu
        rw [← hp3] at hpl hR
        rw [← hu] at htl hQR
        have HR : Hid (wr.heap[r]? = some (rdr s p3)) := hR
        have HQR : Hid (wr.heap[q]? = some (rdr z u)) := hQR
        have hle : bs.length ≤ n := hQ.le
        have hsz : w.heap.size ≤ wr.heap.size := hS.kp.size
        clear hQ hp3 hu hR hQR hL
        by_cases hlt : bs.length < n
        · have HF : Hid ((∀ y, BdGood (l.map Prod.fst) y → Starts (bytesOf s) p3 (bandB (l.map Prod.fst) y) → ¬ Starts (bytesOf z) u (textB y.chunks)) → ∀ l bs, FOk l bs → Starts (bytesOf s) 0 (ftB l bs) → bytesOf z ≠ bodyB bs) := fun hu l' bs' hf hs hc => by
            obtain ⟨h1, h2, h3⟩ := HFT.out l' bs' hf hs
            rw [h1] at hf
            refine HQ.out.fail (e := fun _ y => bandB (l.map Prod.fst) y) (g := fun _ y => textB y.chunks) (bdsB_snoc _) bodyB_snoc hlt (fun y hy h4 h5 => ?_) bs' h2 (goods hf.bands) h3 (starts_of_eq hc.symm)
            rw [← HP3.out] at h4
            rw [Nat.zero_add, ← HU.out] at h5
            exact hu y hy h4 h5
          have HRB : Hid (Calls Try.prog 134 #[.pointer (some ⟨r, 0, none⟩), .pointer (some ⟨q, 0, none⟩), .slice co l.length cc] wr.drew (RBnd (l.map Prod.fst) wr.drew r p3 s q u z)) := readBand_any (l.map Prod.fst) _ r p3 q u w.heap.size s z wr.drew hrq hm hz hpl htl HR.out HQR.out hrl hql (by rw [List.length_map]; exact (ownsRow_below HS.out.cols ((Below.refl wr.heap.size wr).drew))) HCL.out (kinds_ok HPL.out)
          obtain ⟨t0, t1, t2, t3⟩ := hS.cells
          clear hS
          go_upto_region 5 with fail
          refine Un.begin_ (fun W => W.cell? ⟨g, 2, none⟩ = some bv) 9 (by kernel_rfl) ?_
          have hHeld : (fun W => W.cell? ⟨g, 2, none⟩ = some bv) wr.drew := t2
          refine Un.pick (i := 0) (v := ?_) rfl (by kernel_rfl) (by kernel_rfl) (by kernel_rfl) (by kernel_rfl) (fun _ _ _ h => h) (Or.inl ⟨by rfl, ?_⟩) (by assumption) ?_
          rotate_left
          · intro w _; go_simp
            try with_reducible rfl
          try simp only [Act.put, List.setIfInBounds_toArray, List.set_cons_zero, List.set_cons_succ]
          refine Un.take (i := 1) (v := ?_) rfl (by kernel_rfl) (by kernel_rfl) (by kernel_rfl) (by kernel_rfl) (by kernel_rfl) (by kernel_rfl) (fun _ _ _ h => h) (Or.inl ⟨by rfl, ?_⟩) (by assumption) ?_
          rotate_left
          · intro w hSw; (try dsimp only at hSw); go_simp
            try with_reducible rfl
          try simp only [Act.put, List.setIfInBounds_toArray, List.set_cons_zero, List.set_cons_succ]
          refine Un.pick (i := 2) (v := ?_) rfl (by kernel_rfl) (by kernel_rfl) (by kernel_rfl) (by kernel_rfl) (fun _ _ _ h => h) (Or.inl ⟨by rfl, ?_⟩) (by assumption) ?_
          rotate_left
          · intro w _; go_simp
            try with_reducible rfl
          try simp only [Act.put, List.setIfInBounds_toArray, List.set_cons_zero, List.set_cons_succ]
          refine Un.pick (i := 3) (v := ?_) rfl (by kernel_rfl) (by kernel_rfl) (by kernel_rfl) (by kernel_rfl) (fun _ _ _ h => h) (Or.inl ⟨by rfl, ?_⟩) (by assumption) ?_
          rotate_left
          · intro w _; go_simp
            try with_reducible rfl
          try simp only [Act.put, List.setIfInBounds_toArray, List.set_cons_zero, List.set_cons_succ]
          refine Un.pick (i := 4) (v := ?_) rfl (by kernel_rfl) (by kernel_rfl) (by kernel_rfl) (by kernel_rfl) (fun _ _ _ h => h) (Or.inl ⟨by rfl, ?_⟩) (by assumption) ?_
          rotate_left
          · intro w _; go_simp
            try with_reducible rfl
          try simp only [Act.put, List.setIfInBounds_toArray, List.set_cons_zero, List.set_cons_succ]
          refine Un.one (i := 5) (by kernel_rfl) rfl (fun K hK => ?_)
          rw [if_pos (by rfl)]
          go_simp
          go_at_call 134
          refine HRB.out.mono ?_
          rintro e w3 ⟨hK3, ⟨b, kv, rfl, hbg, hs3, hl3, hR3, hc3, hlc3, hQ3, hkv, hun3⟩ | ⟨m, rfl, hno⟩⟩
          rotate_left
          · have hK3 := (Kp2.of_below (r := r) (q := q) ((Below.refl wr.heap.size wr).drew)).trans hK3
            have HNO : Hid (∀ l bs, FOk l bs → Starts (bytesOf s) 0 (ftB l bs) → bytesOf z ≠ bodyB bs) := HF.out hno
            have HK3 : Hid (Kp2 r q w w3) := HS.out.kp.trans hK3
            clear hno hK3
            exact ⟨rfl, HK3.out, .inr ⟨m, rfl, HNO.out⟩⟩
          · have hK3 := (Kp2.of_below (r := r) (q := q) ((Below.refl wr.heap.size wr).drew)).trans hK3
            obtain ⟨ko, kcap, rfl⟩ := own_form hkv
            have HSd : Hid (FrSt w w3 g r q l co eo cc ec bv L) := HS.out.step hrl hql hg hK3
            have HKV : Hid (w3.ownsRow w.heap.size 156 8 (.slice ko b.chunks.length kcap) b.chunks.length (kcells b.chunks)) := ownsRow_base hkv (by simpa using hsz)
            have HBG : Hid (BdGood (l.map Prod.fst) b) := hbg
            have HS3 : Hid (Starts (bytesOf s) p3 (bandB (l.map Prod.fst) b)) := hs3
            have HL3 : Hid (p3 + (bandB (l.map Prod.fst) b).length ≤ s.size) := hl3
            have HR3 : Hid (w3.heap[r]? = some (rdr s (p3 + (bandB (l.map Prod.fst) b).length))) := hR3
            have HC3 : Hid (Starts (bytesOf z) u (textB b.chunks)) := hc3
            have HLC3 : Hid (u + (textB b.chunks).length ≤ z.size) := hlc3
            have HQ3 : Hid (w3.heap[q]? = some (rdr z (u + (textB b.chunks).length))) := hQ3
            have HUN3 : Hid (∀ b', BdGood (l.map Prod.fst) b' → Starts (bytesOf s) p3 (bandB (l.map Prod.fst) b') → Starts (bytesOf z) u (textB b'.chunks) → b' = b) := hun3
            have y1 := HSd.out.cells.2.2.1
            refine hK.out _ _ (fun _ => y1) ?_
            clear hK K hHeld hK3 hkv hbg hs3 hl3 hR3 hc3 hlc3 hQ3 hun3 t0 t1 t2 t3 HRB HS HR HQR
            try simp only [Act.put, List.setIfInBounds_toArray, List.set_cons_zero, List.set_cons_succ]
            have hHeld : (fun W => W.cell? ⟨g, 2, none⟩ = some bv) w3 := y1
            refine Un.one (i := 6) (by kernel_rfl) rfl (fun K hK => ?_)
            rw [if_pos (by rfl)]
            go_simp
            have HSe : Hid (FrSt w (w3.alloc (.cells (dcell (b, .slice ko b.chunks.length kcap)).toArray 152)) g r q l co eo cc ec bv L) := HSd.out.below ((Below.refl _ _).alloc (Nat.le_refl _) _)
            refine hK.out _ _ (fun _ => HSe.out.cells.2.2.1) ?_
            clear hK K hHeld
            try simp only [Act.put, List.setIfInBounds_toArray, List.set_cons_zero, List.set_cons_succ]
            refine Un.one (i := 7) (by kernel_rfl) rfl (fun K hK => ?_)
            have hown := HSd.out.bands.own
            rw [HLn.out] at hown
            have hz1 : w.heap.size ≤ w3.heap.size := HSd.out.kp.size
            refine step_append_lies _ (by rfl) _ _ 108 (by rfl) w.heap.size 152 j0 _ 2 32 Try.underlying108 hj hy0 hy1 hy2 rfl (by decide) bv bs.length _ (by rfl) (hown.alloc _) ⟨w3.heap.size, 0, none⟩ 1 1 (dcell (b, .slice ko b.chunks.length kcap)) (by rfl) rfl (two_atB w3 _ _ _) (by intro u hu; simp [dcell] at hu; rcases hu with rfl | rfl <;> rfl) (by decide) (by unfold maxLen; omega) (by omega) (by simp; omega) _ rfl ?_
            intro g2 cap2 w4 hown2 hgr2 hat2 hlt2
            have hg2 := Grew.lies (n := bs.length + 1) (cap := cap2) hgr2 hat2
            have ho2 : w4.ownsRow w.heap.size 152 2 (.slice (some ⟨g2, 0, none⟩) (bs.length + 1) cap2) (L ++ [(b, Value.slice ko b.chunks.length kcap)]).length (dcells (L ++ [(b, Value.slice ko b.chunks.length kcap)])) := by
              unfold dcells at hown2 ⊢
              rw [List.flatMap_append, List.flatMap_singleton, List.length_append, HLn.out]
              exact hown2
            have HF2 : Hid (FrSt w (w4.setCell ⟨g, 2, none⟩ (.slice (some ⟨g2, 0, none⟩) (bs.length + 1) cap2)) g r q l co eo cc ec (.slice (some ⟨g2, 0, none⟩) (bs.length + 1) cap2) (L ++ [(b, Value.slice ko b.chunks.length kcap)])) := HSd.out.grew hg hg2 HKV.out ho2
            have HRf : Hid ((w4.setCell ⟨g, 2, none⟩ (.slice (some ⟨g2, 0, none⟩) (bs.length + 1) cap2)).heap[r]? = some (rdr s (p3 + (bandB (l.map Prod.fst) b).length))) := HSd.out.reader hg hg2 hrl HR3.out
            have HQf : Hid ((w4.setCell ⟨g, 2, none⟩ (.slice (some ⟨g2, 0, none⟩) (bs.length + 1) cap2)).heap[q]? = some (rdr z (u + (textB b.chunks).length))) := HSd.out.reader hg hg2 hql HQ3.out
            obtain ⟨z0, z1⟩ := HSd.out.kept hg2
            refine hK.out _ _ (fun _ => z0) ?_
            clear hK K hown hown2 hgr2 hat2 hlt2 ho2 hg2
            try simp only [Act.put, List.setIfInBounds_toArray, List.set_cons_zero, List.set_cons_succ]
            have hHeld : (fun W => W.cell? ⟨g, 2, none⟩ = some bv) w4 := z0
            refine Un.pick (i := 8) (v := ?_) rfl (by kernel_rfl) (by kernel_rfl) (by kernel_rfl) (by kernel_rfl) (fun _ _ _ h => h) (Or.inl ⟨by rfl, ?_⟩) (by assumption) ?_
            rotate_left
            · intro w _; go_simp
              try with_reducible rfl
            try simp only [Act.put, List.setIfInBounds_toArray, List.set_cons_zero, List.set_cons_succ]
            refine Un.one (i := 9) (by kernel_rfl) rfl (fun K hK => ?_)
            rw [if_pos (by rfl)]
            go_simp
            refine hK.out _ _ (fun h => absurd h (by decide)) ?_
            clear hK K hHeld z0 z1 y1
            refine Un.done (by kernel_rfl) ?_ _
            try simp only [Act.put, List.setIfInBounds_toArray, List.set_cons_zero, List.set_cons_succ]
            clear HSd HSe HR3 HQ3 HKV
            generalize w4.setCell ⟨g, 2, none⟩ (.slice (some ⟨g2, 0, none⟩) (bs.length + 1) cap2) = W9 at *
            generalize Value.slice (some ⟨g2, 0, none⟩) (bs.length + 1) cap2 = bv9 at *
            have HLC : Hid (p2 + (bandsB (l.map Prod.fst) (bs ++ [b])).length = p3 + (bandB (l.map Prod.fst) b).length) := by
              show _ = _
              rw [bdsB_snoc, List.length_append]
              have h3 := HP3.out
              omega
            have HLT : Hid ((bodyB (bs ++ [b])).length = u + (textB b.chunks).length) := by
              show _ = _
              rw [bodyB_snoc, List.length_append, HU.out]
            have HMO : Hid (Q2 (bandsB (l.map Prod.fst)) bodyB (fun _ => BdGood (l.map Prod.fst)) (bytesOf s) p2 (bytesOf z) 0 n (bs ++ [b])) := by
              refine HQ.out.more (e := fun _ y => bandB (l.map Prod.fst) y) (g := fun _ y => textB y.chunks) (bdsB_snoc _) bodyB_snoc hlt HBG.out (by rw [← HP3.out]; exact HS3.out) (by rw [Nat.zero_add, ← HU.out]; exact HC3.out) (fun y hy h3 h4 => ?_)
              rw [← HP3.out] at h3
              rw [Nat.zero_add, ← HU.out] at h4
              exact HUN3.out y hy h3 h4
            have HLM : Hid ((L ++ [(b, Value.slice ko b.chunks.length kcap)]).map Prod.fst = bs ++ [b]) := by show _ = _; rw [List.map_append, HL.out]; rfl
            go_wp2_with fail
            go_roundw
            case rel => exact ⟨bs ++ [b], _, _, by rw [List.length_append]; go_num, HLM.out, HMO.out, HF2.out, by rw [HLC.out]; exact HL3.out, by rw [HLC.out]; exact HRf.out, by rw [HLT.out]; exact HLC3.out, by rw [HLT.out]; exact HQf.out⟩
            case measure => simp [intOf]; omega
        · have HD := HQ.out.done hlt
          have HDN : Hid (bs.length = n) := HD.1
          have HDU : Hid (∀ L' : List Bd, L'.length = n → AllI (fun _ => BdGood (l.map Prod.fst)) L' → Starts (bytesOf s) p2 (bandsB (l.map Prod.fst) L') → Starts (bytesOf z) 0 (bodyB L') → L' = bs) := HD.2
          have hnl : n = bs.length := HD.1.symm
          have HGB : Hid (∀ b ∈ bs, BdGood (l.map Prod.fst) b) := goods' HQ.out.oks
          have HUQ : Hid (∀ l' bs', FOk l' bs' → Starts (bytesOf s) 0 (ftB l' bs') → bytesOf z = bodyB bs' → l' = l ∧ bs' = bs) := fun l' bs' hf hs hc => by
            obtain ⟨h1, h2, h3⟩ := HFT.out l' bs' hf hs
            rw [h1] at hf
            exact ⟨h1, HDU.out bs' h2 (goods hf.bands) h3 (starts_of_eq hc.symm)⟩
          have HRW2 : Hid (Calls Try.prog 65 #[.agg #[.slice co l.length cc, .slice eo l.length ec, bv]] wr fun e w' => e = .returned (.int .i64 (rowsN (L.map Prod.fst) : Int)) ∧ Below wr.heap.size wr w') := fRows_any co eo _ _ _ _ w.heap.size bv L wr hS.bands (by rw [HLn.out]; exact hb6) (by rw [HL.out]; exact fun b hb => (HGB.out b hb).hi)
          rw [HL.out] at HRW2
          have hrn : rowsN bs ≤ 6553600 := by have := rowsN_le bs (fun b hb => (HGB.out b hb).hi); have := Nat.mul_le_mul_right 100 hb6; omega
          have HFB : Hid ((ftB l bs).length = p3 ∧ Starts (bytesOf s) 0 (ftB l bs)) := by
            have g1 := HP1.out
            have g2 := HP2.out
            have g3 := HP3.out
            unfold ftB
            rw [HDN.out]
            refine ⟨by rw [List.length_append, List.length_append]; omega, ?_⟩
            exact starts_append.2 ⟨HS1.out, by rw [Nat.zero_add, ← g1]; exact starts_append.2 ⟨HS2.out, by rw [← g2]; exact HQ.out.st⟩⟩
          have HSC : Hid (Starts (bytesOf z) 0 (bodyB bs)) := HQ.out.sc
          obtain ⟨bo, bcap, hbv⟩ := own_form hS.bands.own
          subst hbv
          obtain ⟨t0, t1, t2, t3⟩ := hS.cells
          subst hnl
          clear hS HD HQ hlt hle hni
          go_wp2_with fail
          refine HRW2.out.mono ?_
          rintro e w5 ⟨rfl, hb5⟩
          have HS5 : Hid (FrSt w w5 g r q l co eo cc ec (.slice bo L.length bcap) L) := HS.out.below hb5
          have HR5 : Hid (w5.heap[r]? = some (rdr s p3)) := (hb5.block r (lt_of_block HR.out)).trans HR.out
          have HQ5 : Hid (w5.heap[q]? = some (rdr z u)) := (hb5.block q (lt_of_block HQR.out)).trans HQR.out
          clear hb5 HS HR HQR t0 t1 t2 t3 HRW2
          by_cases hbig : 2000 < rowsN bs
          · have hd : decide ((2000 : Int) < (rowsN bs : Int)) = true := by simp; omega
            have HNO : Hid (∀ l bs, FOk l bs → Starts (bytesOf s) 0 (ftB l bs) → bytesOf z ≠ bodyB bs) := fun l' bs' hf hs hc => by
              obtain ⟨h1, h2⟩ := HUQ.out l' bs' hf hs hc
              have := hf.rows
              rw [h2] at this
              omega
            go_wp2_with (go_at_call 84; refine (giveUp_any r p3 s _ HR5.out).mono ?_; rintro e w' ⟨rfl, rfl⟩)
            exact ⟨rfl, HS5.out.kp, .inr ⟨_, rfl, HNO.out⟩⟩
          · have hd : decide ((2000 : Int) < (rowsN bs : Int)) = false := by simp; omega
            have HROW : Hid (rowsN bs ≤ 2000) := by show _ ≤ _; omega
            by_cases hend : u < z.size
            · have HNO : Hid (∀ l bs, FOk l bs → Starts (bytesOf s) 0 (ftB l bs) → bytesOf z ≠ bodyB bs) := fun l' bs' hf hs hc => by
                obtain ⟨h1, h2⟩ := HUQ.out l' bs' hf hs hc
                have h3 := congrArg List.length hc
                rw [bytesOf_length, h2, ← HU.out] at h3
                omega
              go_wp2_with (go_at_call 111; refine (end_bad q u z _ hz2 hend HQ5.out).mono ?_; rintro e w' ⟨rfl, m, rfl⟩)
              exact ⟨rfl, HS5.out.kp.trans (Kp2.of_left ((Kp.refl r w5).drewN _)), .inr ⟨_, rfl, HNO.out⟩⟩
            · have HZ : Hid (bytesOf z = bodyB bs) := by
                show _ = _
                refine (starts_all HSC.out ?_)
                rw [bytesOf_length, ← HU.out]
                omega
              have HFO : Hid (FOk l bs) := ⟨HPL.out, HGB.out, HROW.out⟩
              go_upto_region 10 with (go_at_call 111; refine (end_ok q u z _ hz2 hend HQ5.out).mono ?_; rintro e w' ⟨rfl, m, rfl⟩)
              have hS6 : FrSt w (w5.drewN m) g r q l co eo cc ec (.slice bo L.length bcap) L := HS5.out.below (below_drewN (Below.refl _ _) _)
              have HR6 : Hid ((w5.drewN m).heap[r]? = some (rdr s p3)) := HR5.out
              generalize w5.drewN m = w6 at *
              generalize hbv : Value.slice bo L.length bcap = bv at hS6
              obtain ⟨t0, t1, t2, t3⟩ := hS6.cells
              obtain ⟨r0, r1, r2⟩ := val_cells hS6.res
              have f0 : w6.frozen? ⟨w.heap.size, 0, none⟩ = false := by have := hS6.res; simp [World.frozen?, this]
              have f1 : w6.frozen? ⟨w.heap.size, 1, none⟩ = false := by have := hS6.res; simp [World.frozen?, this]
              have f2 : w6.frozen? ⟨w.heap.size, 2, none⟩ = false := by have := hS6.res; simp [World.frozen?, this]
              have h1 := heap_setCell_same w6 w.heap.size 0 _ _ (.slice co l.length cc) hS6.res
              have h2 := heap_setCell_same _ w.heap.size 1 _ _ (.slice eo l.length ec) h1
              have h3 := heap_setCell_same _ w.heap.size 2 _ _ bv h2
              obtain ⟨s0, s1, s2⟩ := val_cells (show _ = some (Obj.cells #[.slice co l.length cc, .slice eo l.length ec, bv] 110 (0, 0)) from h3)
              have HOB : Hid (Bands (((w6.setCell ⟨w.heap.size, 0, none⟩ (.slice co l.length cc)).setCell ⟨w.heap.size, 1, none⟩ (.slice eo l.length ec)).setCell ⟨w.heap.size, 2, none⟩ bv) w.heap.size bv L) :=
                ((hS6.bands.put hS6.res (by decide) (by decide) _ _).put h1 (by decide) (by decide) _ _).put h2 (by decide) (by decide) _ _
              have key : ∀ {q : Value} {n e k : Nat} {xs : List Value}, e ≠ 110 → w6.ownsRow w.heap.size e k q n xs → (((w6.setCell ⟨w.heap.size, 0, none⟩ (.slice co l.length cc)).setCell ⟨w.heap.size, 1, none⟩ (.slice eo l.length ec)).setCell ⟨w.heap.size, 2, none⟩ bv).ownsRow w.heap.size e k q n xs := fun hne hq => by
                have a1 := hq.kept (box_set_grown w6 w.heap.size 0 (.slice co l.length cc)) (.inr (own_far hq hS6.res hne.symm).symm)
                have a2 := a1.kept (box_set_grown _ w.heap.size 1 (.slice eo l.length ec)) (.inr (own_far a1 h1 hne.symm).symm)
                exact a2.kept (box_set_grown _ w.heap.size 2 bv) (.inr (own_far a2 h2 hne.symm).symm)
              have HOC : Hid ((((w6.setCell ⟨w.heap.size, 0, none⟩ (.slice co l.length cc)).setCell ⟨w.heap.size, 1, none⟩ (.slice eo l.length ec)).setCell ⟨w.heap.size, 2, none⟩ bv).ownsRow w.heap.size 104 2 (.slice co l.length cc) l.length (ccells (l.map Prod.fst))) := key (by decide) hS6.cols
              have HOE : Hid ((((w6.setCell ⟨w.heap.size, 0, none⟩ (.slice co l.length cc)).setCell ⟨w.heap.size, 1, none⟩ (.slice eo l.length ec)).setCell ⟨w.heap.size, 2, none⟩ bv).ownsRow w.heap.size 3 1 (.slice eo l.length ec) l.length (icells (l.map Prod.snd))) := key (by decide) hS6.encs
              have HKF : Hid (Kp2 r q w (((w6.setCell ⟨w.heap.size, 0, none⟩ (.slice co l.length cc)).setCell ⟨w.heap.size, 1, none⟩ (.slice eo l.length ec)).setCell ⟨w.heap.size, 2, none⟩ bv)) := ((hS6.kp.grown (box_set_grown w6 w.heap.size 0 _) (fun g' e => by cases e; exact Nat.le_refl _)).grown (box_set_grown _ w.heap.size 1 _) (fun g' e => by cases e; exact Nat.le_refl _)).grown (box_set_grown _ w.heap.size 2 _) (fun g' e => by cases e; exact Nat.le_refl _)
              have HRf : Hid ((((w6.setCell ⟨w.heap.size, 0, none⟩ (.slice co l.length cc)).setCell ⟨w.heap.size, 1, none⟩ (.slice eo l.length ec)).setCell ⟨w.heap.size, 2, none⟩ bv).heap[r]? = some (rdr s p3)) := by
                show _ = _
                rw [heap_setCell_other _ _ _ _ (by simp; omega), heap_setCell_other _ _ _ _ (by simp; omega), heap_setCell_other _ _ _ _ (by simp; omega)]; exact HR6.out
              clear h1 h2 h3 hS6 HS5 HR5 HQ5 key
              subst hbv
              go_wp2
              simp [bodyPost, results, Try.results99, go_sem, s0, s1, s2]
              exact ⟨HKF.out, .inl ⟨l, bs, L, co, eo, cc, ec, _, rfl, HFO.out, HL.out, HFB.out.2, by rw [HFB.out.1]; exact hpl, by rw [HFB.out.1]; exact HRf.out, HZ.out, HOC.out, HOE.out, HOB.out, HUQ.out⟩⟩
end Go.Proofs.Ytjidbonhhpkljaa.Ec

/- ReadWhole at files: what is read of a whole footer, or nothing, by the recover at the call. -/
set_option linter.unusedVariables false
namespace Go.Proofs.Ytjidbonhhpkljaa.Ec
open Go.RowKit Go.Proofs.Ytjidbonhhpkljaa.Pk Go.Proofs.Ytjidbonhhpkljaa.Pm
/-- The three cells of a file that is none. -/
def noFile : Array Value := #[.slice none 0 0, .slice none 0 0, .slice none 0 0]
theorem three_of {w : World} {g : Nat} {a b c : Value} {t : TypeId} (h : w.heap[g]? = some (.cells #[a, b, c] t (0, 0))) : (w.cell? ⟨g, 0, none⟩ = some a ∧ w.cell? ⟨g, 1, none⟩ = some b ∧ w.cell? ⟨g, 2, none⟩ = some c) ∧ (w.frozen? ⟨g, 0, none⟩ = false ∧ w.frozen? ⟨g, 1, none⟩ = false ∧ w.frozen? ⟨g, 2, none⟩ = false) := by
  refine ⟨⟨?_, ?_, ?_⟩, ?_, ?_, ?_⟩ <;> simp [World.cell?, World.frozen?, h]
/-- Three cells are written into a box. -/
def put3 (w : World) (g : Nat) (a b c : Value) : World := ((w.setCell ⟨g, 0, none⟩ a).setCell ⟨g, 1, none⟩ b).setCell ⟨g, 2, none⟩ c
theorem put3_at {w : World} {g : Nat} {a b c : Value} {t : TypeId} (x y z : Value) (h : w.heap[g]? = some (.cells #[a, b, c] t (0, 0))) : (put3 w g x y z).heap[g]? = some (.cells #[x, y, z] t (0, 0)) := by
  have h1 := heap_setCell_same w g 0 _ _ x h
  have h2 := heap_setCell_same _ g 1 _ _ y h1
  exact heap_setCell_same _ g 2 _ _ z h2
theorem put3_other {w : World} {g i : Nat} (x y z : Value) (h : i ≠ g) : (put3 w g x y z).heap[i]? = w.heap[i]? := by
  unfold put3
  rw [heap_setCell_other _ _ _ _ (by simp; omega), heap_setCell_other _ _ _ _ (by simp; omega), heap_setCell_other _ _ _ _ (by simp; omega)]
theorem put3_below {w w0 : World} {g n : Nat} (x y z : Value) (h : Below n w0 w) (hn : n ≤ w0.heap.size) (hg : n ≤ g) : Below n w0 (put3 w g x y z) :=
  below_put (below_put (below_put h hn hg _ _) hn hg _ _) hn hg _ _

set_option maxRecDepth 100000 in
set_option maxHeartbeats 1000000 in
/-- The deferred function, where the frame panics. -/
theorem catchF_panicking (pl pe : Nat) (x y z v : Value) (u : TypeId) (pv : Value) (older : List PanicEntry) (w : World) (hne : pl ≠ pe) (hL : w.heap[pl]? = some (.cells #[x, y, z] 110 (0, 0))) (hE : w.heap[pe]? = some (.cells #[v] 4 (0, 0))) :
    CallsD Try.prog 132 #[.pointer (some ⟨pl, 0, none⟩), .pointer (some ⟨pe, 0, none⟩)] (.panicking ({ v := .iface u pv, recovered := false } :: older)) w fun e u' w' =>
      e = .returned (.tuple #[]) ∧ u' = .panicking ({ v := .iface u pv, recovered := true } :: older) ∧ w' = (put3 (w.alloc (.cells noFile 110)) pl (.slice none 0 0) (.slice none 0 0) (.slice none 0 0)).setCell ⟨pe, 0, none⟩ (.bool false) := by
  have hl0 := lt_of_block hL
  have he0 := lt_of_block hE
  have hL1 : (w.alloc (.cells noFile 110)).heap[pl]? = some (.cells #[x, y, z] 110 (0, 0)) := by rw [Below.heap_alloc _ _ pl hl0]; exact hL
  have hE1 : (w.alloc (.cells noFile 110)).heap[pe]? = some (.cells #[v] 4 (0, 0)) := by rw [Below.heap_alloc _ _ pe he0]; exact hE
  have hN1 : (w.alloc (.cells noFile 110)).heap[w.heap.size]? = some (.cells #[.slice none 0 0, .slice none 0 0, .slice none 0 0] 110 (0, 0)) := alloc_at w _
  refine callsD_of_wpS Try.func132 rfl fun c₀ cs hu => ?_
  apply wpS_seq
  apply wpS_region
  simp [wpOpsS, go_sem, recoverD, hu, Try.ntmps132, Exit.thenS]
  refine wpS_cond (t := true) (by simp [Act.eval, Array.replicate]) ?_
  simp only [if_true]
  apply wpS_seq
  apply wpS_region
  simp [wpOpsS, go_sem, Exit.thenS]
  apply wpS_region
  obtain ⟨⟨n0, n1, n2⟩, -⟩ := three_of hN1
  obtain ⟨⟨l0, l1, l2⟩, g0, g1, g2⟩ := three_of hL1
  have hE2 : (put3 (w.alloc (.cells noFile 110)) pl (.slice none 0 0) (.slice none 0 0) (.slice none 0 0)).heap[pe]? = some (.cells #[v] 4 (0, 0)) := by rw [put3_other _ _ _ hne.symm]; exact hE1
  obtain ⟨e0, e1⟩ := one_frozen hE2
  unfold put3 at e0 e1 ⊢
  unfold noFile at *
  simp [wpOpsS, go_sem, n0, n1, n2, l0, l1, l2, g0, g1, g2, e0, e1, bodyPostS, results, Try.results132]
theorem catchF_idle (pl pe : Addr) (w : World) :
    CallsD Try.prog 132 #[.pointer (some pl), .pointer (some pe)] .returning w fun e u' w' => e = .returned (.tuple #[]) ∧ u' = .returning ∧ w' = w := by
  refine callsD_of_wpS Try.func132 rfl fun c₀ cs hu => ?_
  apply wpS_seq
  apply wpS_region
  simp [wpOpsS, go_sem, recoverD, hu, Try.ntmps132, Exit.thenS]
  refine wpS_cond (t := false) (by simp [Act.eval, Array.replicate]) ?_
  simp only [Bool.false_eq_true, if_false]
  refine wpS_of_wp (wp_skip ?_)
  cases c₀
  simp_all [bodyPostS, results, Try.results132]

/-- But for the one reader: the other is new. -/
theorem kp_two {r q : Nat} {w w1 w2 : World} (h : Kp r w w1) (k : Kp2 r q w1 w2) (hq : w.heap.size ≤ q) : Kp r w w2 :=
  ⟨k.os.trans h.os, k.tape.trans h.tape, k.output.trans h.output, Nat.le_trans (Kp.size h) k.size, fun i hi hne => (k.block i (Nat.lt_of_lt_of_le hi (Kp.size h)) (fun e => hne (by rw [e])) (by omega)).trans (World.grownBy.block h i hi hne)⟩
/-- A file in memory. -/
structure FileAt (W : World) (base : Nat) (l : List (Col × Int)) (L : List (Bd × Value)) (a b c : Value) : Prop where
  cols : W.ownsRow base 104 2 a l.length (ccells (l.map Prod.fst))
  encs : W.ownsRow base 3 1 b l.length (icells (l.map Prod.snd))
  bands : Bands W base c L
theorem FileAt.below {W W1 : World} {base : Nat} {l : List (Col × Int)} {L : List (Bd × Value)} {a b c : Value} (h : FileAt W base l L a b c) (hb : Below W.heap.size W W1) : FileAt W1 base l L a b c := ⟨ownsRow_below h.cols hb, ownsRow_below h.encs hb, h.bands.below hb⟩
theorem FileAt.base {W : World} {base base' : Nat} {l : List (Col × Int)} {L : List (Bd × Value)} {a b c : Value} (h : FileAt W base l L a b c) (hb : base' ≤ base) : FileAt W base' l L a b c := ⟨ownsRow_base h.cols hb, ownsRow_base h.encs hb, ⟨ownsRow_base h.bands.own hb, fun p hp => ownsRow_base (h.bands.each p hp) hb⟩⟩
theorem FileAt.put {W : World} {base : Nat} {l : List (Col × Int)} {L : List (Bd × Value)} {a b c : Value} (h : FileAt W base l L a b c) {g : Nat} {cs : Array Value} {t : TypeId} (hg : W.heap[g]? = some (.cells cs t (0, 0))) (ht : t = 110 ∨ t = 4 ∨ t = 9) (o : Nat) (u : Value) : FileAt (W.setCell ⟨g, o, none⟩ u) base l L a b c := by
  have e1 : t ≠ 104 := by rcases ht with rfl | rfl | rfl <;> decide
  have e2 : t ≠ 3 := by rcases ht with rfl | rfl | rfl <;> decide
  have e3 : t ≠ 152 := by rcases ht with rfl | rfl | rfl <;> decide
  have e4 : t ≠ 156 := by rcases ht with rfl | rfl | rfl <;> decide
  exact ⟨h.cols.kept (box_set_grown W g o u) (.inr (own_far h.cols hg e1).symm), h.encs.kept (box_set_grown W g o u) (.inr (own_far h.encs hg e2).symm), h.bands.put hg e3 e4 o u⟩
theorem FileAt.put3 {W : World} {base : Nat} {l : List (Col × Int)} {L : List (Bd × Value)} {a b c : Value} (h : FileAt W base l L a b c) {g : Nat} {x y z : Value} (x' y' z' : Value) (hg : W.heap[g]? = some (.cells #[x, y, z] 110 (0, 0))) : FileAt (Ec.put3 W g x' y' z') base l L a b c := by
  have h1 := heap_setCell_same W g 0 _ _ x' hg
  have h2 := heap_setCell_same _ g 1 _ _ y' h1
  exact ((h.put hg (.inl rfl) _ _).put h1 (.inl rfl) _ _).put h2 (.inl rfl) _ _
theorem FileAt.forms {W : World} {base : Nat} {l : List (Col × Int)} {L : List (Bd × Value)} {a b c : Value} (h : FileAt W base l L a b c) : ∃ ao ac bo bc co cc, a = .slice ao l.length ac ∧ b = .slice bo l.length bc ∧ c = .slice co L.length cc := by
  obtain ⟨ao, ac, h1⟩ := own_form h.cols
  obtain ⟨bo, bc, h2⟩ := own_form h.encs
  obtain ⟨co, cc, h3⟩ := own_form h.bands.own
  exact ⟨ao, ac, bo, bc, co, cc, h1, h2, h3⟩
/-- What the closure of Part answers. -/
def RPc (w : World) (r : Nat) (s z : ByteArray) (e : Ending) (w' : World) : Prop :=
  Kp r w w' ∧ ((∃ (l : List (Col × Int)) (bs : List Bd) (L : List (Bd × Value)) (a b c : Value), e = .returned (.agg #[a, b, c]) ∧ FOk l bs ∧ L.map Prod.fst = bs ∧ Starts (bytesOf s) 0 (ftB l bs) ∧ (ftB l bs).length ≤ s.size ∧ w'.heap[r]? = some (rdr s (ftB l bs).length) ∧ bytesOf z = bodyB bs ∧ FileAt w' w.heap.size l L a b c ∧ (∀ l' bs', FOk l' bs' → Starts (bytesOf s) 0 (ftB l' bs') → bytesOf z = bodyB bs' → l' = l ∧ bs' = bs)) ∨
    (∃ m, e = .panicked (badAt m) ∧ ∀ l bs, FOk l bs → Starts (bytesOf s) 0 (ftB l bs) → bytesOf z ≠ bodyB bs))

set_option maxRecDepth 100000 in
set_option maxHeartbeats 4000000 in
theorem partC_any (r cb : Nat) (s z : ByteArray) (w : World) (hm : s.size ≤ 65536) (hz : z.size ≤ 65536) (h : w.heap[r]? = some (rdr s 0)) (hcb : w.heap[cb]? = some (.cells #[.string z] 9 (0, 0))) :
    Calls Try.prog 98 #[.pointer (some ⟨r, 0, none⟩), .pointer (some ⟨cb, 0, none⟩)] w (RPc w r s z) := by
  have hrl : r < w.heap.size := lt_of_block h
  have hcl : cb < w.heap.size := lt_of_block hcb
  have c0 : (w.alloc (.cells #[.slice none 0 0, .slice none 0 0, .slice none 0 0] 110)).cell? ⟨cb, 0, none⟩ = some (.string z) := (one_frozen (t := 9) (by rw [Below.heap_alloc _ _ cb hcl]; exact hcb)).1
  have HCL : Hid (∀ W, Calls Try.prog 101 #[.string z] W fun e w' => e = .returned (.string z) ∧ Below W.heap.size W w') := fun W => cloneL_any z W hz
  have HR : Hid ((w.alloc (.cells #[.slice none 0 0, .slice none 0 0, .slice none 0 0] 110)).heap[r]? = some (rdr s 0)) := by
    show _ = _
    rw [Below.heap_alloc _ _ r hrl]; exact h
  have HX : Hid ((w.alloc (.cells #[.slice none 0 0, .slice none 0 0, .slice none 0 0] 110)).heap[w.heap.size]? = some (.cells #[.slice none 0 0, .slice none 0 0, .slice none 0 0] 110 (0, 0))) := alloc_at w _
  have HK : Hid (Kp r w (w.alloc (.cells #[.slice none 0 0, .slice none 0 0, .slice none 0 0] 110))) := (Kp.refl r w).alloc _
  clear h hcb
  go_enter Try.func98, Try.ntmps98
  go_wp2_with fail
  refine (HCL.out _).mono ?_
  rintro e w1 ⟨rfl, hb1⟩
  have HR1 : Hid (w1.heap[r]? = some (rdr s 0)) := (hb1.block r (lt_of_block HR.out)).trans HR.out
  have HX1 : Hid (w1.heap[w.heap.size]? = some (.cells #[.slice none 0 0, .slice none 0 0, .slice none 0 0] 110 (0, 0))) := (hb1.block _ (lt_of_block HX.out)).trans HX.out
  have HK1 : Hid (Kp r w w1) := HK.out.trans (Kp.of_below hb1)
  clear c0 hb1 HR HX HK HCL
  go_wp2_with fail
  refine (newReader_any z _).mono ?_
  rintro e w2 ⟨rfl, rfl⟩
  have hsz : w.heap.size < w1.heap.size := lt_of_block HX1.out
  have HR2 : Hid ((w1.alloc (rdr z 0)).heap[r]? = some (rdr s 0)) := by show _ = _; rw [Below.heap_alloc _ _ r (by omega)]; exact HR1.out
  have HQ2 : Hid ((w1.alloc (rdr z 0)).heap[w1.heap.size]? = some (rdr z 0)) := alloc_at w1 _
  have HX2 : Hid ((w1.alloc (rdr z 0)).heap[w.heap.size]? = some (.cells #[.slice none 0 0, .slice none 0 0, .slice none 0 0] 110 (0, 0))) := by show _ = _; rw [Below.heap_alloc _ _ _ hsz]; exact HX1.out
  have HK2 : Hid (Kp r w (w1.alloc (rdr z 0))) := HK1.out.alloc _
  have hs2 : w.heap.size ≤ (w1.alloc (rdr z 0)).heap.size := by simp; omega
  clear HR1 HX1 HK1
  generalize w1.alloc (rdr z 0) = W2 at *
  generalize w1.heap.size = q at *
  clear w1
  go_wp2_with fail
  refine (readFooter_any r q s z W2 (by omega) hm hz HR2.out HQ2.out).mono ?_
  rintro e w3 ⟨hK3, ⟨l, bs, L, co, eo, cc, ec, bv, rfl, hf, hL, hs, hle, hR3, hbz, hoc, hoe, hob, hun⟩ | ⟨m, rfl, hno⟩⟩
  rotate_left
  · have HNO : Hid (∀ l bs, FOk l bs → Starts (bytesOf s) 0 (ftB l bs) → bytesOf z ≠ bodyB bs) := hno
    have HK3 : Hid (Kp r w w3) := kp_two HK2.out hK3 (by omega)
    clear hno hK3
    go_wp2
    exact ⟨rfl, HK3.out, .inr ⟨m, rfl, HNO.out⟩⟩
  · have hK : Kp r w w3 := kp_two HK2.out hK3 (by omega)
    have hX3 : w3.heap[w.heap.size]? = some (.cells #[.slice none 0 0, .slice none 0 0, .slice none 0 0] 110 (0, 0)) := hK3.keep HX2.out (by omega) (by omega)
    have hF : FileAt w3 w.heap.size l L (.slice co l.length cc) (.slice eo l.length ec) bv := (FileAt.mk hoc hoe hob).base hs2
    obtain ⟨-, -, -, -, bo, bc, -, -, rfl⟩ := hF.forms
    have HF : Hid (FileAt (put3 w3 w.heap.size (.slice co l.length cc) (.slice eo l.length ec) (.slice bo L.length bc)) w.heap.size l L (.slice co l.length cc) (.slice eo l.length ec) (.slice bo L.length bc)) := hF.put3 _ _ _ hX3
    have HR4 : Hid ((put3 w3 w.heap.size (.slice co l.length cc) (.slice eo l.length ec) (.slice bo L.length bc)).heap[r]? = some (rdr s (ftB l bs).length)) := by show _ = _; rw [put3_other _ _ _ (by omega)]; exact hR3
    have HK4 : Hid (Kp r w (put3 w3 w.heap.size (.slice co l.length cc) (.slice eo l.length ec) (.slice bo L.length bc))) := ((hK.grown (box_set_grown _ w.heap.size 0 _) (fun g' e => by cases e; exact Nat.le_refl _)).grown (box_set_grown _ w.heap.size 1 _) (fun g' e => by cases e; exact Nat.le_refl _)).grown (box_set_grown _ w.heap.size 2 _) (fun g' e => by cases e; exact Nat.le_refl _)
    have HY : Hid ((put3 w3 w.heap.size (.slice co l.length cc) (.slice eo l.length ec) (.slice bo L.length bc)).heap[w.heap.size]? = some (.cells #[.slice co l.length cc, .slice eo l.length ec, .slice bo L.length bc] 110 (0, 0))) := put3_at _ _ _ hX3
    obtain ⟨⟨x0, x1, x2⟩, f0, f1, f2⟩ := three_of hX3
    have HFO : Hid (FOk l bs) := hf
    have HL : Hid (L.map Prod.fst = bs) := hL
    have HS : Hid (Starts (bytesOf s) 0 (ftB l bs)) := hs
    have HLE : Hid ((ftB l bs).length ≤ s.size) := hle
    have HZ : Hid (bytesOf z = bodyB bs) := hbz
    have HUN : Hid (∀ l' bs', FOk l' bs' → Starts (bytesOf s) 0 (ftB l' bs') → bytesOf z = bodyB bs' → l' = l ∧ bs' = bs) := hun
    clear hK hX3 hF hR3 hK3 hf hL hs hle hbz hun hoc hoe hob HR2 HQ2 HX2 HK2
    obtain ⟨⟨y0, y1, y2⟩, -⟩ := three_of HY.out
    unfold put3 at y0 y1 y2
    go_wp2
    simp [bodyPost, results, Try.results98, go_sem, y0, y1, y2]
    exact ⟨HK4.out, .inl ⟨l, bs, L, _, _, _, rfl, HFO.out, HL.out, HS.out, HLE.out, HR4.out, HZ.out, HF.out, HUN.out⟩⟩
end Go.Proofs.Ytjidbonhhpkljaa.Ec

/- Marks at the ends of a text, and a length of four bytes: the contracts. -/
set_option linter.unusedVariables false
namespace Go.Proofs.Ytjidbonhhpkljaa.Ec
open Go.RowKit Go.Proofs.Ytjidbonhhpkljaa.Pk Go.Proofs.Ytjidbonhhpkljaa.Pm
theorem toList_mark (t : ByteArray) : (t.toList == [83, 84, 82, 65]) = true ↔ bytesOf t = [83, 84, 82, 65] := by
  rw [beq_iff_eq, ByteArray.toList_eq]
  unfold bytesOf
  constructor
  · intro h; rw [h]; rfl
  · intro h
    have h2 : t.data.toList.map UInt8.toNat = [(83 : UInt8), 84, 82, 65].map UInt8.toNat := by rw [h]; rfl
    have inj : ∀ (a b : List UInt8), a.map UInt8.toNat = b.map UInt8.toNat → a = b := by
      intro a
      induction a with
      | nil => intro b hb; cases b with | nil => rfl | cons _ _ => simp at hb
      | cons x r ih =>
        intro b hb
        cases b with
        | nil => simp at hb
        | cons y q =>
          simp only [List.map_cons, List.cons.injEq] at hb
          rw [UInt8.toNat_inj.1 hb.1, ih q hb.2]
    exact inj _ _ h2
theorem pre_iff {s : ByteArray} (h4 : 4 ≤ s.size) : bytesOf (s.extract 0 4) = [83, 84, 82, 65] ↔ ∃ X, bytesOf s = [83, 84, 82, 65] ++ X := by
  rw [bytesOf_extract, List.drop_zero]
  constructor
  · intro h
    exact ⟨(bytesOf s).drop 4, by rw [← h]; exact (List.take_append_drop 4 _).symm⟩
  · rintro ⟨X, h⟩
    rw [h]
    simp
theorem suf_iff {s : ByteArray} (h4 : 4 ≤ s.size) : bytesOf (s.extract (s.size - 4) s.size) = [83, 84, 82, 65] ↔ ∃ X, bytesOf s = X ++ [83, 84, 82, 65] := by
  rw [bytesOf_extract]
  constructor
  · intro h
    refine ⟨(bytesOf s).take (s.size - 4), ?_⟩
    rw [← h, List.take_of_length_le (l := (bytesOf s).drop (s.size - 4)) (by rw [List.length_drop, bytesOf_length]; omega)]
    exact (List.take_append_drop _ _).symm
  · rintro ⟨X, h⟩
    have hl := congrArg List.length h
    rw [bytesOf_length] at hl
    simp at hl
    rw [h, show s.size - 4 = X.length by omega, List.drop_left]
    exact List.take_of_length_le (by simp; omega)

set_option maxRecDepth 100000 in
set_option maxHeartbeats 1000000 in
theorem hasPrefix_any (s : ByteArray) (w : World) (hm : s.size ≤ maxLen) :
    Calls Try.prog 156 #[.string s, .string ⟨#[83, 84, 82, 65]⟩] w fun e w' => ∃ bb, e = .returned (.bool bb) ∧ (bb = true ↔ 4 ≤ s.size ∧ ∃ X, bytesOf s = [83, 84, 82, 65] ++ X) ∧ w' = w := by
  unfold maxLen at hm
  by_cases h4 : 4 ≤ s.size
  · have hd : decide ((4 : Int) ≤ (s.size : Int)) = true := by simp; omega
    have h5 : (4 : Int) ≤ (s.size : Int) := by omega
    go_enter Try.func156, Try.ntmps156
    go_wp2
    go_ret
    exact ⟨_, rfl, by rw [toList_mark, pre_iff h4]; exact ⟨fun h => ⟨h4, h⟩, fun h => h.2⟩, rfl⟩
  · have hd : decide ((4 : Int) ≤ (s.size : Int)) = false := by simp; omega
    go_enter Try.func156, Try.ntmps156
    go_wp2
    go_ret
    exact ⟨false, rfl, ⟨fun h => (by simp at h), fun h => absurd h.1 h4⟩, rfl⟩

set_option maxRecDepth 100000 in
set_option maxHeartbeats 1000000 in
theorem hasSuffix_any (s : ByteArray) (w : World) (hm : s.size ≤ maxLen) :
    Calls Try.prog 157 #[.string s, .string ⟨#[83, 84, 82, 65]⟩] w fun e w' => ∃ bb, e = .returned (.bool bb) ∧ (bb = true ↔ 4 ≤ s.size ∧ ∃ X, bytesOf s = X ++ [83, 84, 82, 65]) ∧ w' = w := by
  unfold maxLen at hm
  by_cases h4 : 4 ≤ s.size
  · have hd : decide ((4 : Int) ≤ (s.size : Int)) = true := by simp; omega
    have h5 : (4 : Int) ≤ (s.size : Int) := by omega
    have h6 : wrap64 ((s.size : Int) - 4) = ((s.size - 4 : Nat) : Int) := by unfold wrap64; omega
    have h7 : ((s.size - 4 : Nat) : Int) ≤ (s.size : Int) := by omega
    have h8 : ((s.size : Int) - 4).toNat = s.size - 4 := by omega
    go_enter Try.func157, Try.ntmps157
    go_wp2
    go_ret
    exact ⟨_, rfl, by rw [toList_mark, suf_iff h4]; exact ⟨fun h => ⟨h4, h⟩, fun h => h.2⟩, rfl⟩
  · have hd : decide ((4 : Int) ≤ (s.size : Int)) = false := by simp; omega
    go_enter Try.func157, Try.ntmps157
    go_wp2
    go_ret
    exact ⟨false, rfl, ⟨fun h => (by simp at h), fun h => absurd h.1 h4⟩, rfl⟩

/-- What is left of a text ahead of which the mark stood. -/
def PreOf (s : ByteArray) (e : Ending) : Prop := ∃ (t : ByteArray) (bb : Bool), e = .returned (.tuple #[.string t, .bool bb]) ∧ ((bb = true ∧ bytesOf s = [83, 84, 82, 65] ++ bytesOf t) ∨ (bb = false ∧ t = s ∧ ∀ X, bytesOf s ≠ [83, 84, 82, 65] ++ X))
def SufOf (s : ByteArray) (e : Ending) : Prop := ∃ (t : ByteArray) (bb : Bool), e = .returned (.tuple #[.string t, .bool bb]) ∧ ((bb = true ∧ bytesOf s = bytesOf t ++ [83, 84, 82, 65]) ∨ (bb = false ∧ t = s ∧ ∀ X, bytesOf s ≠ X ++ [83, 84, 82, 65]))

set_option maxRecDepth 100000 in
set_option maxHeartbeats 1000000 in
theorem slCutPrefix_any (s : ByteArray) (w : World) (hm : s.size ≤ maxLen) :
    Calls Try.prog 146 #[.string s, .string ⟨#[83, 84, 82, 65]⟩] w fun e w' => PreOf s e ∧ w' = w := by
  have hm2 := hm
  unfold maxLen at hm2
  go_enter Try.func146, Try.ntmps146
  go_wp2_with fail
  refine (hasPrefix_any s _ hm).mono ?_
  rintro e w1 ⟨bb, rfl, hbb, rfl⟩
  cases bb
  · have HN : Hid (∀ X, bytesOf s ≠ [83, 84, 82, 65] ++ X) := fun X h => by
      have h4 : 4 ≤ s.size := by
        have := congrArg List.length h
        rw [bytesOf_length] at this
        simp at this
        omega
      exact absurd (hbb.2 ⟨h4, X, h⟩) (by simp)
    clear hbb
    go_wp2
    go_ret2
    exact ⟨⟨s, false, rfl, .inr ⟨rfl, rfl, HN.out⟩⟩, rfl⟩
  · have h4 := (hbb.1 rfl).1
    have HX : Hid (∃ X, bytesOf s = [83, 84, 82, 65] ++ X) := (hbb.1 rfl).2
    have h5 : (4 : Int) ≤ (s.size : Int) := by omega
    clear hbb
    go_wp2
    go_ret2
    refine ⟨⟨s.extract 4 s.size, true, rfl, .inl ⟨rfl, ?_⟩⟩, rfl⟩
    obtain ⟨X, hX⟩ := HX.out
    rw [bytesOf_extract, hX, List.take_of_length_le (by rw [List.length_drop, ← hX, bytesOf_length]; omega)]
    simp

set_option maxRecDepth 100000 in
set_option maxHeartbeats 1000000 in
theorem slCutSuffix_any (s : ByteArray) (w : World) (hm : s.size ≤ maxLen) :
    Calls Try.prog 147 #[.string s, .string ⟨#[83, 84, 82, 65]⟩] w fun e w' => SufOf s e ∧ w' = w := by
  have hm2 := hm
  unfold maxLen at hm2
  go_enter Try.func147, Try.ntmps147
  go_wp2_with fail
  refine (hasSuffix_any s _ hm).mono ?_
  rintro e w1 ⟨bb, rfl, hbb, rfl⟩
  cases bb
  · have HN : Hid (∀ X, bytesOf s ≠ X ++ [83, 84, 82, 65]) := fun X h => by
      have h4 : 4 ≤ s.size := by
        have := congrArg List.length h
        rw [bytesOf_length] at this
        simp at this
        omega
      exact absurd (hbb.2 ⟨h4, X, h⟩) (by simp)
    clear hbb
    go_wp2
    go_ret2
    exact ⟨⟨s, false, rfl, .inr ⟨rfl, rfl, HN.out⟩⟩, rfl⟩
  · have h4 := (hbb.1 rfl).1
    have HX : Hid (∃ X, bytesOf s = X ++ [83, 84, 82, 65]) := (hbb.1 rfl).2
    have h5 : (4 : Int) ≤ (s.size : Int) := by omega
    have h6 : wrap64 ((s.size : Int) - 4) = ((s.size - 4 : Nat) : Int) := by unfold wrap64; omega
    have h7 : ((s.size - 4 : Nat) : Int) ≤ (s.size : Int) := by omega
    have h8 : ((s.size : Int) - 4).toNat = s.size - 4 := by omega
    clear hbb
    go_wp2
    go_ret2
    refine ⟨⟨s.extract 0 (s.size - 4), true, rfl, .inl ⟨rfl, ?_⟩⟩, rfl⟩
    obtain ⟨X, hX⟩ := HX.out
    have hl := congrArg List.length hX
    rw [bytesOf_length] at hl
    simp at hl
    rw [bytesOf_extract, hX, List.drop_zero, show s.size - 4 - 0 = X.length by omega, List.take_left]

set_option maxRecDepth 100000 in
set_option maxHeartbeats 1000000 in
theorem cutPrefix_any (s : ByteArray) (w : World) (hm : s.size ≤ maxLen) :
    Calls Try.prog 129 #[.string s, .string ⟨#[83, 84, 82, 65]⟩] w fun e w' => PreOf s e ∧ w' = w := by
  go_enter Try.func129, Try.ntmps129
  go_wp2_with fail
  refine (slCutPrefix_any s _ hm).mono ?_
  rintro e w1 ⟨⟨t, bb, rfl, hh⟩, rfl⟩
  have HH : Hid _ := hh
  clear hh
  go_wp2
  go_ret2
  exact ⟨⟨t, bb, rfl, HH.out⟩, rfl⟩

set_option maxRecDepth 100000 in
set_option maxHeartbeats 1000000 in
theorem cutSuffix_any (s : ByteArray) (w : World) (hm : s.size ≤ maxLen) :
    Calls Try.prog 130 #[.string s, .string ⟨#[83, 84, 82, 65]⟩] w fun e w' => SufOf s e ∧ w' = w := by
  go_enter Try.func130, Try.ntmps130
  go_wp2_with fail
  refine (slCutSuffix_any s _ hm).mono ?_
  rintro e w1 ⟨⟨t, bb, rfl, hh⟩, rfl⟩
  have HH : Hid _ := hh
  clear hh
  go_wp2
  go_ret2
  exact ⟨⟨t, bb, rfl, HH.out⟩, rfl⟩

/-- The number that four bytes are, the lowest first. -/
def len4 (s : ByteArray) : Nat → Nat
  | 0 => 0
  | k + 1 => len4 s k + 256 ^ k * (bytesOf s).getD k 0
theorem getD_lt (s : ByteArray) (k : Nat) : (bytesOf s).getD k 0 < 256 := by
  by_cases h : k < s.size
  · rw [List.getD_eq_getElem?_getD, byte_at s k h]
    exact s[k].toNat_lt
  · rw [List.getD_eq_getElem?_getD, List.getElem?_eq_none (by rw [bytesOf_length]; omega)]
    simp
theorem len4_lt (s : ByteArray) : ∀ k, len4 s k < 256 ^ k
  | 0 => by simp [len4]
  | k + 1 => by
    have h1 := len4_lt s k
    have h2 := getD_lt s k
    have h3 : 256 ^ k * (bytesOf s).getD k 0 ≤ 256 ^ k * 255 := Nat.mul_le_mul_left _ (by omega)
    rw [len4, Nat.pow_succ]
    omega
theorem pow8 (j : Nat) : (256 : Nat) ^ j = 2 ^ (8 * j) := by rw [Nat.pow_mul]
theorem or_byte (acc c j : Nat) (hj : j ≤ 3) (ha : acc < 256 ^ j) (hc : c < 256) : bits .or .u64 (acc : Int) (IntKind.u64.wrap ((c : Int) * 2 ^ (8 * j))) = ((acc + 256 ^ j * c : Nat) : Int) := by
  have h9 : (256 : Nat) ^ 3 = 16777216 := by decide
  have hp : 256 ^ j ≤ 256 ^ 3 := Nat.pow_le_pow_right (by omega) hj
  have hlt : 2 ^ (8 * j) * c < 18446744073709551616 := by
    rw [← pow8]
    have := Nat.mul_le_mul hp (show c ≤ 255 by omega)
    omega
  have hcast : (c : Int) * 2 ^ (8 * j) = ((2 ^ (8 * j) * c : Nat) : Int) := by push_cast; rw [Int.mul_comm]
  have hw : IntKind.u64.wrap ((c : Int) * 2 ^ (8 * j)) = ((2 ^ (8 * j) * c : Nat) : Int) := by rw [hcast, wrap_u64]; omega
  have hor := (bits_nat .u64 64 (by decide) wraps_u64 acc (2 ^ (8 * j) * c) (by omega) (by omega)).2
  rw [hw, hor, Nat.or_comm, ← Nat.two_pow_add_eq_or_of_lt (by rw [← pow8]; exact ha) c, Nat.add_comm, pow8]

set_option maxRecDepth 100000 in
set_option maxHeartbeats 2000000 in
theorem readLength_any (s : ByteArray) (w : World) (h4 : s.size = 4) :
    Calls Try.prog 131 #[.string s] w fun e w' => e = .returned (.int .u64 (len4 s 4 : Int)) ∧ w' = w := by
  go_enter Try.func131, Try.ntmps131
  go_wp2_with fail
  go_loopw [3, 5] (fun n i wr => ∃ k : Nat, k ≤ 4 ∧ i = .int .i64 (k : Int) ∧ n = .int .u64 (len4 s k : Int) ∧ wr = w) (fun _ i _ => 4 - (intOf i).toNat)
  case atStart => exact ⟨0, by omega, rfl, rfl, rfl⟩
  case round =>
    obtain ⟨k, hk, rfl, rfl, rfl⟩ := hrel
    by_cases hlt : k < 4
    · have hks : k < s.size := by omega
      have hks2 : (k : Int) < (s.size : Int) := by omega
      have HB : Hid (s[k].toNat = (bytesOf s).getD k 0) := by show _ = _; rw [List.getD_eq_getElem?_getD, byte_at s k hks]; rfl
      have hc : s[k].toNat < 256 := s[k].toNat_lt
      have hor := or_byte (len4 s k) s[k].toNat k (by omega) (len4_lt s k) hc
      have hw : IntKind.u64.wrap (s[k].toNat : Int) = (s[k].toNat : Int) := by rw [wrap_u64]; omega
      go_wp2_with fail
      refine ⟨⟨k + 1, by omega, by go_num, ?_, trivial⟩, by simp [intOf]; omega⟩
      rw [len4, ← HB.out]
      push_cast
      rfl
    · obtain rfl : k = 4 := by omega
      go_wp2
      go_ret
      exact ⟨rfl, rfl⟩
end Go.Proofs.Ytjidbonhhpkljaa.Ec

/- A file is cut into its chunks and its footer: the contract of cut. -/
set_option linter.unusedVariables false
namespace Go.Proofs.Ytjidbonhhpkljaa.Ec
open Go.RowKit Go.Proofs.Ytjidbonhhpkljaa.Pk Go.Proofs.Ytjidbonhhpkljaa.Pm
theorem lenB_len4 (E : ByteArray) (h : E.size = 4) : lenB (len4 E 4) = bytesOf E := by
  have hl : (bytesOf E).length = 4 := by rw [bytesOf_length, h]
  have g0 := getD_lt E 0
  have g1 := getD_lt E 1
  have g2 := getD_lt E 2
  have g3 := getD_lt E 3
  simp only [len4]
  generalize bytesOf E = B at *
  match B, hl with
  | [a, b, c, d], _ =>
    simp at g0 g1 g2 g3
    simp [lenB]
    omega
theorem len4_lenB (E : ByteArray) (n : Nat) (hn : n ≤ 65536) (h : bytesOf E = lenB n) : len4 E 4 = n := by
  have hs : E.size = 4 := by rw [← bytesOf_length, h]; rfl
  have h2 := lenB_len4 E hs
  have h3 : lenB (len4 E 4) = lenB n := by rw [h2, h]
  have h4 := len4_lt E 4
  unfold lenB at h3
  simp at h3
  have : (256 : Nat) ^ 4 = 4294967296 := by decide
  omega
/-- What cut answers. -/
def CutR (s : ByteArray) (e : Ending) : Prop :=
  (∃ C F : ByteArray, e = .returned (.tuple #[.string C, .string F, .bool true]) ∧ Cut s (bytesOf C) (bytesOf F)) ∨ (e = .returned (.tuple #[.string ⟨#[]⟩, .string ⟨#[]⟩, .bool false]) ∧ ∀ C F, ¬ Cut s C F)

set_option maxRecDepth 100000 in
set_option maxHeartbeats 2000000 in
theorem cut_any (s : ByteArray) (w : World) (hm : s.size ≤ maxLen) :
    Calls Try.prog 96 #[.string s] w fun e w' => CutR s e ∧ Below w.heap.size w w' := by
  have hmm := hm
  unfold maxLen at hmm
  by_cases hbig : 65536 < s.size
  · have hd : decide ((65536 : Int) < (s.size : Int)) = true := by simp; omega
    have HN : Hid (∀ C F, ¬ Cut s C F) := fun C F h => by have := h.1; omega
    go_enter Try.func96, Try.ntmps96
    go_wp2
    simp [bodyPost, results, Try.results96, go_sem]
    exact ⟨.inr ⟨rfl, HN.out⟩, Below.refl _ _⟩
  · have hd : decide ((65536 : Int) < (s.size : Int)) = false := by simp; omega
    go_enter Try.func96, Try.ntmps96
    go_wp2_with fail
    refine (cutPrefix_any s _ hm).mono ?_
    rintro e w1 ⟨⟨t, bb, rfl, ht⟩, rfl⟩
    rcases ht with ⟨rfl, ht⟩ | ⟨rfl, rfl, ht⟩
    rotate_left
    · have HN : Hid (∀ C F, ¬ Cut t C F) := fun C F h => ht _ h.2
      clear ht
      go_wp2_with fail
      refine (cutSuffix_any t _ hm).mono ?_
      rintro e w2 ⟨⟨u, bb, rfl, hu⟩, rfl⟩
      clear hu
      go_wp2
      simp [bodyPost, results, Try.results96, go_sem]
      exact ⟨.inr ⟨rfl, HN.out⟩, Below.refl _ _⟩
    · have hts : t.size + 4 = s.size := by
        have := congrArg List.length ht
        rw [bytesOf_length, List.length_append, bytesOf_length] at this
        simp at this
        omega
      have htm : t.size ≤ maxLen := by unfold maxLen; omega
      have HT : Hid (bytesOf s = [83, 84, 82, 65] ++ bytesOf t) := ht
      clear ht
      go_wp2_with fail
      refine (cutSuffix_any t _ htm).mono ?_
      rintro e w2 ⟨⟨u, bb, rfl, hu⟩, rfl⟩
      rcases hu with ⟨rfl, hu⟩ | ⟨rfl, rfl, hu⟩
      rotate_left
      · have HN : Hid (∀ C F, ¬ Cut s C F) := fun C F h => by
          have h2 := h.2
          rw [HT.out] at h2
          have h3 := List.append_cancel_left (show [83, 84, 82, 65] ++ bytesOf _ = [83, 84, 82, 65] ++ _ from h2)
          exact hu (C ++ (F ++ lenB F.length)) (by rw [h3]; simp [markB])
        clear hu
        go_wp2
        simp [bodyPost, results, Try.results96, go_sem]
        exact ⟨.inr ⟨rfl, HN.out⟩, Below.refl _ _⟩
      · have hus : u.size + 4 = t.size := by
          have := congrArg List.length hu
          rw [bytesOf_length, List.length_append, bytesOf_length] at this
          simp at this
          omega
        have HCU : Hid (∀ C F, Cut s C F → bytesOf u = C ++ (F ++ lenB F.length)) := fun C F h => by
          have h2 := h.2
          rw [HT.out] at h2
          have h3 := List.append_cancel_left (show [83, 84, 82, 65] ++ bytesOf _ = [83, 84, 82, 65] ++ _ from h2)
          rw [hu] at h3
          have h4 : bytesOf u ++ [83, 84, 82, 65] = (C ++ (F ++ lenB F.length)) ++ [83, 84, 82, 65] := by rw [h3]; simp [markB]
          exact List.append_cancel_right h4
        have HUC : Hid (∀ C F, bytesOf u = C ++ (F ++ lenB F.length) → Cut s C F) := fun C F h => by
          refine ⟨by omega, ?_⟩
          rw [HT.out, hu, h]
          simp [markB]
        clear hu HT
        by_cases h4 : u.size < 4
        · have hd4 : decide ((u.size : Int) - 4 < 0) = true := by simp; omega
          have hw : wrap64 ((u.size : Int) - 4) = (u.size : Int) - 4 := by unfold wrap64; omega
          have HN : Hid (∀ C F, ¬ Cut s C F) := fun C F h => by
            have := congrArg List.length (HCU.out C F h)
            rw [bytesOf_length] at this
            simp [lenB] at this
            omega
          clear HCU HUC
          go_wp2
          simp [bodyPost, results, Try.results96, go_sem]
          exact ⟨.inr ⟨rfl, HN.out⟩, Below.refl _ _⟩
        · obtain ⟨n, hn⟩ : ∃ n, u.size = n + 4 := ⟨u.size - 4, by omega⟩
          have hd4 : decide ((n : Int) < 0) = false := by simp
          have hw : wrap64 ((u.size : Int) - 4) = (n : Int) := by unfold wrap64; omega
          have h5 : (n : Int) ≤ (u.size : Int) := by omega
          have h8 : (u.size : Int) - 4 = (n : Int) := by omega
          obtain ⟨E, hE⟩ : ∃ E, E = u.extract n (n + 4) := ⟨_, rfl⟩
          have hes : E.size = 4 := by rw [hE, ByteArray.size_extract]; omega
          have HE : Hid (bytesOf u = (bytesOf u).take n ++ bytesOf E) := by
            show _ = _
            rw [hE, bytesOf_extract, List.take_of_length_le (l := (bytesOf u).drop n) (by rw [List.length_drop, bytesOf_length]; omega), List.take_append_drop]
          have HRL : Hid (Calls Try.prog 131 #[.string (u.extract n (n + 4))] w2 fun e w' => e = .returned (.int .u64 (len4 E 4 : Int)) ∧ w' = w2) := by rw [← hE]; exact readLength_any E _ hes
          have HL4 : Hid (lenB (len4 E 4) = bytesOf E) := lenB_len4 E hes
          have HLT : Hid (len4 E 4 < 4294967296) := len4_lt E 4
          have HCE : Hid (∀ C F, Cut s C F → len4 E 4 = F.length ∧ F.length ≤ n) := fun C F h => by
            have h1 := HCU.out C F h
            have h2 := HE.out
            have hl := congrArg List.length h1
            rw [bytesOf_length] at hl
            simp [lenB] at hl
            have h3 : (bytesOf u).take n ++ bytesOf E = (C ++ F) ++ lenB F.length := by rw [← h2, h1, List.append_assoc]
            have h6 := (List.append_inj' h3 (by rw [bytesOf_length, hes]; rfl)).2
            exact ⟨len4_lenB E _ (by omega) h6, by omega⟩
          clear hE
          generalize len4 E 4 = L at *
          go_wp2_with fail
          refine HRL.out.mono ?_
          rintro e w3 ⟨rfl, rfl⟩
          have hw2 : IntKind.u64.wrap (n : Int) = (n : Int) := by rw [wrap_u64]; omega
          have HNN : Hid (u.size = n + 4) := hn
          have HEE : Hid (E.size = 4) := hes
          have hn6 : n ≤ 65536 := by omega
          have HSS : Hid (s.size ≤ 65536) := by show _ ≤ _; omega
          have hnu : (n : Int) ≤ (u.size : Int) := by omega
          clear HRL hw h8 h5 hd4 hts hus htm hn hes hd hmm hm hbig h4
          by_cases hLn : n < L
          · have hdl : (n : Int) < (L : Int) := by omega
            have HN : Hid (∀ C F, ¬ Cut s C F) := fun C F h => by have := HCE.out C F h; omega
            clear HCU HUC HCE
            go_wp2
            simp [bodyPost, results, Try.results96, go_sem]
            exact ⟨.inr ⟨rfl, HN.out⟩, Below.refl _ _⟩
          · have hdl : decide ((n : Int) < (L : Int)) = false := by simp; omega
            obtain ⟨m, hmn⟩ : ∃ m, n = m + L := ⟨n - L, by omega⟩
            have hw5 : (n : Int) - (L : Int) = (m : Int) := by omega
            have h6 : (m : Int) ≤ (n : Int) := by omega
            have h7 : (m : Int) ≤ (u.size : Int) := by omega
            have HF : Hid (Cut s (bytesOf (u.extract 0 m)) (bytesOf (u.extract m n))) := by
              refine HUC.out _ _ ?_
              have hlen : (bytesOf (u.extract m n)).length = L := by rw [bytesOf_length, ByteArray.size_extract]; omega
              rw [hlen, HL4.out]
              have h2 := HE.out
              rw [bytesOf_extract, bytesOf_extract, List.drop_zero, ← List.append_assoc]
              have h3 : ((bytesOf u).take (m - 0)) ++ ((bytesOf u).drop m).take (n - m) = (bytesOf u).take n := by
                rw [show n = m + (n - m) by omega, List.take_add, show m + (n - m) - m = n - m by omega]
                rfl
              rw [h3]
              exact h2
            have hL6 : L ≤ 65536 := by omega
            clear HCU HUC HCE HE HL4 HLT hmn hLn
            go_upto_region 12 with fail
            go_quiet (fail)
            go_wp2
            simp [bodyPost, results, Try.results96, go_sem]
            exact ⟨.inl ⟨_, _, rfl, HF.out⟩, below_drewN (Below.refl _ _) _⟩
end Go.Proofs.Ytjidbonhhpkljaa.Ec
