/- What the proof stands on: WrFootR, WrColsR, WrWriteA, RdFile, RdBandP, RdRows. -/
import Derived.Test.YtjidbonhhpkljaaMd

/- The footer as a text: the document's side. -/
set_option linter.unusedVariables false
set_option linter.unusedSimpArgs false
namespace Go.Proofs.Ytjidbonhhpkljaa.Ec
open Go.RowKit Go.Proofs.Ytjidbonhhpkljaa.Pk Go.Proofs.Ytjidbonhhpkljaa.Pm
/-- A part, as the document has it: its length, its bounds, its text (which may not be there yet). -/
structure Prt where
  size : Nat
  bnd : Bnd
  text : ByteArray
structure RBd where
  rows : Nat
  parts : List Prt
def noPrt : Prt := ⟨0, noBnd, ⟨#[]⟩⟩
def rcell (p : Prt) : List Value := [.int .i64 (p.size : Int), .bool p.bnd.there, .bool p.bnd.least.null, .int .i64 p.bnd.least.n, .string p.bnd.least.s, .bool p.bnd.most.null, .int .i64 p.bnd.most.n, .string p.bnd.most.s, .string p.text]
theorem rcell_len (p : Prt) : (rcell p).length = 9 := rfl
def ecell (p : RBd × Value) : List Value := [.int .i64 (p.1.rows : Int), p.2]
theorem ecell_len (p : RBd × Value) : (ecell p).length = 2 := rfl
/-- What the footer says of a part. -/
def prtB (cs : List Col) (l : List Prt) (i : Nat) : List Nat := vint (l.getD i noPrt).size ++ boundB (cs.getD i ⟨⟨#[]⟩, 0⟩).kind (l.getD i noPrt).bnd
def prtsB (cs : List Col) (l : List Prt) (n : Nat) : List Nat := (List.range n).flatMap (prtB cs l)
theorem prtsB_succ (cs : List Col) (l : List Prt) (n : Nat) : prtsB cs l (n + 1) = prtsB cs l n ++ prtB cs l n := by
  unfold prtsB
  rw [List.range_succ, List.flatMap_append, List.flatMap_singleton]
def rbandB (cs : List Col) (b : RBd) : List Nat := vint b.rows ++ prtsB cs b.parts b.parts.length
def rbandsB (cs : List Col) (bs : List RBd) : List Nat := bs.flatMap (rbandB cs)
theorem rbandsB_take (cs : List Col) (bs : List RBd) (k : Nat) (h : k < bs.length) : rbandsB cs (bs.take (k + 1)) = rbandsB cs (bs.take k) ++ rbandB cs bs[k] := by
  unfold rbandsB
  rw [List.take_succ_eq_append_getElem h, List.flatMap_append, List.flatMap_singleton]
def footR (cs : List Col) (es : List Int) (bs : List RBd) : List Nat := vint cs.length ++ (colsB cs es cs.length ++ (vint bs.length ++ rbandsB cs bs))

/-- What is asked of bands. -/
structure RbOk (n : Nat) (b : RBd) : Prop where
  rows : b.rows < 2147483648
  len : b.parts.length = n
  size : ∀ c ∈ b.parts, c.size < 2147483648
  least : ∀ c ∈ b.parts, VOk c.bnd.least
  most : ∀ c ∈ b.parts, VOk c.bnd.most
theorem prt_mem {l : List Prt} {i : Nat} (h : i < l.length) : l.getD i noPrt ∈ l := by
  rw [List.getD_eq_getElem?_getD, List.getElem?_eq_getElem h]
  exact List.getElem_mem h
theorem prtB_len {n : Nat} {b : RBd} (h : RbOk n b) (cs : List Col) {i : Nat} (hi : i < b.parts.length) : (prtB cs b.parts i).length ≤ 95 := by
  have hm := prt_mem hi
  have h1 := vint_len (b.parts.getD i noPrt).size
  have h2 := boundB_len (cs.getD i ⟨⟨#[]⟩, 0⟩).kind (b.parts.getD i noPrt).bnd (h.least _ hm).sz (h.most _ hm).sz
  unfold prtB
  rw [List.length_append]
  omega
theorem prtsB_len {n : Nat} {b : RBd} (h : RbOk n b) (cs : List Col) (k : Nat) (hk : k ≤ b.parts.length) : (prtsB cs b.parts k).length ≤ k * 95 := by
  have := flat_le (prtB cs b.parts) 95 (List.range k) (fun i hi => prtB_len h cs (by have := List.mem_range.1 hi; omega))
  simpa [prtsB] using this
theorem rbandB_len {n : Nat} {b : RBd} (h : RbOk n b) (hn : n ≤ 8) (cs : List Col) : (rbandB cs b).length ≤ 770 := by
  have h1 := prtsB_len h cs b.parts.length (Nat.le_refl _)
  have h2 := vint_len b.rows
  have h3 := h.len
  unfold rbandB
  rw [List.length_append]
  omega
theorem rbandsB_len {n : Nat} {bs : List RBd} (h : ∀ b ∈ bs, RbOk n b) (hn : n ≤ 8) (cs : List Col) : (rbandsB cs bs).length ≤ bs.length * 770 :=
  flat_le (rbandB cs) 770 bs (fun b hb => rbandB_len (h b hb) hn cs)
/-- The bands of a file, as the document reads them. -/
def RBands (w : World) (bv : Value) (bs : List RBd) : Prop := ∃ L : List (RBd × Value), L.map Prod.fst = bs ∧ GSl w ecell 2 bv L ∧ ∀ p ∈ L, GSl w rcell 9 p.2 p.1.parts
theorem RBands.below {w w' : World} {bv : Value} {bs : List RBd} (h : RBands w bv bs) (hb : Below w.heap.size w w') : RBands w' bv bs := by
  obtain ⟨L, h1, h2, h3⟩ := h
  exact ⟨L, h1, h2.below hb, fun p hp => (h3 p hp).below hb⟩

theorem four_of {w : World} {g : Nat} {a b c d : Value} {t : TypeId} (h : w.heap[g]? = some (.cells #[a, b, c, d] t (0, 0))) : w.cell? ⟨g, 0, none⟩ = some a ∧ w.cell? ⟨g, 1, none⟩ = some b ∧ w.cell? ⟨g, 2, none⟩ = some c ∧ w.cell? ⟨g, 3, none⟩ = some d := by
  exact ⟨by simp [World.cell?, h], by simp [World.cell?, h], by simp [World.cell?, h], by simp [World.cell?, h]⟩
theorem prt_cells {w : World} {g : Nat} {p : Prt} {t : TypeId} (h : w.heap[g]? = some (.cells (rcell p).toArray t (0, 0))) :
    w.cell? ⟨g, 0, none⟩ = some (.int .i64 (p.size : Int)) ∧ w.cell? ⟨g, 1, none⟩ = some (.bool p.bnd.there) ∧ w.cell? ⟨g, 2, none⟩ = some (.bool p.bnd.least.null) ∧ w.cell? ⟨g, 3, none⟩ = some (.int .i64 p.bnd.least.n) ∧ w.cell? ⟨g, 4, none⟩ = some (.string p.bnd.least.s) ∧
      w.cell? ⟨g, 5, none⟩ = some (.bool p.bnd.most.null) ∧ w.cell? ⟨g, 6, none⟩ = some (.int .i64 p.bnd.most.n) ∧ w.cell? ⟨g, 7, none⟩ = some (.string p.bnd.most.s) ∧ w.cell? ⟨g, 8, none⟩ = some (.string p.text) := by
  unfold rcell at h
  exact ⟨by simp [World.cell?, h], by simp [World.cell?, h], by simp [World.cell?, h], by simp [World.cell?, h], by simp [World.cell?, h], by simp [World.cell?, h], by simp [World.cell?, h], by simp [World.cell?, h], by simp [World.cell?, h]⟩
/-- 'string([]byte{x, y})'. -/
theorem conv_two {w : World} {g : Nat} {x y : Nat} (h0 : w.cell? ⟨g, 0, none⟩ = some (.int .u8 (x : Int))) (h1 : w.cell? ⟨g, 1, none⟩ = some (.int .u8 (y : Int))) :
    (convert 44 9 (.slice (some ⟨g, 0, none⟩) 2 2)).run Try.prog w = .ok (.string (strOf [x, y])) w :=
  run_convert_bytes_arg w 44 5 Try.underlying44 Try.underlying5 g 0 2 2 [(x : Int), (y : Int)] rfl (fun i hi => by
    have : i = 0 ∨ i = 1 := by omega
    rcases this with rfl | rfl
    · simpa using h0
    · simpa using h1) 9 Try.underlying9
theorem below_a {w w1 : World} (h : Below w.drew.heap.size w.drew w1) : Below w.heap.size w w1 := (Below.refl w.heap.size w).drew.trans h
theorem after_two {w w1 : World} {x y : Value} {t : TypeId} (h : Below ((w.alloc (.cells #[x, y] t)).drew).heap.size (w.alloc (.cells #[x, y] t)).drew w1) : w1.cell? ⟨w.heap.size, 0, none⟩ = some x ∧ w1.cell? ⟨w.heap.size, 1, none⟩ = some y := by
  have := two_of (alloc_at w (.cells #[x, y] t))
  exact ⟨(h.cell (p := ⟨w.heap.size, 0, none⟩) (by simp)).trans this.1, (h.cell (p := ⟨w.heap.size, 1, none⟩) (by simp)).trans this.2⟩

theorem after_new2 {w w1 : World} {v : Value} {t : TypeId} (h : Below (w.alloc (.cells #[v] t)).heap.size (w.alloc (.cells #[v] t)) w1) : w1.cell? ⟨w.heap.size, 0, none⟩ = some v :=
  (h.cell (p := ⟨w.heap.size, 0, none⟩) (by simp)).trans (by simp)
theorem after_old {w w1 : World} {g : Nat} {v : Value} (h : Below w.heap.size w w1) (hc : w.cell? ⟨g, 0, none⟩ = some v) : w1.cell? ⟨g, 0, none⟩ = some v :=
  (h.cell (p := ⟨g, 0, none⟩) (World.block_lt_of_cell? w _ hc)).trans hc

set_option maxRecDepth 100000 in
set_option maxHeartbeats 16000000 in
theorem foot_any (cs : List Col) (es : List Int) (bs : List RBd) (cv ev bv rn : Value) (fb : Nat) (w : World) (hcl : cs.length ≤ 8) (hel : es.length = cs.length) (hnm : ∀ c ∈ cs, c.name.size ≤ 16) (hkd : ∀ c ∈ cs, c.kind = 1 ∨ c.kind = 2 ∨ c.kind = 3) (hbn : bs.length ≤ 2000) (hbs : ∀ b ∈ bs, RbOk cs.length b)
    (hfb : w.heap[fb]? = some (.cells #[cv, ev, bv, rn] 96 (0, 0))) (hcs : CSl w cv cs) (hes : ISl w ev es) (hbb : RBands w bv bs) :
    Calls Try.prog 57 #[.pointer (some ⟨fb, 0, none⟩)] w fun e w' => e = .returned (.string (strOf (footR cs es bs))) ∧ Below w.heap.size w w' := by
  obtain ⟨L, hL, hg, hE⟩ := hbb
  obtain ⟨bo, bb, boff, bcap, rfl, hgr⟩ := hg
  obtain ⟨co, cb, coff, ccap, rfl, hccap, hcr⟩ := hcs
  obtain ⟨eo, eb, eoff, ecap, rfl, he1, he2, he3⟩ := hes
  have HCR : Hid (CRow w co cb coff cs) := hcr
  have HE1 : Hid (0 < es.length → eo = some ⟨eb, eoff, none⟩) := he1
  have HE2 : Hid (0 < es.length → eb < w.heap.size) := he2
  have HE3 : Hid (∀ j, j < es.length → w.cell? ⟨eb, eoff + j, none⟩ = some (.int .i64 (es.getD j 0))) := he3
  have HEL : Hid (es.length = cs.length) := hel
  have HNM : Hid (∀ c ∈ cs, c.name.size ≤ 16) := hnm
  have HKD : Hid (∀ c ∈ cs, c.kind = 1 ∨ c.kind = 2 ∨ c.kind = 3) := hkd
  have HBS : Hid (∀ b ∈ bs, RbOk cs.length b) := hbs
  have HL : Hid (L.map Prod.fst = bs) := hL
  have HLN : Hid (L.length = bs.length) := by show _ = _; rw [← hL, List.length_map]
  have HGR : Hid (GRow w ecell 2 bo bb boff L) := hgr
  have HEA : Hid (∀ p ∈ L, GSl w rcell 9 p.2 p.1.parts) := hE
  have hln : L.length ≤ 2000 := by have := HLN.out; omega
  have hfl : fb < w.heap.size := lt_of_block hfb
  have HF : Hid (∀ W, Below w.heap.size w W → W.cell? ⟨fb, 0, none⟩ = some (.slice co cs.length ccap) ∧ W.cell? ⟨fb, 1, none⟩ = some (.slice eo es.length ecap) ∧ W.cell? ⟨fb, 2, none⟩ = some (.slice bo L.length bcap)) := fun W h => by
    have := four_of ((h.block _ hfl).trans hfb)
    exact ⟨this.1, this.2.1, this.2.2.1⟩
  have HVI : Hid (∀ (n : Nat) (W : World), n < 18446744073709551616 → Calls Try.prog 87 #[.int .u64 (n : Int)] W fun e w' => e = .returned (.string (strOf (vint n))) ∧ Below W.heap.size W w') := fun n W h => varint_any n W h
  clear hcr he1 he2 he3 hel hnm hkd hbs hL hgr hE hfb
  obtain ⟨t0, t1, t2⟩ := HF.out w (Below.refl _ _)
  have hw1 : IntKind.u64.wrap (cs.length : Int) = (cs.length : Int) := by rw [wrap_u64]; omega
  go_enter Try.func57, Try.ntmps57
  go_wp2_with (go_at_call 87; refine (HVI.out cs.length _ (by omega)).mono ?_; rintro e w1 ⟨rfl, hb1⟩)
  have HB1 : Hid (Below w.heap.size w w1) := hb1
  clear hw1 t0 t1 t2 hb1
  have HS0 : Hid (strOf (vint cs.length) = strOf (vint cs.length ++ colsB cs es 0)) := by show _ = _; rw [show colsB cs es 0 = [] from rfl, List.append_nil]
  go_loopw [3, 4] (fun s i wr => ∃ k : Nat, k ≤ cs.length ∧ i = .int .i64 (k : Int) ∧ s = .string (strOf (vint cs.length ++ colsB cs es k)) ∧ Below w.heap.size w wr) (fun _ i _ => cs.length - (intOf i).toNat)
  case atStart => exact ⟨0, Nat.zero_le _, rfl, by rw [HS0.out], HB1.out⟩
  case round =>
    clear HS0 HB1
    obtain ⟨k, hk, rfl, rfl, hbel⟩ := hrel
    have HB : Hid (Below w.heap.size w wr) := hbel
    obtain ⟨t0, t1, t2⟩ := HF.out wr hbel
    have hsz : w.heap.size ≤ wr.heap.size := hbel.size
    have hfl2 : fb < wr.heap.size := by omega
    by_cases hlt : k < cs.length
    · have hle : k < es.length := by rw [HEL.out]; exact hlt
      have hcr := HCR.out.below hbel
      obtain rfl := hcr.addr (by omega)
      obtain rfl := HE1.out (by omega)
      have p0 := hcr.c0 k hlt
      have p1 := hcr.c1 k hlt
      have hlb : eb < wr.heap.size := Nat.lt_of_lt_of_le (HE2.out (by omega)) hsz
      have e0 : wr.cell? ⟨eb, eoff + k, none⟩ = some (.int .i64 (es.getD k 0)) := (hbel.cell (p := ⟨eb, eoff + k, none⟩) (HE2.out (by omega))).trans (HE3.out k hle)
      have HP : Hid (strOf (vint cs.length ++ colsB cs es k) ++ strOf (vint cs[k].name.size) ++ cs[k].name ++ strOf [byteOf cs[k].kind, byteOf (es.getD k 0)] = strOf (vint cs.length ++ colsB cs es (k + 1))) := by
        show _ = _
        rw [colsB_succ]
        unfold colB
        rw [List.getD_eq_getElem?_getD (l := cs), List.getElem?_eq_getElem hlt]
        simp only [Option.getD_some, strOf_append, strOf_bytesOf, ByteArray.append_assoc]
      have hnm := HNM.out cs[k] (List.getElem_mem hlt)
      have hpl : (strOf (vint cs.length ++ colsB cs es k)).size ≤ 300 := by
        have h1 := vint_len cs.length
        have h2 := colsB_len (es := es) HNM.out k hk
        rw [strOf_size, List.length_append]
        omega
      have hki : (k : Int) < (es.length : Int) := by omega
      have hkc : (k : Int) < (cs.length : Int) := by omega
      generalize cs[k] = c at *
      generalize es.getD k 0 = en at *
      generalize strOf (vint cs.length ++ colsB cs es k) = S at *
      clear hcr hbel
      go_upto_region 6 with fail
      have hcx : (wr.alloc (.cells #[.string c.name, .int .i64 c.kind] 104)).heap[wr.heap.size]? = some (.cells #[.string c.name, .int .i64 c.kind] 104 (0, 0)) := alloc_at _ _
      have HB2 : Hid (Below w.heap.size w (wr.alloc (.cells #[.string c.name, .int .i64 c.kind] 104))) := HB.out.alloc hsz _
      have e2 : (wr.alloc (.cells #[.string c.name, .int .i64 c.kind] 104)).cell? ⟨eb, eoff + k, none⟩ = some (.int .i64 en) := (((Below.refl wr.heap.size wr).alloc (Nat.le_refl _) _).cell (p := ⟨eb, eoff + k, none⟩) hlb).trans e0
      have gz : wr.heap.size < (wr.alloc (.cells #[.string c.name, .int .i64 c.kind] 104)).heap.size := by simp
      generalize wr.alloc (.cells #[.string c.name, .int .i64 c.kind] 104) = W1 at *
      clear t0 t1 t2 p0 p1 e0
      obtain ⟨t0, t1, t2⟩ := HF.out W1 HB2.out
      obtain ⟨q0, q1⟩ := two_of hcx
      have g1 : fb < W1.heap.size := by omega
      have g2 : eb < W1.heap.size := by omega
      generalize wr.heap.size = gc at *
      have hw1 : IntKind.u8.wrap c.kind = (byteOf c.kind : Int) := byteOf_int c.kind
      have hw2 : IntKind.u8.wrap en = (byteOf en : Int) := byteOf_int en
      have hw3 : IntKind.u64.wrap (c.name.size : Int) = (c.name.size : Int) := by rw [wrap_u64]; omega
      have HV2 : Hid (∀ W : World, Calls Try.prog 87 #[.int .u64 (c.name.size : Int)] W fun e w' => e = .returned (.string (strOf (vint c.name.size))) ∧ Below W.heap.size W w') := fun W => HVI.out _ W (by omega)
      have hvz : (strOf (vint c.name.size)).size ≤ 10 := by rw [strOf_size]; exact vint_len _
      have hyz : (strOf [byteOf c.kind, byteOf en]).size = 2 := by rw [strOf_size]; rfl
      have hcv : ∀ (W : World) (g : Nat), W.cell? ⟨g, 0, none⟩ = some (.int .u8 (byteOf c.kind : Int)) → W.cell? ⟨g, 1, none⟩ = some (.int .u8 (byteOf en : Int)) → (convert 44 9 (.slice (some ⟨g, 0, none⟩) 2 2)).run Try.prog W = .ok (.string (strOf [byteOf c.kind, byteOf en])) W := fun W g h h' => conv_two h h'
      generalize strOf (vint c.name.size) = V at *
      generalize strOf [byteOf c.kind, byteOf en] = Y at *
      generalize byteOf c.kind = y1 at *
      generalize byteOf en = y2 at *
      have hs1 : ¬ 9223372036854775807 < S.size + V.size := by omega
      have hs2 : ¬ 9223372036854775807 < S.size + V.size + c.name.size := by omega
      have hs3 : ¬ 9223372036854775807 < S.size + V.size + c.name.size + Y.size := by omega
      clear hyz hvz
      refine Un.begin_ (fun W => W.cell? ⟨gc, 0, none⟩ = some (.string c.name) ∧ W.cell? ⟨gc, 1, none⟩ = some (.int .i64 c.kind) ∧ W.cell? ⟨fb, 1, none⟩ = some (.slice (some ⟨eb, eoff, none⟩) es.length ecap) ∧ W.cell? ⟨eb, eoff + k, none⟩ = some (.int .i64 en)) 24 (by kernel_rfl) ?_
      have hHeld : (fun W => W.cell? ⟨gc, 0, none⟩ = some (.string c.name) ∧ W.cell? ⟨gc, 1, none⟩ = some (.int .i64 c.kind) ∧ W.cell? ⟨fb, 1, none⟩ = some (.slice (some ⟨eb, eoff, none⟩) es.length ecap) ∧ W.cell? ⟨eb, eoff + k, none⟩ = some (.int .i64 en)) W1.drew := by go_keep
      refine Un.pick (i := 0) (v := ?_) rfl (by kernel_rfl) (by kernel_rfl) (by kernel_rfl) (by kernel_rfl) (fun _ _ _ h => h) (Or.inl ⟨by rfl, ?_⟩) (by assumption) ?_
      rotate_left
      · intro w _; go_simp
        try with_reducible rfl
      try simp only [Act.put, List.setIfInBounds_toArray, List.set_cons_zero, List.set_cons_succ]
      refine Un.pick (i := 1) (v := ?_) rfl (by kernel_rfl) (by kernel_rfl) (by kernel_rfl) (by kernel_rfl) (fun _ _ _ h => h) (Or.inl ⟨by rfl, ?_⟩) (by assumption) ?_
      rotate_left
      · intro w _; go_simp
        try with_reducible rfl
      try simp only [Act.put, List.setIfInBounds_toArray, List.set_cons_zero, List.set_cons_succ]
      refine Un.take (i := 2) (v := ?_) rfl (by kernel_rfl) (by kernel_rfl) (by kernel_rfl) (by kernel_rfl) (by kernel_rfl) (by kernel_rfl) (fun _ _ _ h => h) (Or.inl ⟨by rfl, ?_⟩) (by assumption) ?_
      rotate_left
      · intro w hSw; (try dsimp only at hSw); go_simp
        try with_reducible rfl
      try simp only [Act.put, List.setIfInBounds_toArray, List.set_cons_zero, List.set_cons_succ]
      refine Un.pick (i := 3) (v := ?_) rfl (by kernel_rfl) (by kernel_rfl) (by kernel_rfl) (by kernel_rfl) (fun _ _ _ h => h) (Or.inl ⟨by rfl, ?_⟩) (by assumption) ?_
      rotate_left
      · intro w _; go_simp
        try with_reducible rfl
      try simp only [Act.put, List.setIfInBounds_toArray, List.set_cons_zero, List.set_cons_succ]
      refine Un.pick (i := 4) (v := ?_) rfl (by kernel_rfl) (by kernel_rfl) (by kernel_rfl) (by kernel_rfl) (fun _ _ _ h => h) (Or.inl ⟨by rfl, ?_⟩) (by assumption) ?_
      rotate_left
      · intro w _; go_simp
        try with_reducible rfl
      try simp only [Act.put, List.setIfInBounds_toArray, List.set_cons_zero, List.set_cons_succ]
      refine Un.pick (i := 7) (v := ?_) rfl (by kernel_rfl) (by kernel_rfl) (by kernel_rfl) (by kernel_rfl) (fun _ _ _ h => h) (Or.inl ⟨by rfl, ?_⟩) (by assumption) ?_
      rotate_left
      · intro w _; go_simp
        try with_reducible rfl
      try simp only [Act.put, List.setIfInBounds_toArray, List.set_cons_zero, List.set_cons_succ]
      refine Un.take (i := 8) (v := ?_) rfl (by kernel_rfl) (by kernel_rfl) (by kernel_rfl) (by kernel_rfl) (by kernel_rfl) (by kernel_rfl) (fun _ _ _ h => h) (Or.inl ⟨by rfl, ?_⟩) (by assumption) ?_
      rotate_left
      · intro w hSw; (try dsimp only at hSw); go_simp
        try with_reducible rfl
      try simp only [Act.put, List.setIfInBounds_toArray, List.set_cons_zero, List.set_cons_succ]
      refine Un.pick (i := 10) (v := ?_) rfl (by kernel_rfl) (by kernel_rfl) (by kernel_rfl) (by kernel_rfl) (fun _ _ _ h => h) (Or.inl ⟨by rfl, ?_⟩) (by assumption) ?_
      rotate_left
      · intro w _; go_simp
        try with_reducible rfl
      try simp only [Act.put, List.setIfInBounds_toArray, List.set_cons_zero, List.set_cons_succ]
      refine Un.take (i := 11) (v := ?_) rfl (by kernel_rfl) (by kernel_rfl) (by kernel_rfl) (by kernel_rfl) (by kernel_rfl) (by kernel_rfl) (fun _ _ _ h => h) (Or.inl ⟨by rfl, ?_⟩) (by assumption) ?_
      rotate_left
      · intro w hSw; (try dsimp only at hSw); go_simp
        try with_reducible rfl
      try simp only [Act.put, List.setIfInBounds_toArray, List.set_cons_zero, List.set_cons_succ]
      refine Un.pick (i := 12) (v := ?_) rfl (by kernel_rfl) (by kernel_rfl) (by kernel_rfl) (by kernel_rfl) (fun _ _ _ h => h) (Or.inl ⟨by rfl, ?_⟩) (by assumption) ?_
      rotate_left
      · intro w _; go_simp
        try with_reducible rfl
      try simp only [Act.put, List.setIfInBounds_toArray, List.set_cons_zero, List.set_cons_succ]
      refine Un.pick (i := 13) (v := ?_) rfl (by kernel_rfl) (by kernel_rfl) (by kernel_rfl) (by kernel_rfl) (fun _ _ _ h => h) (Or.inl ⟨by rfl, ?_⟩) (by assumption) ?_
      rotate_left
      · intro w _; go_simp
        try with_reducible rfl
      try simp only [Act.put, List.setIfInBounds_toArray, List.set_cons_zero, List.set_cons_succ]
      refine Un.pick (i := 14) (v := ?_) rfl (by kernel_rfl) (by kernel_rfl) (by kernel_rfl) (by kernel_rfl) (fun _ _ _ h => h) (Or.inl ⟨by rfl, ?_⟩) (by assumption) ?_
      rotate_left
      · intro w _; go_simp
        try with_reducible rfl
      try simp only [Act.put, List.setIfInBounds_toArray, List.set_cons_zero, List.set_cons_succ]
      refine Un.pick (i := 15) (v := ?_) rfl (by kernel_rfl) (by kernel_rfl) (by kernel_rfl) (by kernel_rfl) (fun _ _ _ h => h) (Or.inl ⟨by rfl, ?_⟩) (by assumption) ?_
      rotate_left
      · intro w _; go_simp
        try with_reducible rfl
      try simp only [Act.put, List.setIfInBounds_toArray, List.set_cons_zero, List.set_cons_succ]
      refine Un.take (i := 16) (v := ?_) rfl (by kernel_rfl) (by kernel_rfl) (by kernel_rfl) (by kernel_rfl) (by kernel_rfl) (by kernel_rfl) (fun _ _ _ h => h) (Or.inl ⟨by rfl, ?_⟩) (by assumption) ?_
      rotate_left
      · intro w hSw; (try dsimp only at hSw); go_simp
        try with_reducible rfl
      try simp only [Act.put, List.setIfInBounds_toArray, List.set_cons_zero, List.set_cons_succ]
      refine Un.pick (i := 17) (v := ?_) rfl (by kernel_rfl) (by kernel_rfl) (by kernel_rfl) (by kernel_rfl) (fun _ _ _ h => h) (Or.inl ⟨by rfl, ?_⟩) (by assumption) ?_
      rotate_left
      · intro w _; go_simp
        try with_reducible rfl
      try simp only [Act.put, List.setIfInBounds_toArray, List.set_cons_zero, List.set_cons_succ]
      refine Un.pick (i := 18) (v := ?_) rfl (by kernel_rfl) (by kernel_rfl) (by kernel_rfl) (by kernel_rfl) (fun _ _ _ h => h) (Or.inl ⟨by rfl, ?_⟩) (by assumption) ?_
      rotate_left
      · intro w _; go_simp
        try with_reducible rfl
      try simp only [Act.put, List.setIfInBounds_toArray, List.set_cons_zero, List.set_cons_succ]
      refine Un.take (i := 19) (v := ?_) rfl (by kernel_rfl) (by kernel_rfl) (by kernel_rfl) (by kernel_rfl) (by kernel_rfl) (by kernel_rfl) (fun _ _ _ h => h) (Or.inl ⟨by rfl, ?_⟩) (by assumption) ?_
      rotate_left
      · intro w hSw; (try dsimp only at hSw); go_simp
        try with_reducible rfl
      try simp only [Act.put, List.setIfInBounds_toArray, List.set_cons_zero, List.set_cons_succ]
      refine Un.pick (i := 20) (v := ?_) rfl (by kernel_rfl) (by kernel_rfl) (by kernel_rfl) (by kernel_rfl) (fun _ _ _ h => h) (Or.inl ⟨by rfl, ?_⟩) (by assumption) ?_
      rotate_left
      · intro w _; go_simp
        try with_reducible rfl
      try simp only [Act.put, List.setIfInBounds_toArray, List.set_cons_zero, List.set_cons_succ]
      refine Un.pair (i := 5) (j := 21) (by kernel_rfl) rfl rfl (fun K hK => ?_) (fun K hK => ?_)
      · rw [if_pos (by rfl)]
        go_simp
        go_at_call 87
        refine (HV2.out _).mono ?_
        rintro e w2 ⟨rfl, hb2⟩
        have hb3 := below_a hb2
        have HB3 : Hid (Below W1.heap.size W1 w2) := hb3
        have k0 := (hb3.cell (p := ⟨gc, 0, none⟩) gz).trans q0
        have k1 := (hb3.cell (p := ⟨gc, 1, none⟩) gz).trans q1
        have k2 := (hb3.cell (p := ⟨fb, 1, none⟩) g1).trans t1
        have k3 := (hb3.cell (p := ⟨eb, eoff + k, none⟩) g2).trans e2
        refine hK.out _ _ (fun _ => ⟨k0, k1, k2, k3⟩) ?_
        clear hK K hHeld hb2 hb3
        have hHeld : (fun W => W.cell? ⟨gc, 0, none⟩ = some (.string c.name) ∧ W.cell? ⟨gc, 1, none⟩ = some (.int .i64 c.kind) ∧ W.cell? ⟨fb, 1, none⟩ = some (.slice (some ⟨eb, eoff, none⟩) es.length ecap) ∧ W.cell? ⟨eb, eoff + k, none⟩ = some (.int .i64 en)) w2 := ⟨k0, k1, k2, k3⟩
        try simp only [Act.put, List.setIfInBounds_toArray, List.set_cons_zero, List.set_cons_succ]
        refine Un.pick (i := 6) (v := ?_) rfl (by kernel_rfl) (by kernel_rfl) (by kernel_rfl) (by kernel_rfl) (fun _ _ _ h => h) (Or.inl ⟨by rfl, ?_⟩) (by assumption) ?_
        rotate_left
        · intro w _; go_simp
          try with_reducible rfl
        try simp only [Act.put, List.setIfInBounds_toArray, List.set_cons_zero, List.set_cons_succ]
        refine Un.pick (i := 9) (v := ?_) rfl (by kernel_rfl) (by kernel_rfl) (by kernel_rfl) (by kernel_rfl) (fun _ _ _ h => h) (Or.inl ⟨by rfl, ?_⟩) (by assumption) ?_
        rotate_left
        · intro w _; go_simp
          try with_reducible rfl
        try simp only [Act.put, List.setIfInBounds_toArray, List.set_cons_zero, List.set_cons_succ]
        refine Un.one (i := 21) (by kernel_rfl) rfl (fun K hK => ?_)
        rw [if_pos (by rfl)]
        go_simp
        have hHeld2 : (fun W => W.cell? ⟨gc, 0, none⟩ = some (.string c.name) ∧ W.cell? ⟨gc, 1, none⟩ = some (.int .i64 c.kind) ∧ W.cell? ⟨fb, 1, none⟩ = some (.slice (some ⟨eb, eoff, none⟩) es.length ecap) ∧ W.cell? ⟨eb, eoff + k, none⟩ = some (.int .i64 en)) (w2.alloc (.cells #[.int .u8 (y1 : Int), .int .u8 (y2 : Int)] 5)) := by go_keep
        refine hK.out _ _ (fun _ => hHeld2) ?_
        clear hK K
        try simp only [Act.put, List.setIfInBounds_toArray, List.set_cons_zero, List.set_cons_succ]
        refine Un.one (i := 22) (by kernel_rfl) rfl (fun K hK => ?_)
        rw [if_pos (by rfl)]
        go_simp
        refine hK.out _ _ (fun _ => by assumption) ?_
        clear hK K
        try simp only [Act.put, List.setIfInBounds_toArray, List.set_cons_zero, List.set_cons_succ]
        refine Un.pick (i := 23) (v := ?_) rfl (by kernel_rfl) (by kernel_rfl) (by kernel_rfl) (by kernel_rfl) (fun _ _ _ h => h) (Or.inl ⟨by rfl, ?_⟩) (by assumption) ?_
        rotate_left
        · intro w _; go_simp
          try with_reducible rfl
        try simp only [Act.put, List.setIfInBounds_toArray, List.set_cons_zero, List.set_cons_succ]
        refine Un.one (i := 24) (by kernel_rfl) rfl (fun K hK => ?_)
        rw [if_pos (by rfl)]
        go_simp
        refine hK.out _ _ (fun h => absurd h (by decide)) ?_
        clear hK K
        try simp only [Act.put, List.setIfInBounds_toArray, List.set_cons_zero, List.set_cons_succ]
        refine Un.done (by kernel_rfl) ?_ _
        try simp only [Act.put, List.setIfInBounds_toArray, List.set_cons_zero, List.set_cons_succ]
        go_wp2_with fail
        go_roundw
        case rel => exact ⟨k + 1, by omega, by go_num, by rw [HP.out], (HB2.out.trans (HB3.out.mono HB2.out.size)).alloc (by have := HB2.out.size; have := HB3.out.size; omega) _⟩
        case measure => simp [intOf]; omega
      · rw [if_pos (by rfl)]
        go_simp
        have hHeld2 : (fun W => W.cell? ⟨gc, 0, none⟩ = some (.string c.name) ∧ W.cell? ⟨gc, 1, none⟩ = some (.int .i64 c.kind) ∧ W.cell? ⟨fb, 1, none⟩ = some (.slice (some ⟨eb, eoff, none⟩) es.length ecap) ∧ W.cell? ⟨eb, eoff + k, none⟩ = some (.int .i64 en)) ((W1.alloc (.cells #[.int .u8 (y1 : Int), .int .u8 (y2 : Int)] 5)).drew) := by go_keep
        refine hK.out _ _ (fun _ => hHeld2) ?_
        clear hK K
        try simp only [Act.put, List.setIfInBounds_toArray, List.set_cons_zero, List.set_cons_succ]
        refine Un.pair (i := 5) (j := 22) (by kernel_rfl) rfl rfl (fun K hK => ?_) (fun K hK => ?_)
        · rw [if_pos (by rfl)]
          go_simp
          go_at_call 87
          refine (HV2.out _).mono ?_
          rintro e w2 ⟨rfl, hb2⟩
          have n0 := (after_two hb2).1
          have n1 := (after_two hb2).2
          have hb3 := below_one hb2
          have HB3 : Hid (Below W1.heap.size W1 w2) := hb3
          have k0 := (hb3.cell (p := ⟨gc, 0, none⟩) gz).trans q0
          have k1 := (hb3.cell (p := ⟨gc, 1, none⟩) gz).trans q1
          have k2 := (hb3.cell (p := ⟨fb, 1, none⟩) g1).trans t1
          have k3 := (hb3.cell (p := ⟨eb, eoff + k, none⟩) g2).trans e2
          refine hK.out _ _ (fun _ => ⟨k0, k1, k2, k3⟩) ?_
          clear hK K hHeld hb2 hb3
          have hHeld : (fun W => W.cell? ⟨gc, 0, none⟩ = some (.string c.name) ∧ W.cell? ⟨gc, 1, none⟩ = some (.int .i64 c.kind) ∧ W.cell? ⟨fb, 1, none⟩ = some (.slice (some ⟨eb, eoff, none⟩) es.length ecap) ∧ W.cell? ⟨eb, eoff + k, none⟩ = some (.int .i64 en)) w2 := ⟨k0, k1, k2, k3⟩
          try simp only [Act.put, List.setIfInBounds_toArray, List.set_cons_zero, List.set_cons_succ]
          refine Un.pick (i := 6) (v := ?_) rfl (by kernel_rfl) (by kernel_rfl) (by kernel_rfl) (by kernel_rfl) (fun _ _ _ h => h) (Or.inl ⟨by rfl, ?_⟩) (by assumption) ?_
          rotate_left
          · intro w _; go_simp
            try with_reducible rfl
          try simp only [Act.put, List.setIfInBounds_toArray, List.set_cons_zero, List.set_cons_succ]
          refine Un.pick (i := 9) (v := ?_) rfl (by kernel_rfl) (by kernel_rfl) (by kernel_rfl) (by kernel_rfl) (fun _ _ _ h => h) (Or.inl ⟨by rfl, ?_⟩) (by assumption) ?_
          rotate_left
          · intro w _; go_simp
            try with_reducible rfl
          try simp only [Act.put, List.setIfInBounds_toArray, List.set_cons_zero, List.set_cons_succ]
          refine Un.one (i := 22) (by kernel_rfl) rfl (fun K hK => ?_)
          rw [if_pos (by rfl)]
          go_simp
          refine hK.out _ _ (fun _ => by assumption) ?_
          clear hK K
          try simp only [Act.put, List.setIfInBounds_toArray, List.set_cons_zero, List.set_cons_succ]
          refine Un.pick (i := 23) (v := ?_) rfl (by kernel_rfl) (by kernel_rfl) (by kernel_rfl) (by kernel_rfl) (fun _ _ _ h => h) (Or.inl ⟨by rfl, ?_⟩) (by assumption) ?_
          rotate_left
          · intro w _; go_simp
            try with_reducible rfl
          try simp only [Act.put, List.setIfInBounds_toArray, List.set_cons_zero, List.set_cons_succ]
          refine Un.one (i := 24) (by kernel_rfl) rfl (fun K hK => ?_)
          rw [if_pos (by rfl)]
          go_simp
          refine hK.out _ _ (fun h => absurd h (by decide)) ?_
          clear hK K
          try simp only [Act.put, List.setIfInBounds_toArray, List.set_cons_zero, List.set_cons_succ]
          refine Un.done (by kernel_rfl) ?_ _
          try simp only [Act.put, List.setIfInBounds_toArray, List.set_cons_zero, List.set_cons_succ]
          go_wp2_with fail
          go_roundw
          case rel => exact ⟨k + 1, by omega, by go_num, by rw [HP.out], HB2.out.trans (HB3.out.mono HB2.out.size)⟩
          case measure => simp [intOf]; omega
        · rw [if_pos (by rfl)]
          go_simp
          refine hK.out _ _ (fun _ => by assumption) ?_
          clear hK K
          try simp only [Act.put, List.setIfInBounds_toArray, List.set_cons_zero, List.set_cons_succ]
          refine Un.one (i := 5) (by kernel_rfl) rfl (fun K hK => ?_)
          rw [if_pos (by rfl)]
          go_simp
          go_at_call 87
          refine (HV2.out _).mono ?_
          rintro e w2 ⟨rfl, hb2⟩
          have n0 := (after_two hb2).1
          have n1 := (after_two hb2).2
          have hb3 := below_one hb2
          have HB3 : Hid (Below W1.heap.size W1 w2) := hb3
          have k0 := (hb3.cell (p := ⟨gc, 0, none⟩) gz).trans q0
          have k1 := (hb3.cell (p := ⟨gc, 1, none⟩) gz).trans q1
          have k2 := (hb3.cell (p := ⟨fb, 1, none⟩) g1).trans t1
          have k3 := (hb3.cell (p := ⟨eb, eoff + k, none⟩) g2).trans e2
          refine hK.out _ _ (fun _ => ⟨k0, k1, k2, k3⟩) ?_
          clear hK K hHeld hb2 hb3
          have hHeld : (fun W => W.cell? ⟨gc, 0, none⟩ = some (.string c.name) ∧ W.cell? ⟨gc, 1, none⟩ = some (.int .i64 c.kind) ∧ W.cell? ⟨fb, 1, none⟩ = some (.slice (some ⟨eb, eoff, none⟩) es.length ecap) ∧ W.cell? ⟨eb, eoff + k, none⟩ = some (.int .i64 en)) w2 := ⟨k0, k1, k2, k3⟩
          try simp only [Act.put, List.setIfInBounds_toArray, List.set_cons_zero, List.set_cons_succ]
          refine Un.pick (i := 6) (v := ?_) rfl (by kernel_rfl) (by kernel_rfl) (by kernel_rfl) (by kernel_rfl) (fun _ _ _ h => h) (Or.inl ⟨by rfl, ?_⟩) (by assumption) ?_
          rotate_left
          · intro w _; go_simp
            try with_reducible rfl
          try simp only [Act.put, List.setIfInBounds_toArray, List.set_cons_zero, List.set_cons_succ]
          refine Un.pick (i := 9) (v := ?_) rfl (by kernel_rfl) (by kernel_rfl) (by kernel_rfl) (by kernel_rfl) (fun _ _ _ h => h) (Or.inl ⟨by rfl, ?_⟩) (by assumption) ?_
          rotate_left
          · intro w _; go_simp
            try with_reducible rfl
          try simp only [Act.put, List.setIfInBounds_toArray, List.set_cons_zero, List.set_cons_succ]
          refine Un.pick (i := 23) (v := ?_) rfl (by kernel_rfl) (by kernel_rfl) (by kernel_rfl) (by kernel_rfl) (fun _ _ _ h => h) (Or.inl ⟨by rfl, ?_⟩) (by assumption) ?_
          rotate_left
          · intro w _; go_simp
            try with_reducible rfl
          try simp only [Act.put, List.setIfInBounds_toArray, List.set_cons_zero, List.set_cons_succ]
          refine Un.one (i := 24) (by kernel_rfl) rfl (fun K hK => ?_)
          rw [if_pos (by rfl)]
          go_simp
          refine hK.out _ _ (fun h => absurd h (by decide)) ?_
          clear hK K
          try simp only [Act.put, List.setIfInBounds_toArray, List.set_cons_zero, List.set_cons_succ]
          refine Un.done (by kernel_rfl) ?_ _
          try simp only [Act.put, List.setIfInBounds_toArray, List.set_cons_zero, List.set_cons_succ]
          go_wp2_with fail
          go_roundw
          case rel => exact ⟨k + 1, by omega, by go_num, by rw [HP.out], HB2.out.trans (HB3.out.mono HB2.out.size)⟩
          case measure => simp [intOf]; omega
    · obtain rfl : k = cs.length := by omega
      have HFB : Hid (strOf (footR cs es bs) = strOf (vint cs.length ++ colsB cs es cs.length ++ vint bs.length ++ rbandsB cs (bs.take L.length))) := by
        show _ = _
        rw [HLN.out, List.take_length]
        unfold footR
        simp only [List.append_assoc]
      have hpl : (vint cs.length ++ colsB cs es cs.length).length ≤ 300 := by
        have h1 := vint_len cs.length
        have h2 := colsB_len (es := es) HNM.out cs.length (Nat.le_refl _)
        rw [List.length_append]
        omega
      generalize vint cs.length ++ colsB cs es cs.length = pre at *
      have HP0 : Hid (strOf pre ++ strOf (vint L.length) = strOf (pre ++ vint bs.length ++ rbandsB cs (bs.take 0))) := by
        show _ = _
        rw [HLN.out, show rbandsB cs (bs.take 0) = [] from rfl, List.append_nil, strOf_append]
      have hp2 : (pre ++ vint bs.length).length ≤ 310 := by have := vint_len bs.length; rw [List.length_append]; omega
      have hw1 : IntKind.u64.wrap (L.length : Int) = (L.length : Int) := by rw [wrap_u64]; omega
      have HV2 : Hid (∀ W : World, Calls Try.prog 87 #[.int .u64 (L.length : Int)] W fun e w' => e = .returned (.string (strOf (vint L.length))) ∧ Below W.heap.size W w') := fun W => HVI.out _ W (by omega)
      have hs1 : ¬ 9223372036854775807 < (strOf pre).size + (strOf (vint L.length)).size := by
        have := vint_len L.length
        rw [strOf_size, strOf_size]
        omega
      generalize strOf (vint L.length) = V at *
      generalize strOf pre = S at *
      clear hbel
      go_upto_region 8 with (go_at_call 87; refine (HV2.out _).mono ?_; rintro e w2 ⟨rfl, hb2⟩)
      have HB2 : Hid (Below w.heap.size w w2) := HB.out.trans (hb2.mono HB.out.size)
      clear hb2 hw1 hs1 t0 t1 t2 HB HV2 HE1 HE2 HE3
      generalize pre ++ vint bs.length = pre2 at *
      go_wp2_with fail
      go_loopw [3, 6] (fun s i wr => ∃ k : Nat, k ≤ L.length ∧ i = .int .i64 (k : Int) ∧ s = .string (strOf (pre2 ++ rbandsB cs (bs.take k))) ∧ Below w.heap.size w wr) (fun _ i _ => L.length - (intOf i).toNat)
      case atStart => exact ⟨0, Nat.zero_le _, rfl, by rw [HP0.out], HB2.out⟩
      case round =>
        rename World => wq
        clear HB2 HP0
        obtain ⟨k, hk, rfl, rfl, hbel⟩ := hrel
        have HB : Hid (Below w.heap.size w wq) := hbel
        obtain ⟨t0, t1, t2⟩ := HF.out wq hbel
        have hsz : w.heap.size ≤ wq.heap.size := hbel.size
        by_cases hlt : k < L.length
        · have hlb : k < bs.length := by rw [← HLN.out]; exact hlt
          have hgr := HGR.out.below hbel
          obtain rfl := hgr.addr (by omega)
          have hbk : L[k].1 = bs[k] := by
            have := HL.out
            have h2 : (L.map Prod.fst)[k]'(by simpa using hlt) = bs[k] := by simp only [this]
            simpa using h2
          have p0 : wq.cell? ⟨bb, boff + k * 2, none⟩ = some (.int .i64 (L[k].1.rows : Int)) := hgr.c k hlt 0 _ rfl
          have HOW : Hid (GSl w rcell 9 L[k].2 bs[k].parts) := by have := HEA.out L[k] (List.getElem_mem hlt); rw [hbk] at this; exact this
          have HBK : Hid (RbOk cs.length bs[k]) := HBS.out bs[k] (List.getElem_mem hlb)
          have HP : Hid (strOf (pre2 ++ rbandsB cs (bs.take (k + 1))) = strOf (pre2 ++ rbandsB cs (bs.take k) ++ vint bs[k].rows ++ prtsB cs bs[k].parts bs[k].parts.length)) := by
            show _ = _
            rw [rbandsB_take cs bs k hlb]
            unfold rbandB
            simp only [List.append_assoc]
          have hpl : (pre2 ++ rbandsB cs (bs.take k)).length ≤ 1540310 := by
            have h1 := rbandsB_len (bs := bs.take k) (fun b hb => HBS.out b (List.mem_of_mem_take hb)) hcl cs
            rw [List.length_append]
            rw [List.length_take] at h1
            omega
          rw [hbk] at p0
          obtain ⟨ko, kb, koff, kcap, hkv, hkr⟩ := HOW.out
          have HBX : Hid (bb < w.heap.size) := HGR.out.lt (by omega)
          have HP1 : Hid (w.cell? ⟨bb, boff + k * 2 + 1, none⟩ = some (.slice ko bs[k].parts.length kcap)) := by
            have := HGR.out.c k hlt 1 _ rfl
            rw [← hkv]
            exact this
          have HKR : Hid (GRow w rcell 9 ko kb koff bs[k].parts) := hkr
          have hcl2 : bs[k].parts.length ≤ 8 := by have := HBK.out.len; omega
          have hrw := HBK.out.rows
          have hki : (k : Int) < (L.length : Int) := by omega
          generalize hb : bs[k] = b at *
          generalize hpp : pre2 ++ rbandsB cs (bs.take k) = pre at *
          clear hgr hbk hb hpp HOW hkr hkv hbel
          have HP0 : Hid (strOf pre ++ strOf (vint b.rows) = strOf (pre ++ vint b.rows ++ prtsB cs b.parts 0)) := by
            show _ = _
            rw [show prtsB cs b.parts 0 = [] from rfl, List.append_nil, strOf_append]
          have hp3 : (pre ++ vint b.rows).length ≤ 1540320 := by have := vint_len b.rows; rw [List.length_append]; omega
          have hw1 : IntKind.u64.wrap (b.rows : Int) = (b.rows : Int) := by rw [wrap_u64]; omega
          have HV2 : Hid (∀ W : World, Calls Try.prog 87 #[.int .u64 (b.rows : Int)] W fun e w' => e = .returned (.string (strOf (vint b.rows))) ∧ Below W.heap.size W w') := fun W => HVI.out _ W (by omega)
          have hs1 : ¬ 9223372036854775807 < (strOf pre).size + (strOf (vint b.rows)).size := by
            have := vint_len b.rows
            rw [strOf_size, strOf_size]
            omega
          generalize strOf (vint b.rows) = V at *
          generalize strOf pre = S at *
          go_upto_region 12 with (go_at_call 87; refine (HV2.out _).mono ?_; rintro e w2 ⟨rfl, hb2⟩)
          have HB2 : Hid (Below w.heap.size w w2) := HB.out.trans (hb2.mono HB.out.size)
          clear hb2 hw1 hs1 t0 t1 t2 HB HV2 p0 hrw
          generalize pre ++ vint b.rows = pre3 at *
          go_wp2_with fail
          go_loopw [3, 7] (fun s i wr => ∃ i' : Nat, i' ≤ cs.length ∧ i = .int .i64 (i' : Int) ∧ s = .string (strOf (pre3 ++ prtsB cs b.parts i')) ∧ Below w.heap.size w wr) (fun _ i _ => cs.length - (intOf i).toNat)
          case atStart => exact ⟨0, Nat.zero_le _, rfl, by rw [HP0.out], HB2.out⟩
          case round =>
            rename World => wx
            clear HB2 HP0
            obtain ⟨i, hi', rfl, rfl, hbel⟩ := hrel
            have HB : Hid (Below w.heap.size w wx) := hbel
            obtain ⟨t0, t1, t2⟩ := HF.out wx hbel
            have hsz : w.heap.size ≤ wx.heap.size := hbel.size
            by_cases hlc : i < cs.length
            · have hli : i < b.parts.length := by have := HBK.out.len; omega
              have hcr := HCR.out.below hbel
              obtain rfl := hcr.addr (by omega)
              have hkr := HKR.out.below hbel
              obtain rfl := hkr.addr (by omega)
              have p1 : wx.cell? ⟨bb, boff + k * 2 + 1, none⟩ = some (.slice (some ⟨kb, koff, none⟩) b.parts.length kcap) := (hbel.cell (p := ⟨bb, boff + k * 2 + 1, none⟩) HBX.out).trans HP1.out
              have y0 : wx.cell? ⟨kb, koff + i * 9, none⟩ = some (.int .i64 (b.parts[i].size : Int)) := hkr.c i hli 0 _ rfl
              have y1 : wx.cell? ⟨kb, koff + i * 9 + 1, none⟩ = some (.bool b.parts[i].bnd.there) := hkr.c i hli 1 _ rfl
              have y2 : wx.cell? ⟨kb, koff + i * 9 + 2, none⟩ = some (.bool b.parts[i].bnd.least.null) := hkr.c i hli 2 _ rfl
              have y3 : wx.cell? ⟨kb, koff + i * 9 + 3, none⟩ = some (.int .i64 b.parts[i].bnd.least.n) := hkr.c i hli 3 _ rfl
              have y4 : wx.cell? ⟨kb, koff + i * 9 + 4, none⟩ = some (.string b.parts[i].bnd.least.s) := hkr.c i hli 4 _ rfl
              have y5 : wx.cell? ⟨kb, koff + i * 9 + 5, none⟩ = some (.bool b.parts[i].bnd.most.null) := hkr.c i hli 5 _ rfl
              have y6 : wx.cell? ⟨kb, koff + i * 9 + 6, none⟩ = some (.int .i64 b.parts[i].bnd.most.n) := hkr.c i hli 6 _ rfl
              have y7 : wx.cell? ⟨kb, koff + i * 9 + 7, none⟩ = some (.string b.parts[i].bnd.most.s) := hkr.c i hli 7 _ rfl
              have y8 : wx.cell? ⟨kb, koff + i * 9 + 8, none⟩ = some (.string b.parts[i].text) := hkr.c i hli 8 _ rfl
              have HPP : Hid (pre3 ++ prtsB cs b.parts (i + 1) = pre3 ++ prtsB cs b.parts i ++ vint b.parts[i].size ++ boundB cs[i].kind b.parts[i].bnd) := by
                show _ = _
                rw [prtsB_succ]
                unfold prtB
                rw [List.getD_eq_getElem?_getD (l := cs), List.getElem?_eq_getElem hlc, List.getD_eq_getElem?_getD (l := b.parts), List.getElem?_eq_getElem hli]
                simp
              have hpl2 : (pre3 ++ prtsB cs b.parts i).length ≤ 1542000 := by
                have h1 := prtsB_len HBK.out cs i (by omega)
                rw [List.length_append]
                omega
              have hts := HBK.out.size _ (List.getElem_mem hli)
              have HV1 : Hid (VOk b.parts[i].bnd.least) := HBK.out.least _ (List.getElem_mem hli)
              have HV3 : Hid (VOk b.parts[i].bnd.most) := HBK.out.most _ (List.getElem_mem hli)
              have HK1 : Hid (cs[i].kind = 1 ∨ cs[i].kind = 2 ∨ cs[i].kind = 3) := HKD.out _ (List.getElem_mem hlc)
              have HC5 : Hid (cb < w.heap.size) := HCR.out.lt (by omega)
              have HP5 : Hid (w.cell? ⟨cb, coff + i * 2 + 1, none⟩ = some (.int .i64 cs[i].kind)) := HCR.out.c1 i hlc
              have hil : (i : Int) < (cs.length : Int) := by omega
              have hip : (i : Int) < (b.parts.length : Int) := by omega
              generalize b.parts[i] = ch at *
              generalize cs[i].kind = kd at *
              generalize pre3 ++ prtsB cs b.parts i = pre4 at *
              clear hcr hkr hbel
              have hw1 : IntKind.u64.wrap (ch.size : Int) = (ch.size : Int) := by rw [wrap_u64]; omega
              have HV2 : Hid (∀ W : World, Calls Try.prog 87 #[.int .u64 (ch.size : Int)] W fun e w' => e = .returned (.string (strOf (vint ch.size))) ∧ Below W.heap.size W w') := fun W => HVI.out _ W (by omega)
              have hs1 : ¬ 9223372036854775807 < (strOf pre4).size + (strOf (vint ch.size)).size := by
                have := vint_len ch.size
                rw [strOf_size, strOf_size]
                omega
              have hp6 : (pre4 ++ vint ch.size).length ≤ 1542010 := by have := vint_len ch.size; rw [List.length_append]; omega
              have HSA : Hid (strOf pre4 ++ strOf (vint ch.size) = strOf (pre4 ++ vint ch.size)) := (strOf_append _ _).symm
              generalize strOf (vint ch.size) = V at *
              generalize strOf pre4 = S at *
              go_upto_region 16 with fail
              have hcx : (wx.alloc (.cells (rcell ch).toArray 101)).heap[wx.heap.size]? = some (.cells (rcell ch).toArray 101 (0, 0)) := alloc_at _ _
              have hb1 : Below w.heap.size w (wx.alloc (.cells (rcell ch).toArray 101)) := HB.out.alloc hsz _
              rw [show (rcell ch).toArray = #[.int .i64 (ch.size : Int), .bool ch.bnd.there, .bool ch.bnd.least.null, .int .i64 ch.bnd.least.n, .string ch.bnd.least.s, .bool ch.bnd.most.null, .int .i64 ch.bnd.most.n, .string ch.bnd.most.s, .string ch.text] from rfl] at hb1 hcx
              generalize wx.alloc (.cells #[.int .i64 (ch.size : Int), .bool ch.bnd.there, .bool ch.bnd.least.null, .int .i64 ch.bnd.least.n, .string ch.bnd.least.s, .bool ch.bnd.most.null, .int .i64 ch.bnd.most.n, .string ch.bnd.most.s, .string ch.text] 101) = W5 at *
              generalize wx.heap.size = gx at *
              have HCX : Hid (W5.heap[gx]? = some (.cells (rcell ch).toArray 101 (0, 0))) := hcx
              clear y0 y1 y2 y3 y4 y5 y6 y7 y8 p1 t0 t1 t2 HB hts
              have c0 : W5.cell? ⟨gx, 0, none⟩ = some (.int .i64 (ch.size : Int)) := (prt_cells HCX.out).1
              go_upto_region 17 with (go_at_call 87; refine (HV2.out _).mono ?_; rintro e w6 ⟨rfl, hb6⟩)
              have HCX6 : Hid (w6.heap[gx]? = some (.cells (rcell ch).toArray 101 (0, 0))) := (hb6.block _ (lt_of_block HCX.out)).trans HCX.out
              have HB6 : Hid (Below w.heap.size w w6) := hb1.trans (hb6.mono hb1.size)
              have hSa := HSA.out
              rw [hSa]
              have HPQ : Hid (pre3 ++ prtsB cs b.parts (i + 1) = pre4 ++ vint ch.size ++ boundB kd ch.bnd) := HPP.out
              clear hcx hb1 hb6 c0 HCX hw1 HV2 hs1 HSA hSa HPP
              generalize pre4 ++ vint ch.size = pre6 at *
              obtain ⟨-, c1, c2, c3, c4, c5, c6, c7, -⟩ := prt_cells HCX6.out
              obtain ⟨t0, t1, t2⟩ := HF.out w6 HB6.out
              have e6 : w6.cell? ⟨cb, coff + i * 2 + 1, none⟩ = some (.int .i64 kd) := (HB6.out.cell (p := ⟨cb, coff + i * 2 + 1, none⟩) HC5.out).trans HP5.out
              obtain ⟨chs, ⟨bt, bl, bm⟩, chx⟩ := ch
              cases bt
              · have HE : Hid (strOf pre6 ++ strOf [0] = strOf (pre3 ++ prtsB cs b.parts (i + 1))) := by
                  show _ = _
                  rw [HPQ.out, ← strOf_append]
                  rfl
                have hs1 : ¬ 9223372036854775807 < (strOf pre6).size + (strOf [0]).size := by
                  rw [strOf_size, strOf_size]
                  simp
                  omega
                have hcv : ∀ (W : World) (g : Nat), W.cell? ⟨g, 0, none⟩ = some (.int .u8 0) → (convert 44 9 (.slice (some ⟨g, 0, none⟩) 1 1)).run Try.prog W = .ok (.string (strOf [0])) W := fun W g h => conv_one h
                generalize strOf [0] = Z at *
                generalize strOf pre6 = S6 at *
                have hsz6 : w.heap.size ≤ w6.heap.size := HB6.out.size
                go_wp2_with fail
                go_roundw
                case rel => exact ⟨i + 1, by omega, by go_num, by rw [HE.out], HB6.out.alloc hsz6 _⟩
                case measure => simp [intOf]; omega
              · have HE : Hid (strOf pre6 ++ strOf [1] ++ strOf (plainB kd bl) ++ strOf (plainB kd bm) = strOf (pre3 ++ prtsB cs b.parts (i + 1))) := by
                  show _ = _
                  rw [HPQ.out, ← strOf_append, ← strOf_append, ← strOf_append]
                  congr 1
                  show pre6 ++ [1] ++ plainB kd bl ++ plainB kd bm = pre6 ++ ([1] ++ (plainB kd bl ++ plainB kd bm))
                  simp only [List.append_assoc]
                have hz1 := plainB_length kd bl HV1.out.sz
                have hz2 := plainB_length kd bm HV3.out.sz
                have hq1 : (strOf (plainB kd bl)).size ≤ 42 := by rw [strOf_size]; exact hz1
                have hq2 : (strOf (plainB kd bm)).size ≤ 42 := by rw [strOf_size]; exact hz2
                have hq3 : (strOf [1]).size ≤ 1 := by rw [strOf_size]; simp
                have hq4 : (strOf pre6).size ≤ 1542010 := by rw [strOf_size]; exact hp6
                have HPL1 : Hid (∀ W : World, Calls Try.prog 88 #[.agg #[.bool bl.null, .int .i64 bl.n, .string bl.s], .int .i64 kd] W fun e w' => e = .returned (.string (strOf (plainB kd bl))) ∧ Below W.heap.size W w') := fun W => plain_any bl kd W HK1.out HV1.out
                have HPL2 : Hid (∀ W : World, Calls Try.prog 88 #[.agg #[.bool bm.null, .int .i64 bm.n, .string bm.s], .int .i64 kd] W fun e w' => e = .returned (.string (strOf (plainB kd bm))) ∧ Below W.heap.size W w') := fun W => plain_any bm kd W HK1.out HV3.out
                have hcv : ∀ (W : World) (g : Nat), W.cell? ⟨g, 0, none⟩ = some (.int .u8 1) → (convert 44 9 (.slice (some ⟨g, 0, none⟩) 1 1)).run Try.prog W = .ok (.string (strOf [1])) W := fun W g h => conv_one h
                generalize strOf [1] = Z at *
                generalize strOf pre6 = S6 at *
                generalize strOf (plainB kd bl) = A1 at *
                generalize strOf (plainB kd bm) = A2 at *
                have hs1 : ¬ 9223372036854775807 < S6.size + Z.size := by omega
                have hs2 : ¬ 9223372036854775807 < S6.size + Z.size + A1.size := by omega
                have hs3 : ¬ 9223372036854775807 < S6.size + Z.size + A1.size + A2.size := by omega
                clear hz1 hz2 hq1 hq2 hq3 hq4
                have hsz6 : w.heap.size ≤ w6.heap.size := HB6.out.size
                have hgx : gx < w6.heap.size := lt_of_block HCX6.out
                have hfb6 : fb < w6.heap.size := by omega
                have hcb6 : cb < w6.heap.size := by have := HC5.out; omega
                have HSS : Hid (∀ W, Below w6.heap.size w6 W → (fun W => W.cell? ⟨gx, 2, none⟩ = some (.bool bl.null) ∧ W.cell? ⟨gx, 3, none⟩ = some (.int .i64 bl.n) ∧ W.cell? ⟨gx, 4, none⟩ = some (.string bl.s) ∧ W.cell? ⟨gx, 5, none⟩ = some (.bool bm.null) ∧ W.cell? ⟨gx, 6, none⟩ = some (.int .i64 bm.n) ∧ W.cell? ⟨gx, 7, none⟩ = some (.string bm.s) ∧ W.cell? ⟨fb, 0, none⟩ = some (.slice (some ⟨cb, coff, none⟩) cs.length ccap) ∧ W.cell? ⟨cb, coff + i * 2 + 1, none⟩ = some (.int .i64 kd)) W) := fun W h =>
                  ⟨(h.cell (p := ⟨gx, 2, none⟩) hgx).trans c2, (h.cell (p := ⟨gx, 3, none⟩) hgx).trans c3, (h.cell (p := ⟨gx, 4, none⟩) hgx).trans c4, (h.cell (p := ⟨gx, 5, none⟩) hgx).trans c5, (h.cell (p := ⟨gx, 6, none⟩) hgx).trans c6, (h.cell (p := ⟨gx, 7, none⟩) hgx).trans c7, (h.cell (p := ⟨fb, 0, none⟩) hfb6).trans t0, (h.cell (p := ⟨cb, coff + i * 2 + 1, none⟩) hcb6).trans e6⟩
                go_upto_region 18 with fail
                refine Un.begin_ (fun W => W.cell? ⟨gx, 2, none⟩ = some (.bool bl.null) ∧ W.cell? ⟨gx, 3, none⟩ = some (.int .i64 bl.n) ∧ W.cell? ⟨gx, 4, none⟩ = some (.string bl.s) ∧ W.cell? ⟨gx, 5, none⟩ = some (.bool bm.null) ∧ W.cell? ⟨gx, 6, none⟩ = some (.int .i64 bm.n) ∧ W.cell? ⟨gx, 7, none⟩ = some (.string bm.s) ∧ W.cell? ⟨fb, 0, none⟩ = some (.slice (some ⟨cb, coff, none⟩) cs.length ccap) ∧ W.cell? ⟨cb, coff + i * 2 + 1, none⟩ = some (.int .i64 kd)) 28 (by kernel_rfl) ?_
                have HBD : Hid (Below w6.heap.size w6 w6.drew) := (Below.refl _ _).drew
                have hHeld : (fun W => W.cell? ⟨gx, 2, none⟩ = some (.bool bl.null) ∧ W.cell? ⟨gx, 3, none⟩ = some (.int .i64 bl.n) ∧ W.cell? ⟨gx, 4, none⟩ = some (.string bl.s) ∧ W.cell? ⟨gx, 5, none⟩ = some (.bool bm.null) ∧ W.cell? ⟨gx, 6, none⟩ = some (.int .i64 bm.n) ∧ W.cell? ⟨gx, 7, none⟩ = some (.string bm.s) ∧ W.cell? ⟨fb, 0, none⟩ = some (.slice (some ⟨cb, coff, none⟩) cs.length ccap) ∧ W.cell? ⟨cb, coff + i * 2 + 1, none⟩ = some (.int .i64 kd)) w6.drew := HSS.out _ HBD.out
                refine Un.pick (i := 0) (v := ?_) rfl (by kernel_rfl) (by kernel_rfl) (by kernel_rfl) (by kernel_rfl) (fun _ _ _ h => h) (Or.inl ⟨by rfl, ?_⟩) (by assumption) ?_
                rotate_left
                · intro w _; go_simp
                  try with_reducible rfl
                try simp only [Act.put, List.setIfInBounds_toArray, List.set_cons_zero, List.set_cons_succ]
                refine Un.pick (i := 4) (v := ?_) rfl (by kernel_rfl) (by kernel_rfl) (by kernel_rfl) (by kernel_rfl) (fun _ _ _ h => h) (Or.inl ⟨by rfl, ?_⟩) (by assumption) ?_
                rotate_left
                · intro w _; go_simp
                  try with_reducible rfl
                try simp only [Act.put, List.setIfInBounds_toArray, List.set_cons_zero, List.set_cons_succ]
                refine Un.take (i := 5) (v := ?_) rfl (by kernel_rfl) (by kernel_rfl) (by kernel_rfl) (by kernel_rfl) (by kernel_rfl) (by kernel_rfl) (fun _ _ _ h => h) (Or.inl ⟨by rfl, ?_⟩) (by assumption) ?_
                rotate_left
                · intro w hSw; (try dsimp only at hSw); go_simp
                  try with_reducible rfl
                try simp only [Act.put, List.setIfInBounds_toArray, List.set_cons_zero, List.set_cons_succ]
                refine Un.pick (i := 6) (v := ?_) rfl (by kernel_rfl) (by kernel_rfl) (by kernel_rfl) (by kernel_rfl) (fun _ _ _ h => h) (Or.inl ⟨by rfl, ?_⟩) (by assumption) ?_
                rotate_left
                · intro w _; go_simp
                  try with_reducible rfl
                try simp only [Act.put, List.setIfInBounds_toArray, List.set_cons_zero, List.set_cons_succ]
                refine Un.pick (i := 7) (v := ?_) rfl (by kernel_rfl) (by kernel_rfl) (by kernel_rfl) (by kernel_rfl) (fun _ _ _ h => h) (Or.inl ⟨by rfl, ?_⟩) (by assumption) ?_
                rotate_left
                · intro w _; go_simp
                  try with_reducible rfl
                try simp only [Act.put, List.setIfInBounds_toArray, List.set_cons_zero, List.set_cons_succ]
                refine Un.pick (i := 8) (v := ?_) rfl (by kernel_rfl) (by kernel_rfl) (by kernel_rfl) (by kernel_rfl) (fun _ _ _ h => h) (Or.inl ⟨by rfl, ?_⟩) (by assumption) ?_
                rotate_left
                · intro w _; go_simp
                  try with_reducible rfl
                try simp only [Act.put, List.setIfInBounds_toArray, List.set_cons_zero, List.set_cons_succ]
                refine Un.take (i := 9) (v := ?_) rfl (by kernel_rfl) (by kernel_rfl) (by kernel_rfl) (by kernel_rfl) (by kernel_rfl) (by kernel_rfl) (fun _ _ _ h => h) (Or.inl ⟨by rfl, ?_⟩) (by assumption) ?_
                rotate_left
                · intro w hSw; (try dsimp only at hSw); go_simp
                  try with_reducible rfl
                try simp only [Act.put, List.setIfInBounds_toArray, List.set_cons_zero, List.set_cons_succ]
                refine Un.pick (i := 10) (v := ?_) rfl (by kernel_rfl) (by kernel_rfl) (by kernel_rfl) (by kernel_rfl) (fun _ _ _ h => h) (Or.inl ⟨by rfl, ?_⟩) (by assumption) ?_
                rotate_left
                · intro w _; go_simp
                  try with_reducible rfl
                try simp only [Act.put, List.setIfInBounds_toArray, List.set_cons_zero, List.set_cons_succ]
                refine Un.pick (i := 11) (v := ?_) rfl (by kernel_rfl) (by kernel_rfl) (by kernel_rfl) (by kernel_rfl) (fun _ _ _ h => h) (Or.inl ⟨by rfl, ?_⟩) (by assumption) ?_
                rotate_left
                · intro w _; go_simp
                  try with_reducible rfl
                try simp only [Act.put, List.setIfInBounds_toArray, List.set_cons_zero, List.set_cons_succ]
                refine Un.pick (i := 12) (v := ?_) rfl (by kernel_rfl) (by kernel_rfl) (by kernel_rfl) (by kernel_rfl) (fun _ _ _ h => h) (Or.inl ⟨by rfl, ?_⟩) (by assumption) ?_
                rotate_left
                · intro w _; go_simp
                  try with_reducible rfl
                try simp only [Act.put, List.setIfInBounds_toArray, List.set_cons_zero, List.set_cons_succ]
                refine Un.take (i := 13) (v := ?_) rfl (by kernel_rfl) (by kernel_rfl) (by kernel_rfl) (by kernel_rfl) (by kernel_rfl) (by kernel_rfl) (fun _ _ _ h => h) (Or.inl ⟨by rfl, ?_⟩) (by assumption) ?_
                rotate_left
                · intro w hSw; (try dsimp only at hSw); go_simp
                  try with_reducible rfl
                try simp only [Act.put, List.setIfInBounds_toArray, List.set_cons_zero, List.set_cons_succ]
                refine Un.pick (i := 16) (v := ?_) rfl (by kernel_rfl) (by kernel_rfl) (by kernel_rfl) (by kernel_rfl) (fun _ _ _ h => h) (Or.inl ⟨by rfl, ?_⟩) (by assumption) ?_
                rotate_left
                · intro w _; go_simp
                  try with_reducible rfl
                try simp only [Act.put, List.setIfInBounds_toArray, List.set_cons_zero, List.set_cons_succ]
                refine Un.take (i := 17) (v := ?_) rfl (by kernel_rfl) (by kernel_rfl) (by kernel_rfl) (by kernel_rfl) (by kernel_rfl) (by kernel_rfl) (fun _ _ _ h => h) (Or.inl ⟨by rfl, ?_⟩) (by assumption) ?_
                rotate_left
                · intro w hSw; (try dsimp only at hSw); go_simp
                  try with_reducible rfl
                try simp only [Act.put, List.setIfInBounds_toArray, List.set_cons_zero, List.set_cons_succ]
                refine Un.pick (i := 18) (v := ?_) rfl (by kernel_rfl) (by kernel_rfl) (by kernel_rfl) (by kernel_rfl) (fun _ _ _ h => h) (Or.inl ⟨by rfl, ?_⟩) (by assumption) ?_
                rotate_left
                · intro w _; go_simp
                  try with_reducible rfl
                try simp only [Act.put, List.setIfInBounds_toArray, List.set_cons_zero, List.set_cons_succ]
                refine Un.pick (i := 19) (v := ?_) rfl (by kernel_rfl) (by kernel_rfl) (by kernel_rfl) (by kernel_rfl) (fun _ _ _ h => h) (Or.inl ⟨by rfl, ?_⟩) (by assumption) ?_
                rotate_left
                · intro w _; go_simp
                  try with_reducible rfl
                try simp only [Act.put, List.setIfInBounds_toArray, List.set_cons_zero, List.set_cons_succ]
                refine Un.pick (i := 20) (v := ?_) rfl (by kernel_rfl) (by kernel_rfl) (by kernel_rfl) (by kernel_rfl) (fun _ _ _ h => h) (Or.inl ⟨by rfl, ?_⟩) (by assumption) ?_
                rotate_left
                · intro w _; go_simp
                  try with_reducible rfl
                try simp only [Act.put, List.setIfInBounds_toArray, List.set_cons_zero, List.set_cons_succ]
                refine Un.take (i := 21) (v := ?_) rfl (by kernel_rfl) (by kernel_rfl) (by kernel_rfl) (by kernel_rfl) (by kernel_rfl) (by kernel_rfl) (fun _ _ _ h => h) (Or.inl ⟨by rfl, ?_⟩) (by assumption) ?_
                rotate_left
                · intro w hSw; (try dsimp only at hSw); go_simp
                  try with_reducible rfl
                try simp only [Act.put, List.setIfInBounds_toArray, List.set_cons_zero, List.set_cons_succ]
                refine Un.pick (i := 22) (v := ?_) rfl (by kernel_rfl) (by kernel_rfl) (by kernel_rfl) (by kernel_rfl) (fun _ _ _ h => h) (Or.inl ⟨by rfl, ?_⟩) (by assumption) ?_
                rotate_left
                · intro w _; go_simp
                  try with_reducible rfl
                try simp only [Act.put, List.setIfInBounds_toArray, List.set_cons_zero, List.set_cons_succ]
                refine Un.pick (i := 23) (v := ?_) rfl (by kernel_rfl) (by kernel_rfl) (by kernel_rfl) (by kernel_rfl) (fun _ _ _ h => h) (Or.inl ⟨by rfl, ?_⟩) (by assumption) ?_
                rotate_left
                · intro w _; go_simp
                  try with_reducible rfl
                try simp only [Act.put, List.setIfInBounds_toArray, List.set_cons_zero, List.set_cons_succ]
                refine Un.pick (i := 24) (v := ?_) rfl (by kernel_rfl) (by kernel_rfl) (by kernel_rfl) (by kernel_rfl) (fun _ _ _ h => h) (Or.inl ⟨by rfl, ?_⟩) (by assumption) ?_
                rotate_left
                · intro w _; go_simp
                  try with_reducible rfl
                try simp only [Act.put, List.setIfInBounds_toArray, List.set_cons_zero, List.set_cons_succ]
                refine Un.take (i := 25) (v := ?_) rfl (by kernel_rfl) (by kernel_rfl) (by kernel_rfl) (by kernel_rfl) (by kernel_rfl) (by kernel_rfl) (fun _ _ _ h => h) (Or.inl ⟨by rfl, ?_⟩) (by assumption) ?_
                rotate_left
                · intro w hSw; (try dsimp only at hSw); go_simp
                  try with_reducible rfl
                try simp only [Act.put, List.setIfInBounds_toArray, List.set_cons_zero, List.set_cons_succ]
                refine Un.pair (i := 1) (j := 14) (by kernel_rfl) rfl rfl (fun K hK => ?_) (fun K hK => ?_)
                · rw [if_pos (by rfl)]
                  go_simp
                  have HBx1 : Hid (Below w6.heap.size w6 ((w6.alloc (.cells #[.int .u8 1] 5)).drew)) := ((Below.refl _ _).alloc (Nat.le_refl _) _).drew
                  have hH1 : (fun W => W.cell? ⟨gx, 2, none⟩ = some (.bool bl.null) ∧ W.cell? ⟨gx, 3, none⟩ = some (.int .i64 bl.n) ∧ W.cell? ⟨gx, 4, none⟩ = some (.string bl.s) ∧ W.cell? ⟨gx, 5, none⟩ = some (.bool bm.null) ∧ W.cell? ⟨gx, 6, none⟩ = some (.int .i64 bm.n) ∧ W.cell? ⟨gx, 7, none⟩ = some (.string bm.s) ∧ W.cell? ⟨fb, 0, none⟩ = some (.slice (some ⟨cb, coff, none⟩) cs.length ccap) ∧ W.cell? ⟨cb, coff + i * 2 + 1, none⟩ = some (.int .i64 kd)) ((w6.alloc (.cells #[.int .u8 1] 5)).drew) := HSS.out _ HBx1.out
                  refine hK.out _ _ (fun _ => hH1) ?_
                  clear hK K
                  try simp only [Act.put, List.setIfInBounds_toArray, List.set_cons_zero, List.set_cons_succ]
                  refine Un.pair (i := 2) (j := 14) (by kernel_rfl) rfl rfl (fun K hK => ?_) (fun K hK => ?_)
                  · rw [if_pos (by rfl)]
                    go_simp
                    refine hK.out _ _ (fun _ => by assumption) ?_
                    clear hK K
                    try simp only [Act.put, List.setIfInBounds_toArray, List.set_cons_zero, List.set_cons_succ]
                    refine Un.pick (i := 3) (v := ?_) rfl (by kernel_rfl) (by kernel_rfl) (by kernel_rfl) (by kernel_rfl) (fun _ _ _ h => h) (Or.inl ⟨by rfl, ?_⟩) (by assumption) ?_
                    rotate_left
                    · intro w _; go_simp
                      try with_reducible rfl
                    try simp only [Act.put, List.setIfInBounds_toArray, List.set_cons_zero, List.set_cons_succ]
                    refine Un.one (i := 14) (by kernel_rfl) rfl (fun K hK => ?_)
                    rw [if_pos (by rfl)]
                    go_simp
                    go_at_call 88
                    refine (HPL1.out _).mono ?_
                    rintro e wy2 ⟨rfl, hb2⟩
                    have HBx2 : Hid (Below w6.heap.size w6 wy2) := below_one hb2
                    have hH2 : (fun W => W.cell? ⟨gx, 2, none⟩ = some (.bool bl.null) ∧ W.cell? ⟨gx, 3, none⟩ = some (.int .i64 bl.n) ∧ W.cell? ⟨gx, 4, none⟩ = some (.string bl.s) ∧ W.cell? ⟨gx, 5, none⟩ = some (.bool bm.null) ∧ W.cell? ⟨gx, 6, none⟩ = some (.int .i64 bm.n) ∧ W.cell? ⟨gx, 7, none⟩ = some (.string bm.s) ∧ W.cell? ⟨fb, 0, none⟩ = some (.slice (some ⟨cb, coff, none⟩) cs.length ccap) ∧ W.cell? ⟨cb, coff + i * 2 + 1, none⟩ = some (.int .i64 kd)) wy2 := HSS.out _ HBx2.out
                    refine hK.out _ _ (fun _ => hH2) ?_
                    clear hK K hb2
                    try simp only [Act.put, List.setIfInBounds_toArray, List.set_cons_zero, List.set_cons_succ]
                    refine Un.pick (i := 15) (v := ?_) rfl (by kernel_rfl) (by kernel_rfl) (by kernel_rfl) (by kernel_rfl) (fun _ _ _ h => h) (Or.inl ⟨by rfl, ?_⟩) (by assumption) ?_
                    rotate_left
                    · intro w _; go_simp
                      try with_reducible rfl
                    try simp only [Act.put, List.setIfInBounds_toArray, List.set_cons_zero, List.set_cons_succ]
                    refine Un.one (i := 26) (by kernel_rfl) rfl (fun K hK => ?_)
                    rw [if_pos (by rfl)]
                    go_simp
                    go_at_call 88
                    refine (HPL2.out _).mono ?_
                    rintro e wy3 ⟨rfl, hb3⟩
                    have HBx3 : Hid (Below w6.heap.size w6 wy3) := HBx2.out.trans (hb3.mono HBx2.out.size)
                    have hH3 : (fun W => W.cell? ⟨gx, 2, none⟩ = some (.bool bl.null) ∧ W.cell? ⟨gx, 3, none⟩ = some (.int .i64 bl.n) ∧ W.cell? ⟨gx, 4, none⟩ = some (.string bl.s) ∧ W.cell? ⟨gx, 5, none⟩ = some (.bool bm.null) ∧ W.cell? ⟨gx, 6, none⟩ = some (.int .i64 bm.n) ∧ W.cell? ⟨gx, 7, none⟩ = some (.string bm.s) ∧ W.cell? ⟨fb, 0, none⟩ = some (.slice (some ⟨cb, coff, none⟩) cs.length ccap) ∧ W.cell? ⟨cb, coff + i * 2 + 1, none⟩ = some (.int .i64 kd)) wy3 := HSS.out _ HBx3.out
                    refine hK.out _ _ (fun _ => hH3) ?_
                    clear hK K hb3
                    try simp only [Act.put, List.setIfInBounds_toArray, List.set_cons_zero, List.set_cons_succ]
                    refine Un.pick (i := 27) (v := ?_) rfl (by kernel_rfl) (by kernel_rfl) (by kernel_rfl) (by kernel_rfl) (fun _ _ _ h => h) (Or.inl ⟨by rfl, ?_⟩) (by assumption) ?_
                    rotate_left
                    · intro w _; go_simp
                      try with_reducible rfl
                    try simp only [Act.put, List.setIfInBounds_toArray, List.set_cons_zero, List.set_cons_succ]
                    refine Un.one (i := 28) (by kernel_rfl) rfl (fun K hK => ?_)
                    rw [if_pos (by rfl)]
                    go_simp
                    refine hK.out _ _ (fun h => absurd h (by decide)) ?_
                    clear hK K
                    try simp only [Act.put, List.setIfInBounds_toArray, List.set_cons_zero, List.set_cons_succ]
                    refine Un.done (by kernel_rfl) ?_ _
                    try simp only [Act.put, List.setIfInBounds_toArray, List.set_cons_zero, List.set_cons_succ]
                    go_wp2_with fail
                    go_roundw
                    case rel => exact ⟨i + 1, by omega, by go_num, by rw [HE.out], HB6.out.trans (HBx3.out.mono HB6.out.size)⟩
                    case measure => simp [intOf]; omega
                  · rw [if_pos (by rfl)]
                    go_simp
                    go_at_call 88
                    refine (HPL1.out _).mono ?_
                    rintro e wy4 ⟨rfl, hb4⟩
                    have HBx4 : Hid (Below w6.heap.size w6 wy4) := below_one hb4
                    have n4 := after_new hb4
                    have hH4 : (fun W => W.cell? ⟨gx, 2, none⟩ = some (.bool bl.null) ∧ W.cell? ⟨gx, 3, none⟩ = some (.int .i64 bl.n) ∧ W.cell? ⟨gx, 4, none⟩ = some (.string bl.s) ∧ W.cell? ⟨gx, 5, none⟩ = some (.bool bm.null) ∧ W.cell? ⟨gx, 6, none⟩ = some (.int .i64 bm.n) ∧ W.cell? ⟨gx, 7, none⟩ = some (.string bm.s) ∧ W.cell? ⟨fb, 0, none⟩ = some (.slice (some ⟨cb, coff, none⟩) cs.length ccap) ∧ W.cell? ⟨cb, coff + i * 2 + 1, none⟩ = some (.int .i64 kd)) wy4 := HSS.out _ HBx4.out
                    refine hK.out _ _ (fun _ => hH4) ?_
                    clear hK K hb4
                    try simp only [Act.put, List.setIfInBounds_toArray, List.set_cons_zero, List.set_cons_succ]
                    refine Un.pair (i := 2) (j := 26) (by kernel_rfl) rfl rfl (fun K hK => ?_) (fun K hK => ?_)
                    · rw [if_pos (by rfl)]
                      go_simp
                      refine hK.out _ _ (fun _ => by assumption) ?_
                      clear hK K
                      try simp only [Act.put, List.setIfInBounds_toArray, List.set_cons_zero, List.set_cons_succ]
                      refine Un.pick (i := 3) (v := ?_) rfl (by kernel_rfl) (by kernel_rfl) (by kernel_rfl) (by kernel_rfl) (fun _ _ _ h => h) (Or.inl ⟨by rfl, ?_⟩) (by assumption) ?_
                      rotate_left
                      · intro w _; go_simp
                        try with_reducible rfl
                      try simp only [Act.put, List.setIfInBounds_toArray, List.set_cons_zero, List.set_cons_succ]
                      refine Un.pick (i := 15) (v := ?_) rfl (by kernel_rfl) (by kernel_rfl) (by kernel_rfl) (by kernel_rfl) (fun _ _ _ h => h) (Or.inl ⟨by rfl, ?_⟩) (by assumption) ?_
                      rotate_left
                      · intro w _; go_simp
                        try with_reducible rfl
                      try simp only [Act.put, List.setIfInBounds_toArray, List.set_cons_zero, List.set_cons_succ]
                      refine Un.one (i := 26) (by kernel_rfl) rfl (fun K hK => ?_)
                      rw [if_pos (by rfl)]
                      go_simp
                      go_at_call 88
                      refine (HPL2.out _).mono ?_
                      rintro e wy5 ⟨rfl, hb5⟩
                      have HBx5 : Hid (Below w6.heap.size w6 wy5) := HBx4.out.trans (hb5.mono HBx4.out.size)
                      have hH5 : (fun W => W.cell? ⟨gx, 2, none⟩ = some (.bool bl.null) ∧ W.cell? ⟨gx, 3, none⟩ = some (.int .i64 bl.n) ∧ W.cell? ⟨gx, 4, none⟩ = some (.string bl.s) ∧ W.cell? ⟨gx, 5, none⟩ = some (.bool bm.null) ∧ W.cell? ⟨gx, 6, none⟩ = some (.int .i64 bm.n) ∧ W.cell? ⟨gx, 7, none⟩ = some (.string bm.s) ∧ W.cell? ⟨fb, 0, none⟩ = some (.slice (some ⟨cb, coff, none⟩) cs.length ccap) ∧ W.cell? ⟨cb, coff + i * 2 + 1, none⟩ = some (.int .i64 kd)) wy5 := HSS.out _ HBx5.out
                      refine hK.out _ _ (fun _ => hH5) ?_
                      clear hK K hb5
                      try simp only [Act.put, List.setIfInBounds_toArray, List.set_cons_zero, List.set_cons_succ]
                      refine Un.pick (i := 27) (v := ?_) rfl (by kernel_rfl) (by kernel_rfl) (by kernel_rfl) (by kernel_rfl) (fun _ _ _ h => h) (Or.inl ⟨by rfl, ?_⟩) (by assumption) ?_
                      rotate_left
                      · intro w _; go_simp
                        try with_reducible rfl
                      try simp only [Act.put, List.setIfInBounds_toArray, List.set_cons_zero, List.set_cons_succ]
                      refine Un.one (i := 28) (by kernel_rfl) rfl (fun K hK => ?_)
                      rw [if_pos (by rfl)]
                      go_simp
                      refine hK.out _ _ (fun h => absurd h (by decide)) ?_
                      clear hK K
                      try simp only [Act.put, List.setIfInBounds_toArray, List.set_cons_zero, List.set_cons_succ]
                      refine Un.done (by kernel_rfl) ?_ _
                      try simp only [Act.put, List.setIfInBounds_toArray, List.set_cons_zero, List.set_cons_succ]
                      go_wp2_with fail
                      go_roundw
                      case rel => exact ⟨i + 1, by omega, by go_num, by rw [HE.out], HB6.out.trans (HBx5.out.mono HB6.out.size)⟩
                      case measure => simp [intOf]; omega
                    · rw [if_pos (by rfl)]
                      go_simp
                      go_at_call 88
                      refine (HPL2.out _).mono ?_
                      rintro e wy6 ⟨rfl, hb6⟩
                      have HBx6 : Hid (Below w6.heap.size w6 wy6) := HBx4.out.trans (hb6.mono HBx4.out.size)
                      have n6 := after_old hb6 ‹World.cell? _ ⟨w6.heap.size, 0, none⟩ = _›
                      have hH6 : (fun W => W.cell? ⟨gx, 2, none⟩ = some (.bool bl.null) ∧ W.cell? ⟨gx, 3, none⟩ = some (.int .i64 bl.n) ∧ W.cell? ⟨gx, 4, none⟩ = some (.string bl.s) ∧ W.cell? ⟨gx, 5, none⟩ = some (.bool bm.null) ∧ W.cell? ⟨gx, 6, none⟩ = some (.int .i64 bm.n) ∧ W.cell? ⟨gx, 7, none⟩ = some (.string bm.s) ∧ W.cell? ⟨fb, 0, none⟩ = some (.slice (some ⟨cb, coff, none⟩) cs.length ccap) ∧ W.cell? ⟨cb, coff + i * 2 + 1, none⟩ = some (.int .i64 kd)) wy6 := HSS.out _ HBx6.out
                      refine hK.out _ _ (fun _ => hH6) ?_
                      clear hK K hb6
                      try simp only [Act.put, List.setIfInBounds_toArray, List.set_cons_zero, List.set_cons_succ]
                      refine Un.one (i := 2) (by kernel_rfl) rfl (fun K hK => ?_)
                      rw [if_pos (by rfl)]
                      go_simp
                      refine hK.out _ _ (fun _ => by assumption) ?_
                      clear hK K
                      try simp only [Act.put, List.setIfInBounds_toArray, List.set_cons_zero, List.set_cons_succ]
                      refine Un.pick (i := 3) (v := ?_) rfl (by kernel_rfl) (by kernel_rfl) (by kernel_rfl) (by kernel_rfl) (fun _ _ _ h => h) (Or.inl ⟨by rfl, ?_⟩) (by assumption) ?_
                      rotate_left
                      · intro w _; go_simp
                        try with_reducible rfl
                      try simp only [Act.put, List.setIfInBounds_toArray, List.set_cons_zero, List.set_cons_succ]
                      refine Un.pick (i := 15) (v := ?_) rfl (by kernel_rfl) (by kernel_rfl) (by kernel_rfl) (by kernel_rfl) (fun _ _ _ h => h) (Or.inl ⟨by rfl, ?_⟩) (by assumption) ?_
                      rotate_left
                      · intro w _; go_simp
                        try with_reducible rfl
                      try simp only [Act.put, List.setIfInBounds_toArray, List.set_cons_zero, List.set_cons_succ]
                      refine Un.pick (i := 27) (v := ?_) rfl (by kernel_rfl) (by kernel_rfl) (by kernel_rfl) (by kernel_rfl) (fun _ _ _ h => h) (Or.inl ⟨by rfl, ?_⟩) (by assumption) ?_
                      rotate_left
                      · intro w _; go_simp
                        try with_reducible rfl
                      try simp only [Act.put, List.setIfInBounds_toArray, List.set_cons_zero, List.set_cons_succ]
                      refine Un.one (i := 28) (by kernel_rfl) rfl (fun K hK => ?_)
                      rw [if_pos (by rfl)]
                      go_simp
                      refine hK.out _ _ (fun h => absurd h (by decide)) ?_
                      clear hK K
                      try simp only [Act.put, List.setIfInBounds_toArray, List.set_cons_zero, List.set_cons_succ]
                      refine Un.done (by kernel_rfl) ?_ _
                      try simp only [Act.put, List.setIfInBounds_toArray, List.set_cons_zero, List.set_cons_succ]
                      go_wp2_with fail
                      go_roundw
                      case rel => exact ⟨i + 1, by omega, by go_num, by rw [HE.out], HB6.out.trans (HBx6.out.mono HB6.out.size)⟩
                      case measure => simp [intOf]; omega
                · rw [if_pos (by rfl)]
                  go_simp
                  go_at_call 88
                  refine (HPL1.out _).mono ?_
                  rintro e wy7 ⟨rfl, hb7⟩
                  have HBx7 : Hid (Below w6.heap.size w6 wy7) := below_a hb7
                  have hH7 : (fun W => W.cell? ⟨gx, 2, none⟩ = some (.bool bl.null) ∧ W.cell? ⟨gx, 3, none⟩ = some (.int .i64 bl.n) ∧ W.cell? ⟨gx, 4, none⟩ = some (.string bl.s) ∧ W.cell? ⟨gx, 5, none⟩ = some (.bool bm.null) ∧ W.cell? ⟨gx, 6, none⟩ = some (.int .i64 bm.n) ∧ W.cell? ⟨gx, 7, none⟩ = some (.string bm.s) ∧ W.cell? ⟨fb, 0, none⟩ = some (.slice (some ⟨cb, coff, none⟩) cs.length ccap) ∧ W.cell? ⟨cb, coff + i * 2 + 1, none⟩ = some (.int .i64 kd)) wy7 := HSS.out _ HBx7.out
                  refine hK.out _ _ (fun _ => hH7) ?_
                  clear hK K hb7
                  try simp only [Act.put, List.setIfInBounds_toArray, List.set_cons_zero, List.set_cons_succ]
                  refine Un.pair (i := 1) (j := 26) (by kernel_rfl) rfl rfl (fun K hK => ?_) (fun K hK => ?_)
                  · rw [if_pos (by rfl)]
                    go_simp
                    have HBx8 : Hid (Below w6.heap.size w6 (wy7.alloc (.cells #[.int .u8 1] 5))) := HBx7.out.alloc HBx7.out.size _
                    have hH8 : (fun W => W.cell? ⟨gx, 2, none⟩ = some (.bool bl.null) ∧ W.cell? ⟨gx, 3, none⟩ = some (.int .i64 bl.n) ∧ W.cell? ⟨gx, 4, none⟩ = some (.string bl.s) ∧ W.cell? ⟨gx, 5, none⟩ = some (.bool bm.null) ∧ W.cell? ⟨gx, 6, none⟩ = some (.int .i64 bm.n) ∧ W.cell? ⟨gx, 7, none⟩ = some (.string bm.s) ∧ W.cell? ⟨fb, 0, none⟩ = some (.slice (some ⟨cb, coff, none⟩) cs.length ccap) ∧ W.cell? ⟨cb, coff + i * 2 + 1, none⟩ = some (.int .i64 kd)) (wy7.alloc (.cells #[.int .u8 1] 5)) := HSS.out _ HBx8.out
                    refine hK.out _ _ (fun _ => hH8) ?_
                    clear hK K
                    try simp only [Act.put, List.setIfInBounds_toArray, List.set_cons_zero, List.set_cons_succ]
                    refine Un.pair (i := 2) (j := 26) (by kernel_rfl) rfl rfl (fun K hK => ?_) (fun K hK => ?_)
                    · rw [if_pos (by rfl)]
                      go_simp
                      refine hK.out _ _ (fun _ => by assumption) ?_
                      clear hK K
                      try simp only [Act.put, List.setIfInBounds_toArray, List.set_cons_zero, List.set_cons_succ]
                      refine Un.pick (i := 3) (v := ?_) rfl (by kernel_rfl) (by kernel_rfl) (by kernel_rfl) (by kernel_rfl) (fun _ _ _ h => h) (Or.inl ⟨by rfl, ?_⟩) (by assumption) ?_
                      rotate_left
                      · intro w _; go_simp
                        try with_reducible rfl
                      try simp only [Act.put, List.setIfInBounds_toArray, List.set_cons_zero, List.set_cons_succ]
                      refine Un.pick (i := 15) (v := ?_) rfl (by kernel_rfl) (by kernel_rfl) (by kernel_rfl) (by kernel_rfl) (fun _ _ _ h => h) (Or.inl ⟨by rfl, ?_⟩) (by assumption) ?_
                      rotate_left
                      · intro w _; go_simp
                        try with_reducible rfl
                      try simp only [Act.put, List.setIfInBounds_toArray, List.set_cons_zero, List.set_cons_succ]
                      refine Un.one (i := 26) (by kernel_rfl) rfl (fun K hK => ?_)
                      rw [if_pos (by rfl)]
                      go_simp
                      go_at_call 88
                      refine (HPL2.out _).mono ?_
                      rintro e wy9 ⟨rfl, hb9⟩
                      have HBx9 : Hid (Below w6.heap.size w6 wy9) := HBx8.out.trans (hb9.mono HBx8.out.size)
                      have hH9 : (fun W => W.cell? ⟨gx, 2, none⟩ = some (.bool bl.null) ∧ W.cell? ⟨gx, 3, none⟩ = some (.int .i64 bl.n) ∧ W.cell? ⟨gx, 4, none⟩ = some (.string bl.s) ∧ W.cell? ⟨gx, 5, none⟩ = some (.bool bm.null) ∧ W.cell? ⟨gx, 6, none⟩ = some (.int .i64 bm.n) ∧ W.cell? ⟨gx, 7, none⟩ = some (.string bm.s) ∧ W.cell? ⟨fb, 0, none⟩ = some (.slice (some ⟨cb, coff, none⟩) cs.length ccap) ∧ W.cell? ⟨cb, coff + i * 2 + 1, none⟩ = some (.int .i64 kd)) wy9 := HSS.out _ HBx9.out
                      refine hK.out _ _ (fun _ => hH9) ?_
                      clear hK K hb9
                      try simp only [Act.put, List.setIfInBounds_toArray, List.set_cons_zero, List.set_cons_succ]
                      refine Un.pick (i := 27) (v := ?_) rfl (by kernel_rfl) (by kernel_rfl) (by kernel_rfl) (by kernel_rfl) (fun _ _ _ h => h) (Or.inl ⟨by rfl, ?_⟩) (by assumption) ?_
                      rotate_left
                      · intro w _; go_simp
                        try with_reducible rfl
                      try simp only [Act.put, List.setIfInBounds_toArray, List.set_cons_zero, List.set_cons_succ]
                      refine Un.one (i := 28) (by kernel_rfl) rfl (fun K hK => ?_)
                      rw [if_pos (by rfl)]
                      go_simp
                      refine hK.out _ _ (fun h => absurd h (by decide)) ?_
                      clear hK K
                      try simp only [Act.put, List.setIfInBounds_toArray, List.set_cons_zero, List.set_cons_succ]
                      refine Un.done (by kernel_rfl) ?_ _
                      try simp only [Act.put, List.setIfInBounds_toArray, List.set_cons_zero, List.set_cons_succ]
                      go_wp2_with fail
                      go_roundw
                      case rel => exact ⟨i + 1, by omega, by go_num, by rw [HE.out], HB6.out.trans (HBx9.out.mono HB6.out.size)⟩
                      case measure => simp [intOf]; omega
                    · rw [if_pos (by rfl)]
                      go_simp
                      go_at_call 88
                      refine (HPL2.out _).mono ?_
                      rintro e wy10 ⟨rfl, hb10⟩
                      have HBx10 : Hid (Below w6.heap.size w6 wy10) := HBx8.out.trans (hb10.mono HBx8.out.size)
                      have n10 := after_new2 hb10
                      have hH10 : (fun W => W.cell? ⟨gx, 2, none⟩ = some (.bool bl.null) ∧ W.cell? ⟨gx, 3, none⟩ = some (.int .i64 bl.n) ∧ W.cell? ⟨gx, 4, none⟩ = some (.string bl.s) ∧ W.cell? ⟨gx, 5, none⟩ = some (.bool bm.null) ∧ W.cell? ⟨gx, 6, none⟩ = some (.int .i64 bm.n) ∧ W.cell? ⟨gx, 7, none⟩ = some (.string bm.s) ∧ W.cell? ⟨fb, 0, none⟩ = some (.slice (some ⟨cb, coff, none⟩) cs.length ccap) ∧ W.cell? ⟨cb, coff + i * 2 + 1, none⟩ = some (.int .i64 kd)) wy10 := HSS.out _ HBx10.out
                      refine hK.out _ _ (fun _ => hH10) ?_
                      clear hK K hb10
                      try simp only [Act.put, List.setIfInBounds_toArray, List.set_cons_zero, List.set_cons_succ]
                      refine Un.one (i := 2) (by kernel_rfl) rfl (fun K hK => ?_)
                      rw [if_pos (by rfl)]
                      go_simp
                      refine hK.out _ _ (fun _ => by assumption) ?_
                      clear hK K
                      try simp only [Act.put, List.setIfInBounds_toArray, List.set_cons_zero, List.set_cons_succ]
                      refine Un.pick (i := 3) (v := ?_) rfl (by kernel_rfl) (by kernel_rfl) (by kernel_rfl) (by kernel_rfl) (fun _ _ _ h => h) (Or.inl ⟨by rfl, ?_⟩) (by assumption) ?_
                      rotate_left
                      · intro w _; go_simp
                        try with_reducible rfl
                      try simp only [Act.put, List.setIfInBounds_toArray, List.set_cons_zero, List.set_cons_succ]
                      refine Un.pick (i := 15) (v := ?_) rfl (by kernel_rfl) (by kernel_rfl) (by kernel_rfl) (by kernel_rfl) (fun _ _ _ h => h) (Or.inl ⟨by rfl, ?_⟩) (by assumption) ?_
                      rotate_left
                      · intro w _; go_simp
                        try with_reducible rfl
                      try simp only [Act.put, List.setIfInBounds_toArray, List.set_cons_zero, List.set_cons_succ]
                      refine Un.pick (i := 27) (v := ?_) rfl (by kernel_rfl) (by kernel_rfl) (by kernel_rfl) (by kernel_rfl) (fun _ _ _ h => h) (Or.inl ⟨by rfl, ?_⟩) (by assumption) ?_
                      rotate_left
                      · intro w _; go_simp
                        try with_reducible rfl
                      try simp only [Act.put, List.setIfInBounds_toArray, List.set_cons_zero, List.set_cons_succ]
                      refine Un.one (i := 28) (by kernel_rfl) rfl (fun K hK => ?_)
                      rw [if_pos (by rfl)]
                      go_simp
                      refine hK.out _ _ (fun h => absurd h (by decide)) ?_
                      clear hK K
                      try simp only [Act.put, List.setIfInBounds_toArray, List.set_cons_zero, List.set_cons_succ]
                      refine Un.done (by kernel_rfl) ?_ _
                      try simp only [Act.put, List.setIfInBounds_toArray, List.set_cons_zero, List.set_cons_succ]
                      go_wp2_with fail
                      go_roundw
                      case rel => exact ⟨i + 1, by omega, by go_num, by rw [HE.out], HB6.out.trans (HBx10.out.mono HB6.out.size)⟩
                      case measure => simp [intOf]; omega
                  · rw [if_pos (by rfl)]
                    go_simp
                    go_at_call 88
                    refine (HPL2.out _).mono ?_
                    rintro e wy11 ⟨rfl, hb11⟩
                    have HBx11 : Hid (Below w6.heap.size w6 wy11) := HBx7.out.trans (hb11.mono HBx7.out.size)
                    have hH11 : (fun W => W.cell? ⟨gx, 2, none⟩ = some (.bool bl.null) ∧ W.cell? ⟨gx, 3, none⟩ = some (.int .i64 bl.n) ∧ W.cell? ⟨gx, 4, none⟩ = some (.string bl.s) ∧ W.cell? ⟨gx, 5, none⟩ = some (.bool bm.null) ∧ W.cell? ⟨gx, 6, none⟩ = some (.int .i64 bm.n) ∧ W.cell? ⟨gx, 7, none⟩ = some (.string bm.s) ∧ W.cell? ⟨fb, 0, none⟩ = some (.slice (some ⟨cb, coff, none⟩) cs.length ccap) ∧ W.cell? ⟨cb, coff + i * 2 + 1, none⟩ = some (.int .i64 kd)) wy11 := HSS.out _ HBx11.out
                    refine hK.out _ _ (fun _ => hH11) ?_
                    clear hK K hb11
                    try simp only [Act.put, List.setIfInBounds_toArray, List.set_cons_zero, List.set_cons_succ]
                    refine Un.one (i := 1) (by kernel_rfl) rfl (fun K hK => ?_)
                    rw [if_pos (by rfl)]
                    go_simp
                    have HBx12 : Hid (Below w6.heap.size w6 (wy11.alloc (.cells #[.int .u8 1] 5))) := HBx11.out.alloc HBx11.out.size _
                    have hH12 : (fun W => W.cell? ⟨gx, 2, none⟩ = some (.bool bl.null) ∧ W.cell? ⟨gx, 3, none⟩ = some (.int .i64 bl.n) ∧ W.cell? ⟨gx, 4, none⟩ = some (.string bl.s) ∧ W.cell? ⟨gx, 5, none⟩ = some (.bool bm.null) ∧ W.cell? ⟨gx, 6, none⟩ = some (.int .i64 bm.n) ∧ W.cell? ⟨gx, 7, none⟩ = some (.string bm.s) ∧ W.cell? ⟨fb, 0, none⟩ = some (.slice (some ⟨cb, coff, none⟩) cs.length ccap) ∧ W.cell? ⟨cb, coff + i * 2 + 1, none⟩ = some (.int .i64 kd)) (wy11.alloc (.cells #[.int .u8 1] 5)) := HSS.out _ HBx12.out
                    refine hK.out _ _ (fun _ => hH12) ?_
                    clear hK K
                    try simp only [Act.put, List.setIfInBounds_toArray, List.set_cons_zero, List.set_cons_succ]
                    refine Un.one (i := 2) (by kernel_rfl) rfl (fun K hK => ?_)
                    rw [if_pos (by rfl)]
                    go_simp
                    refine hK.out _ _ (fun _ => by assumption) ?_
                    clear hK K
                    try simp only [Act.put, List.setIfInBounds_toArray, List.set_cons_zero, List.set_cons_succ]
                    refine Un.pick (i := 3) (v := ?_) rfl (by kernel_rfl) (by kernel_rfl) (by kernel_rfl) (by kernel_rfl) (fun _ _ _ h => h) (Or.inl ⟨by rfl, ?_⟩) (by assumption) ?_
                    rotate_left
                    · intro w _; go_simp
                      try with_reducible rfl
                    try simp only [Act.put, List.setIfInBounds_toArray, List.set_cons_zero, List.set_cons_succ]
                    refine Un.pick (i := 15) (v := ?_) rfl (by kernel_rfl) (by kernel_rfl) (by kernel_rfl) (by kernel_rfl) (fun _ _ _ h => h) (Or.inl ⟨by rfl, ?_⟩) (by assumption) ?_
                    rotate_left
                    · intro w _; go_simp
                      try with_reducible rfl
                    try simp only [Act.put, List.setIfInBounds_toArray, List.set_cons_zero, List.set_cons_succ]
                    refine Un.pick (i := 27) (v := ?_) rfl (by kernel_rfl) (by kernel_rfl) (by kernel_rfl) (by kernel_rfl) (fun _ _ _ h => h) (Or.inl ⟨by rfl, ?_⟩) (by assumption) ?_
                    rotate_left
                    · intro w _; go_simp
                      try with_reducible rfl
                    try simp only [Act.put, List.setIfInBounds_toArray, List.set_cons_zero, List.set_cons_succ]
                    refine Un.one (i := 28) (by kernel_rfl) rfl (fun K hK => ?_)
                    rw [if_pos (by rfl)]
                    go_simp
                    refine hK.out _ _ (fun h => absurd h (by decide)) ?_
                    clear hK K
                    try simp only [Act.put, List.setIfInBounds_toArray, List.set_cons_zero, List.set_cons_succ]
                    refine Un.done (by kernel_rfl) ?_ _
                    try simp only [Act.put, List.setIfInBounds_toArray, List.set_cons_zero, List.set_cons_succ]
                    go_wp2_with fail
                    go_roundw
                    case rel => exact ⟨i + 1, by omega, by go_num, by rw [HE.out], HB6.out.trans (HBx12.out.mono HB6.out.size)⟩
                    case measure => simp [intOf]; omega
            · obtain rfl : i = cs.length := by omega
              have HE : Hid (strOf (pre3 ++ prtsB cs b.parts cs.length) = strOf (pre2 ++ rbandsB cs (bs.take (k + 1)))) := by
                show _ = _
                rw [HP.out, HBK.out.len]
              clear hbel
              go_wp2_with fail
              go_roundw
              case rel => exact ⟨k + 1, by omega, by go_num, by rw [HE.out], HB.out⟩
              case measure => simp [intOf]; omega
        · obtain rfl : k = L.length := by omega
          clear hbel
          go_wp2_with fail
          go_ret
          rw [HFB.out]
          exact ⟨rfl, HB.out⟩
end Go.Proofs.Ytjidbonhhpkljaa.Ec

/- May columns be: the document's side. -/
set_option linter.unusedVariables false
namespace Go.Proofs.Ytjidbonhhpkljaa.Ec
open Go.RowKit Go.Proofs.Ytjidbonhhpkljaa.Pk
theorem good_stepR {l : List Col} {j : Nat} (hA : ∀ i, i < j → GoodAt l i) (hj : GoodAt l j) : ∀ i, i < j + 1 → GoodAt l i := by
  intro i hi
  by_cases e : i = j
  · rw [e]; exact hj
  · exact hA i (by omega)
theorem cols_allR {l : List Col} {j : Nat} (h0 : 1 ≤ l.length) (h8 : l.length ≤ 8) (hA : ∀ i, i < j → GoodAt l i) (hj : ¬ j < l.length) : ColsOk l :=
  ⟨h0, h8, fun i h => hA i (by omega) h⟩
theorem colOk_iff (c : Col) : colOk c = true ↔ 1 ≤ c.name.size ∧ c.name.size ≤ 16 ∧ 1 ≤ c.kind ∧ c.kind ≤ 3 := by
  simp [colOk, isKindB]
  omega

set_option maxRecDepth 100000 in
set_option maxHeartbeats 4000000 in
theorem columnsMay_any (l : List Col) (cv : Value) (w : World) (hm : l.length ≤ maxLen) (hcs : CSl w cv l) :
    Calls Try.prog 85 #[cv] w fun e w' => ∃ bb, e = .returned (.bool bb) ∧ (bb = true ↔ ColsOk l) ∧ Below w.heap.size w w' := by
  obtain ⟨ao, b, off, cap, rfl, hcap, hr⟩ := hcs
  unfold maxLen at hm
  by_cases h0 : 1 ≤ l.length ∧ l.length ≤ 8
  · obtain ⟨h0, h8⟩ := h0
    have HR : Hid (CRow w ao b off l) := hr
    obtain rfl := hr.addr (by omega)
    clear hr
    have d1 : decide ((l.length : Int) < 1) = false := by simp; omega
    have d2 : decide (8 < (l.length : Int)) = false := by simp; omega
    go_enter Try.func85, Try.ntmps85
    go_wp2_with fail
    go_loopw [3] (fun i wr => ∃ j : Nat, j ≤ l.length ∧ i = .int .i64 j ∧ (∀ i, i < j → GoodAt l i) ∧ Below w.heap.size w wr) (fun i _ => l.length - (intOf i).toNat)
    case atStart => exact ⟨0, Nat.zero_le _, rfl, fun t h => by omega, Below.refl _ _⟩
    case round =>
      obtain ⟨j, hj, rfl, hall, hbel⟩ := hrel
      have HA : Hid (∀ i, i < j → GoodAt l i) := hall
      have HB : Hid (Below w.heap.size w wr) := hbel
      have hsz := hbel.size
      clear hall
      by_cases hlt : j < l.length
      · have hr := HR.out.below hbel
        have p0 := hr.c0 j hlt
        have p1 := hr.c1 j hlt
        have HX : Hid (colOk l[j] = false → ¬ ColsOk l) := fun h hc => by
          have := (hc.2.2 j hlt).1
          rw [h] at this; cases this
        have HX2 : Hid ((∃ k, ∃ h : k < j, l[k].name = l[j].name) → ¬ ColsOk l) := by
          rintro ⟨k, h, e⟩ hc
          exact (hc.2.2 j hlt).2 k h e
        have HY : Hid (colOk l[j] = true → (¬ ∃ k, ∃ h : k < j, l[k].name = l[j].name) → ∀ i, i < j + 1 → GoodAt l i) := fun h1 h2 => good_stepR HA.out (fun _ => ⟨h1, fun k hk e => h2 ⟨k, hk, e⟩⟩)
        have HC0 : Hid (∀ k, (h : k < l.length) → wr.cell? ⟨b, off + k * 2, none⟩ = some (.string l[k].name)) := fun k h => hr.c0 k h
        clear hr hbel HA HR
        generalize hxx : l[j] = x at *
        have HXX : Hid (l[j] = x) := hxx
        clear hxx
        by_cases hc : 1 ≤ x.name.size ∧ x.name.size ≤ 16 ∧ 1 ≤ x.kind ∧ x.kind ≤ 3
        · have HOK : Hid (colOk x = true) := (colOk_iff x).2 hc
          have HY2 : Hid ((¬ ∃ k, ∃ h : k < j, l[k].name = x.name) → ∀ i, i < j + 1 → GoodAt l i) := HY.out HOK.out
          obtain ⟨c1, c2, c3, c4⟩ := hc
          have e1 : decide ((x.name.size : Int) < 1) = false := by simp; omega
          have e2 : decide (16 < (x.name.size : Int)) = false := by simp; omega
          have e3 : decide (x.kind < 1) = false := by simp; omega
          have e4 : decide (3 < x.kind) = false := by simp; omega
          clear HX HY c1 c2 c3 c4
          go_wp2_with fail
          clear e1 e2 e3 e4 p1
          go_loopw [4] (fun k wq => ∃ t : Nat, t ≤ j ∧ k = .int .i64 (t : Int) ∧ (∀ s, (h : s < l.length) → s < t → l[s].name ≠ x.name) ∧ ∃ n, wq = wr.drewN n) (fun k _ => j - (intOf k).toNat)
          case atStart => exact ⟨0, Nat.zero_le _, rfl, fun t _ h => by omega, 0, rfl⟩
          case round =>
            rename World => wq
            obtain ⟨t, ht, rfl, hne, n, hwq⟩ := hrel
            have HNE : Hid (∀ s, (h : s < l.length) → s < t → l[s].name ≠ x.name) := hne
            have HBQ : Hid (Below w.heap.size w wq) := by rw [hwq]; exact below_drewN HB.out n
            have HWQ : Hid (wq = wr.drewN n) := hwq
            have q0 : wq.cell? ⟨b, off + j * 2, none⟩ = some (.string x.name) := by rw [hwq]; exact p0
            have HCT : Hid (∀ h : t < l.length, wq.cell? ⟨b, off + t * 2, none⟩ = some (.string l[t].name)) := fun h => by rw [hwq]; exact HC0.out t h
            clear hne hwq
            by_cases htj : t < j
            · have htl : t < l.length := by omega
              have q1 := HCT.out htl
              have HZ : Hid (l[t].name = x.name → ¬ ColsOk l) := fun h => HX2.out ⟨t, htj, h⟩
              have HS : Hid (l[t].name ≠ x.name → ∀ s, (h : s < l.length) → s < t + 1 → l[s].name ≠ x.name) := fun h s hs h2 => by
                by_cases e2 : s = t
                · subst e2; exact h
                · exact HNE.out s hs (by omega)
              clear HCT HNE
              generalize l[t] = y at *
              by_cases hxy : y.name = x.name
              · have HZ2 : Hid (¬ ColsOk l) := HZ.out hxy
                have hts : (y.name.toList == x.name.toList) = true := by rw [hxy]; simp
                clear HZ HS hxy p0
                go_wp2_with fail
                go_quiet (fail)
                go_wp2
                go_ret
                exact ⟨false, rfl, by simp only [Bool.false_eq_true, false_iff]; exact HZ2.out, below_drewN HBQ.out _⟩
              · have HS2 : Hid (∀ s, (h : s < l.length) → s < t + 1 → l[s].name ≠ x.name) := HS.out hxy
                have hts : (y.name.toList == x.name.toList) = false := by rw [beq_eq_false_iff_ne]; exact fun h => hxy (toList_inj h)
                clear HZ HS hxy p0
                go_wp2_with fail
                go_quiet (fail)
                go_wp2
                go_roundw
                case rel => exact ⟨t + 1, by omega, by go_num, HS2.out, n + nq, by rw [HWQ.out]; exact World.drewN_drewN _ _ _⟩
                case measure => simp [intOf]; omega
            · have HG : Hid (∀ i, i < j + 1 → GoodAt l i) := HY2.out (by
                rintro ⟨k, hk, e⟩
                exact HNE.out k (by omega) (by omega) e)
              clear HCT HNE p0
              go_wp2
              go_roundw
              case rel => exact ⟨j + 1, by omega, by go_num, HG.out, HBQ.out⟩
              case measure => simp [intOf]; omega
        · have HX3 : Hid (¬ ColsOk l) := HX.out (by rw [Bool.eq_false_iff]; exact fun h => hc ((colOk_iff x).1 h))
          have HD : Hid (¬ (1 ≤ x.name.size ∧ x.name.size ≤ 16 ∧ 1 ≤ x.kind ∧ x.kind ≤ 3)) := hc
          clear HX HX2 HY hc HC0 HXX
          by_cases s1 : x.name.size < 1
          · have e1 : decide ((x.name.size : Int) < 1) = true := by simp; omega
            clear s1
            go_wp2
            all_goals go_ret
            all_goals exact ⟨false, rfl, by simp only [Bool.false_eq_true, false_iff]; exact HX3.out, HB.out⟩
          have e1 : decide ((x.name.size : Int) < 1) = false := by simp; omega
          by_cases s2 : 16 < x.name.size
          · have e2 : decide (16 < (x.name.size : Int)) = true := by simp; omega
            clear s1 s2
            go_wp2
            all_goals go_ret
            all_goals exact ⟨false, rfl, by simp only [Bool.false_eq_true, false_iff]; exact HX3.out, HB.out⟩
          have e2 : decide (16 < (x.name.size : Int)) = false := by simp; omega
          by_cases s3 : x.kind < 1
          · have e3 : decide (x.kind < 1) = true := by simp; omega
            clear s1 s2 s3
            go_wp2
            all_goals go_ret
            all_goals exact ⟨false, rfl, by simp only [Bool.false_eq_true, false_iff]; exact HX3.out, HB.out⟩
          have e3 : decide (x.kind < 1) = false := by simp; omega
          have e4 : decide (3 < x.kind) = true := by
            have := HD.out
            simp
            omega
          clear s1 s2 s3 HD
          go_wp2
          all_goals go_ret
          all_goals exact ⟨false, rfl, by simp only [Bool.false_eq_true, false_iff]; exact HX3.out, HB.out⟩
      · have HP : Hid (ColsOk l) := cols_allR h0 h8 HA.out hlt
        clear HA hbel
        go_wp2
        go_ret
        exact ⟨true, rfl, by simp only [true_iff]; exact HP.out, HB.out⟩
  · have hN : ¬ ColsOk l := fun h => h0 ⟨h.1, h.2.1⟩
    have HN : Hid (¬ ColsOk l) := hN
    clear hr hN
    by_cases hz : l.length < 1
    · have d1 : decide ((l.length : Int) < 1) = true := by simp; omega
      go_enter Try.func85, Try.ntmps85
      go_wp2
      all_goals go_ret
      all_goals exact ⟨false, rfl, by simp only [Bool.false_eq_true, false_iff]; exact HN.out, Below.refl _ _⟩
    · have d1 : decide ((l.length : Int) < 1) = false := by simp; omega
      have d2 : decide (8 < (l.length : Int)) = true := by simp; omega
      go_enter Try.func85, Try.ntmps85
      go_wp2
      all_goals go_ret
      all_goals exact ⟨false, rfl, by simp only [Bool.false_eq_true, false_iff]; exact HN.out, Below.refl _ _⟩
end Go.Proofs.Ytjidbonhhpkljaa.Ec

/- Write: the document's side. -/
set_option linter.unusedVariables false
namespace Go.Proofs.Ytjidbonhhpkljaa.Ec
open Go.RowKit Go.Proofs.Ytjidbonhhpkljaa.Pk Go.Proofs.Ytjidbonhhpkljaa.Pm
theorem flatMap_congr' {α β : Type} {f g : α → List β} {l : List α} (h : ∀ x ∈ l, f x = g x) : l.flatMap f = l.flatMap g := by
  induction l with
  | nil => rfl
  | cons x r ih => rw [List.flatMap_cons, List.flatMap_cons, h x (by simp), ih (fun y hy => h y (by simp [hy]))]
/-- Where the document's Write stands. -/
structure RFile (w W : World) (fb : Nat) (cv rv ev : Value) (bd : Int) (bo : Bool) (bv : Value) (L : List (RBd × Value)) : Prop where
  tbl : W.heap[w.heap.size]? = some (.cells #[cv, rv] 52 (0, 0))
  opt : W.heap[w.heap.size + 1]? = some (.cells #[.int .i64 bd, ev, .bool bo] 54 (0, 0))
  file : W.heap[fb]? = some (.cells #[cv, ev, bv, .int .i64 0] 96 (0, 0))
  own : W.ownsRow w.heap.size 99 2 bv L.length (L.flatMap ecell)
  each : ∀ p ∈ L, W.ownsRow w.heap.size 101 9 p.2 p.1.parts.length (p.1.parts.flatMap rcell)
  far : w.heap.size ≤ fb
  bel : Below w.heap.size w W
theorem RFile.below {w W W1 : World} {fb : Nat} {cv rv ev : Value} {bd : Int} {bo : Bool} {bv : Value} {L : List (RBd × Value)} (h : RFile w W fb cv rv ev bd bo bv L) (hb : Below W.heap.size W W1) : RFile w W1 fb cv rv ev bd bo bv L :=
  ⟨(hb.block _ (lt_of_block h.tbl)).trans h.tbl, (hb.block _ (lt_of_block h.opt)).trans h.opt, (hb.block _ (lt_of_block h.file)).trans h.file, ownsRow_below h.own hb, fun p hp => ownsRow_below (h.each p hp) hb, h.far, h.bel.trans (hb.mono h.bel.size)⟩
theorem RFile.cells {w W : World} {fb : Nat} {cv rv ev : Value} {bd : Int} {bo : Bool} {bv : Value} {L : List (RBd × Value)} (h : RFile w W fb cv rv ev bd bo bv L) :
    (W.cell? ⟨w.heap.size, 0, none⟩ = some cv ∧ W.cell? ⟨w.heap.size, 1, none⟩ = some rv) ∧ (W.cell? ⟨w.heap.size + 1, 0, none⟩ = some (.int .i64 bd) ∧ W.cell? ⟨w.heap.size + 1, 1, none⟩ = some ev ∧ W.cell? ⟨w.heap.size + 1, 2, none⟩ = some (.bool bo)) := ⟨two_of h.tbl, val_cells h.opt⟩
theorem RFile.kept {w W W1 : World} {fb : Nat} {cv rv ev : Value} {bd : Int} {bo : Bool} {bv bv' : Value} {L : List (RBd × Value)} (h : RFile w W fb cv rv ev bd bo bv L) (hg : Grew W W1 bv bv') : W1.heap[fb]? = some (.cells #[cv, ev, bv, .int .i64 0] 96 (0, 0)) :=
  (hg.by_.block _ (lt_of_block h.file) (own_far h.own h.file (by decide))).trans h.file
theorem RFile.grew {w W W1 : World} {fb : Nat} {cv rv ev : Value} {bd : Int} {bo : Bool} {bv bv' : Value} {L : List (RBd × Value)} (h : RFile w W fb cv rv ev bd bo bv L) (hg : Grew W W1 bv bv') {b : RBd} {kv : Value} (hk : W.ownsRow w.heap.size 101 9 kv b.parts.length (b.parts.flatMap rcell))
    (ho : W1.ownsRow w.heap.size 99 2 bv' (L ++ [(b, kv)]).length ((L ++ [(b, kv)]).flatMap ecell)) : RFile w (W1.setCell ⟨fb, 2, none⟩ bv') fb cv rv ev bd bo bv' (L ++ [(b, kv)]) := by
  have h1 := (hg.by_.block _ (lt_of_block h.tbl) (own_far h.own h.tbl (by decide))).trans h.tbl
  have h2 := (hg.by_.block _ (lt_of_block h.opt) (own_far h.own h.opt (by decide))).trans h.opt
  have h4 := h.kept hg
  have h5 := heap_setCell_same W1 fb 2 _ _ bv' h4
  have hbb := h.bel.trans (hg.below (fun g hg => (h.own.lt g hg).1) h.bel.size)
  have n1 : ¬ w.heap.size = fb := fun e => by rw [← e] at h4; rw [h1] at h4; simp at h4
  have n2 : ¬ w.heap.size + 1 = fb := fun e => by rw [← e] at h4; rw [h2] at h4; simp at h4
  have key : ∀ {q : Value} {n : Nat} {xs : List Value}, W.ownsRow w.heap.size 101 9 q n xs → (W1.setCell ⟨fb, 2, none⟩ bv').ownsRow w.heap.size 101 9 q n xs := fun hq => by
    have hq1 := kept_grew hq hg (apart_of hq h.own (by decide))
    exact hq1.kept (box_set_grown W1 fb 2 bv') (.inr (own_far hq1 h4 (by decide)).symm)
  refine ⟨?_, ?_, h5, ho.kept (box_set_grown W1 fb 2 bv') (.inr (own_far ho h4 (by decide)).symm), fun p hp => ?_, h.far, below_set hbb hbb.size h.far _ _⟩
  · rw [heap_setCell_other _ _ _ _ n1]; exact h1
  · rw [heap_setCell_other _ _ _ _ n2]; exact h2
  · rcases List.mem_append.1 hp with hp | hp
    · exact key (h.each p hp)
    · simp at hp
      subst hp
      exact key hk
theorem RFile.bands {w W : World} {fb : Nat} {cv rv ev : Value} {bd : Int} {bo : Bool} {bv : Value} {L : List (RBd × Value)} {bs : List RBd} (h : RFile w W fb cv rv ev bd bo bv L) (hL : L.map Prod.fst = bs) : RBands W bv bs :=
  ⟨L, hL, GSl.of_owns ecell_len h.own, fun p hp => GSl.of_owns rcell_len (h.each p hp)⟩

/-- Where a band stands that is being made. -/
structure BnSt (B W : World) (g n : Nat) (pv : Value) (parts : List Prt) : Prop where
  box : W.heap[g]? = some (.cells #[.int .i64 (n : Int), pv] 99 (0, 0))
  own : W.ownsRow B.heap.size 101 9 pv parts.length (parts.flatMap rcell)
  far : B.heap.size ≤ g
  bel : Below B.heap.size B W
theorem BnSt.below {B W W1 : World} {g n : Nat} {pv : Value} {parts : List Prt} (h : BnSt B W g n pv parts) (hb : Below W.heap.size W W1) : BnSt B W1 g n pv parts :=
  ⟨(hb.block _ (lt_of_block h.box)).trans h.box, ownsRow_below h.own hb, h.far, h.bel.trans (hb.mono h.bel.size)⟩
theorem BnSt.kept {B W W1 : World} {g n : Nat} {pv pv' : Value} {parts : List Prt} (h : BnSt B W g n pv parts) (hg : Grew W W1 pv pv') : W1.cell? ⟨g, 1, none⟩ = some pv ∧ W1.frozen? ⟨g, 1, none⟩ = false := by
  have h4 := (hg.by_.block _ (lt_of_block h.box) (own_far h.own h.box (by decide))).trans h.box
  exact ⟨by simp [World.cell?, h4], by simp [World.frozen?, h4]⟩
theorem BnSt.grew {B W W1 : World} {g n : Nat} {pv pv' : Value} {parts parts' : List Prt} (h : BnSt B W g n pv parts) (hg : Grew W W1 pv pv') (ho : W1.ownsRow B.heap.size 101 9 pv' parts'.length (parts'.flatMap rcell)) : BnSt B (W1.setCell ⟨g, 1, none⟩ pv') g n pv' parts' := by
  have h4 := (hg.by_.block _ (lt_of_block h.box) (own_far h.own h.box (by decide))).trans h.box
  have h5 := heap_setCell_same W1 g 1 _ _ pv' h4
  have hbb := h.bel.trans (hg.below (fun g hg => (h.own.lt g hg).1) h.bel.size)
  exact ⟨h5, ho.kept (box_set_grown W1 g 1 pv') (.inr (own_far ho h4 (by decide)).symm), h.far, below_set hbb hbb.size h.far _ _⟩
theorem Try.info101 : (Try.prog.info? 101).map (fun i => (i.zero, i.size, i.bytes)) = some (some (.agg noPart), 9, 96) := by kernel_rfl
theorem Try.info99 : (Try.prog.info? 99).map (fun i => (i.zero, i.size, i.bytes)) = some (some (.agg #[.int .i64 0, .slice none 0 0]), 2, 32) := by kernel_rfl
theorem nine_at (w : World) (p : Prt) (t : TypeId) : ∀ (j : Nat) (u : Value), (rcell p)[j]? = some u → (w.alloc (.cells (rcell p).toArray t)).cell? ((⟨w.heap.size, 0, none⟩ : Addr).add j) = some u :=
  World.news_of_block (alloc_at w _)
theorem nine_one (p : Prt) : ∀ u ∈ rcell p, u.oneCell' = true := by
  intro u hu
  simp [rcell] at hu
  rcases hu with rfl | rfl | rfl | rfl | rfl | rfl | rfl | rfl | rfl <;> rfl
theorem two_atE (w : World) (b : RBd) (kv : Value) (t : TypeId) : ∀ (j : Nat) (u : Value), (ecell (b, kv))[j]? = some u → (w.alloc (.cells (ecell (b, kv)).toArray t)).cell? ((⟨w.heap.size, 0, none⟩ : Addr).add j) = some u :=
  World.news_of_block (alloc_at w _)
end Go.Proofs.Ytjidbonhhpkljaa.Ec

/- Files as plain data, as a reader finds them: how the bytes are parted, and that they are parted in one way. -/
set_option linter.unusedVariables false
namespace Go.Proofs.Ytjidbonhhpkljaa.Ec
open Go.RowKit Go.Proofs.Ytjidbonhhpkljaa.Pk Go.Proofs.Ytjidbonhhpkljaa.Pm
/-- The bytes of a file are chunks and a footer. -/
def Cut (s : ByteArray) (C F : List Nat) : Prop := s.size ≤ 65536 ∧ bytesOf s = markB ++ (C ++ (F ++ (lenB F.length ++ markB)))
theorem Cut.len {s : ByteArray} {C F : List Nat} (h : Cut s C F) : s.size = C.length + F.length + 12 := by
  have := congrArg List.length h.2
  rw [bytesOf_length] at this
  simp [markB, lenB] at this
  omega
theorem lenB_inj {a b : Nat} (ha : a ≤ 65536) (hb : b ≤ 65536) (h : lenB a = lenB b) : a = b := by
  unfold lenB at h
  simp at h
  omega
theorem Cut.uni {s : ByteArray} {C F C' F' : List Nat} (h : Cut s C F) (h' : Cut s C' F') : C = C' ∧ F = F' := by
  have l1 := h.len
  have l2 := h'.len
  have hs := h.1
  have e := h.2.symm.trans h'.2
  have e1 := List.append_cancel_left e
  have e1' : (C ++ F) ++ (lenB F.length ++ markB) = (C' ++ F') ++ (lenB F'.length ++ markB) := by rw [List.append_assoc, List.append_assoc]; exact e1
  obtain ⟨e2, e3⟩ := List.append_inj' e1' (by simp [lenB])
  have e4 := lenB_inj (by omega) (by omega) (List.append_cancel_right e3)
  exact List.append_inj' e2 e4
/-- The footer's words. -/
def ftB (l : List (Col × Int)) (bs : List Bd) : List Nat := plB l ++ (vint bs.length ++ bandsB (l.map Prod.fst) bs)
/-- May a file be? -/
structure FOk (l : List (Col × Int)) (bs : List Bd) : Prop where
  pl : PlOk l
  bands : ∀ b ∈ bs, BdGood (l.map Prod.fst) b
  rows : rowsN bs ≤ 2000
def IsFile (s : ByteArray) (l : List (Col × Int)) (bs : List Bd) : Prop := FOk l bs ∧ Cut s (bodyB bs) (ftB l bs)
/-- What both sides answer: the columns, how many rows, the error. -/
def CRes (s : ByteArray) (cs : List Col) (n e : Nat) : Prop :=
  (∃ l bs, IsFile s l bs ∧ cs = l.map Prod.fst ∧ n = rowsN bs ∧ e = 0 ∧ ∀ l' bs', IsFile s l' bs' → l' = l ∧ rowsN bs' = rowsN bs) ∨ ((∀ l bs, ¬ IsFile s l bs) ∧ cs = [] ∧ n = 0 ∧ e = 3)
theorem CRes.uni {s : ByteArray} {cs cs' : List Col} {n n' e e' : Nat} (h : CRes s cs n e) (h' : CRes s cs' n' e') : cs = cs' ∧ n = n' ∧ e = e' := by
  rcases h with ⟨l, bs, h1, rfl, rfl, rfl, hu⟩ | ⟨h1, rfl, rfl, rfl⟩ <;> rcases h' with ⟨l', bs', h1', rfl, rfl, rfl, hu'⟩ | ⟨h1', rfl, rfl, rfl⟩
  · obtain ⟨a, b⟩ := hu _ _ h1'
    exact ⟨by rw [a], b.symm, rfl⟩
  · exact (h1' _ _ h1).elim
  · exact (h1 _ _ h1').elim
  · exact ⟨rfl, rfl, rfl⟩
theorem colsB_pcs (l : List (Col × Int)) : ∀ n, n ≤ l.length → colsB (l.map Prod.fst) (l.map Prod.snd) n = pcsB (l.take n) := by
  intro n
  induction n with
  | zero => intro _; simp [colsB, pcsB]
  | succ n ih =>
    intro h
    rw [colsB_succ, ih (by omega), List.take_succ_eq_append_getElem (by omega), pcsB_snoc]
    congr 1
    unfold colB pcB
    have h1 : (l.map Prod.fst).getD n ⟨⟨#[]⟩, 0⟩ = l[n].1 := by rw [List.getD_eq_getElem?_getD, List.getElem?_eq_getElem (by rw [List.length_map]; omega)]; simp
    have h2 : (l.map Prod.snd).getD n 0 = l[n].2 := by rw [List.getD_eq_getElem?_getD, List.getElem?_eq_getElem (by rw [List.length_map]; omega)]; simp
    rw [h1, h2]
/-- The words of the footer of the document's bands. -/
def ftR (l : List (Col × Int)) (rs : List RBd) : List Nat := plB l ++ (vint rs.length ++ rbandsB (l.map Prod.fst) rs)
theorem footR_ft (l : List (Col × Int)) (rs : List RBd) : footR (l.map Prod.fst) (l.map Prod.snd) rs = ftR l rs := by
  unfold footR ftR plB
  rw [colsB_pcs l _ (by simp), List.length_map, List.take_length, List.append_assoc]
end Go.Proofs.Ytjidbonhhpkljaa.Ec

/- Where readBand stands, and where readFooter stands. -/
set_option linter.unusedVariables false
namespace Go.Proofs.Ytjidbonhhpkljaa.Ec
open Go.RowKit Go.Proofs.Ytjidbonhhpkljaa.Pk Go.Proofs.Ytjidbonhhpkljaa.Pm
/-- Where readBand stands. -/
structure BrSt (w W : World) (g r q n : Nat) (kv : Value) (l : List Chk) : Prop where
  res : W.heap[w.heap.size]? = some (.cells #[.int .i64 0, .slice none 0 0] 152 (0, 0))
  box : W.heap[g]? = some (.cells #[.int .i64 (n : Int), kv] 152 (0, 0))
  own : W.ownsRow w.heap.size 156 8 kv l.length (kcells l)
  kp : Kp2 r q w W
theorem BrSt.step {w W W1 : World} {g r q n : Nat} {kv : Value} {l : List Chk} (h : BrSt w W g r q n kv l) (hr : r < w.heap.size) (hq : q < w.heap.size) (hg : w.heap.size < g) (k : Kp2 r q W W1) : BrSt w W1 g r q n kv l :=
  ⟨k.keep h.res (by omega) (by omega), k.keep h.box (by omega) (by omega), k.own h.own hr hq, h.kp.trans k⟩
theorem BrSt.below {w W W1 : World} {g r q n : Nat} {kv : Value} {l : List Chk} (h : BrSt w W g r q n kv l) (hb : Below W.heap.size W W1) : BrSt w W1 g r q n kv l :=
  ⟨(hb.block _ (lt_of_block h.res)).trans h.res, (hb.block _ (lt_of_block h.box)).trans h.box, ownsRow_below h.own hb, h.kp.trans (Kp2.of_below hb)⟩
theorem BrSt.cells {w W : World} {g r q n : Nat} {kv : Value} {l : List Chk} (h : BrSt w W g r q n kv l) :
    W.cell? ⟨g, 0, none⟩ = some (.int .i64 (n : Int)) ∧ W.cell? ⟨g, 1, none⟩ = some kv ∧ W.frozen? ⟨g, 1, none⟩ = false := by
  have h2 := h.box
  exact ⟨by simp [World.cell?, h2], by simp [World.cell?, h2], by simp [World.frozen?, h2]⟩
theorem BrSt.kept {w W W1 : World} {g r q n : Nat} {kv kv' : Value} {l : List Chk} (h : BrSt w W g r q n kv l) (hg : Grew W W1 kv kv') :
    W1.cell? ⟨g, 1, none⟩ = some kv ∧ W1.frozen? ⟨g, 1, none⟩ = false := by
  have h3 := (hg.by_.block _ (lt_of_block h.box) (own_far h.own h.box (by decide))).trans h.box
  exact ⟨by simp [World.cell?, h3], by simp [World.frozen?, h3]⟩
theorem BrSt.grew {w W W1 : World} {g r q n : Nat} {kv kv' : Value} {l l' : List Chk} (h : BrSt w W g r q n kv l) (hgg : w.heap.size < g) (hg : Grew W W1 kv kv') (ho : W1.ownsRow w.heap.size 156 8 kv' l'.length (kcells l')) :
    BrSt w (W1.setCell ⟨g, 1, none⟩ kv') g r q n kv' l' := by
  have h2 := (hg.by_.block _ (lt_of_block h.res) (own_far h.own h.res (by decide))).trans h.res
  have h3 := (hg.by_.block _ (lt_of_block h.box) (own_far h.own h.box (by decide))).trans h.box
  have h4 := heap_setCell_same W1 g 1 _ _ kv' h3
  refine ⟨?_, h4, ?_, ?_⟩
  · rw [heap_setCell_other _ _ _ _ (by simp; omega)]; exact h2
  · exact ho.kept (box_set_grown W1 _ 1 kv') (.inr (own_far ho h3 (by decide)).symm)
  · exact (h.kp.grown hg.by_ (fun g' hg' => (h.own.lt g' hg').1)).grown (box_set_grown W1 g 1 kv') (fun g' e => by cases e; omega)
/-- A reader's block, behind an append and a store into a box. -/
theorem BrSt.reader {w W W1 : World} {g r q n : Nat} {kv kv' : Value} {l : List Chk} (h : BrSt w W g r q n kv l) (hgg : w.heap.size < g) (hg : Grew W W1 kv kv') {i : Nat} {o : Obj} (hi : i < w.heap.size) (hb : W.heap[i]? = some o) : (W1.setCell ⟨g, 1, none⟩ kv').heap[i]? = some o := by
  rw [heap_setCell_other _ _ _ _ (by simp; omega), hg.by_.block i (lt_of_block hb) (fun e => by have := (h.own.lt i e.symm).1; omega)]
  exact hb
/-- What readBand answers. -/
def RBnd (cs : List Col) (w : World) (r p : Nat) (s : ByteArray) (q t : Nat) (z : ByteArray) (e : Ending) (w' : World) : Prop :=
  Kp2 r q w w' ∧ ((∃ (b : Bd) (kv : Value), e = .returned (.agg #[.int .i64 (b.rows : Int), kv]) ∧ BdGood cs b ∧ Starts (bytesOf s) p (bandB cs b) ∧ p + (bandB cs b).length ≤ s.size ∧ w'.heap[r]? = some (rdr s (p + (bandB cs b).length)) ∧ Starts (bytesOf z) t (textB b.chunks) ∧ t + (textB b.chunks).length ≤ z.size ∧ w'.heap[q]? = some (rdr z (t + (textB b.chunks).length)) ∧
        w'.ownsRow w.heap.size 156 8 kv b.chunks.length (kcells b.chunks) ∧ (∀ b', BdGood cs b' → Starts (bytesOf s) p (bandB cs b') → Starts (bytesOf z) t (textB b'.chunks) → b' = b)) ∨
    (∃ m, e = .panicked (badAt m) ∧ ∀ b, BdGood cs b → Starts (bytesOf s) p (bandB cs b) → ¬ Starts (bytesOf z) t (textB b.chunks)))
end Go.Proofs.Ytjidbonhhpkljaa.Ec

/- How many rows a file has: the contract of Rows. -/
set_option linter.unusedVariables false
namespace Go.Proofs.Ytjidbonhhpkljaa.Ec
open Go.RowKit Go.Proofs.Ytjidbonhhpkljaa.Pk Go.Proofs.Ytjidbonhhpkljaa.Pm
set_option maxRecDepth 100000 in
set_option maxHeartbeats 2000000 in
theorem fRows_any (co eo : Option Addr) (cn cc en ec base : Nat) (bv : Value) (L : List (Bd × Value)) (w : World) (hB : Bands w base bv L) (hn : L.length ≤ 65536) (hr : ∀ b ∈ L.map Prod.fst, b.rows ≤ 100) :
    Calls Try.prog 65 #[.agg #[.slice co cn cc, .slice eo en ec, bv]] w fun e w' => e = .returned (.int .i64 (rowsN (L.map Prod.fst) : Int)) ∧ Below w.heap.size w w' := by
  have hSL : ∀ p ∈ L, ∃ o n c, p.2 = .slice o n c := fun p hp => by
    obtain ⟨o, c, h⟩ := own_form (hB.each p hp)
    exact ⟨o, _, c, h⟩
  obtain ⟨bo, bcap, hbv⟩ := own_form hB.own
  have hG := GSl.of_owns dcell_len hB.own
  subst hbv
  obtain ⟨ao, bb, off, cap, he, hG⟩ := hG
  cases he
  have HG : Hid (GRow w dcell 2 bo bb off L) := hG
  have HSL : Hid (∀ p ∈ L, ∃ o n c, p.2 = .slice o n c) := hSL
  have HR : Hid (∀ b ∈ L.map Prod.fst, b.rows ≤ 100) := hr
  clear hB hG hSL hr
  go_enter Try.func65, Try.ntmps65
  go_wp2_with fail
  go_loopw [3, 9] (fun n i wr => ∃ k : Nat, k ≤ L.length ∧ i = .int .i64 (k : Int) ∧ n = .int .i64 (rowsN ((L.map Prod.fst).take k) : Int) ∧ Below w.heap.size w wr) (fun _ i _ => L.length - (intOf i).toNat)
  case atStart => exact ⟨0, Nat.zero_le _, rfl, rfl, (Below.refl _ _).alloc (Nat.le_refl _) _⟩
  case round =>
    obtain ⟨k, hk, rfl, rfl, hb⟩ := hrel
    have HB : Hid (Below w.heap.size w wr) := hb
    have hsz := hb.size
    by_cases hlt : k < L.length
    · have hkm : k < (L.map Prod.fst).length := by rw [List.length_map]; exact hlt
      have HT : Hid (rowsN ((L.map Prod.fst).take (k + 1)) = rowsN ((L.map Prod.fst).take k) + L[k].1.rows) := by
        show _ = _
        rw [rowsN_take _ _ hkm]
        simp
      have hs1 : rowsN ((L.map Prod.fst).take k) ≤ 65536 * 100 := by
        have h1 := rowsN_le ((L.map Prod.fst).take k) (fun b hb => HR.out b (List.mem_of_mem_take hb))
        have h2 : ((L.map Prod.fst).take k).length ≤ 65536 := by simp; omega
        have h3 := Nat.mul_le_mul_right 100 h2
        omega
      have hrk : L[k].1.rows ≤ 100 := HR.out _ (List.mem_map.2 ⟨L[k], List.getElem_mem hlt, rfl⟩)
      obtain ⟨o, n, c, hp2⟩ := HSL.out L[k] (List.getElem_mem hlt)
      have hga := HG.out.addr (by omega)
      subst hga
      have hbl := HG.out.lt (by omega)
      have c0 : wr.cell? ⟨bb, off + k * 2, none⟩ = some (.int .i64 (L[k].1.rows : Int)) := (hb.cell (p := ⟨bb, off + k * 2, none⟩) hbl).trans (HG.out.c k hlt 0 _ rfl)
      have c1 : wr.cell? ⟨bb, off + k * 2 + 1, none⟩ = some (.slice o n c) := (hb.cell (p := ⟨bb, off + k * 2 + 1, none⟩) hbl).trans (by rw [← hp2]; exact HG.out.c k hlt 1 _ rfl)
      generalize L[k].1.rows = rk at *
      generalize rowsN ((L.map Prod.fst).take k) = S at *
      clear hb hp2 hkm hbl
      go_wp2_with fail
      go_roundw
      case rel => exact ⟨k + 1, by omega, by go_num, by rw [HT.out]; go_num, HB.out.alloc hsz _⟩
      case measure => simp [intOf]; omega
    · obtain rfl : k = L.length := by omega
      have HT : Hid ((L.map Prod.fst).take L.length = L.map Prod.fst) := by show _ = _; rw [← List.length_map (f := Prod.fst), List.take_length]
      go_wp2
      go_ret
      exact ⟨by first | rfl | (rw [HT.out]; rfl), HB.out⟩
end Go.Proofs.Ytjidbonhhpkljaa.Ec
