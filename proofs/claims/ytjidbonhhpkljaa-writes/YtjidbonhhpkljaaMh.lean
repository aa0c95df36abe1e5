/- What the proof stands on: WrJoin, DcDictC, DcDictD, DcColumnD, PkThree, DcWhole, DcDecode, DcBackA, WrPlain. -/
import Derived.Test.YtjidbonhhpkljaaMg
import Derived.Lib.SlBytesConst
import Derived.WalkSpells

/- A file as bytes: the program's side. -/
set_option linter.unusedVariables false
namespace Go.Proofs.Ytjidbonhhpkljaa.Ec
open Go.RowKit Go.Proofs.Ytjidbonhhpkljaa.Pk Go.Proofs.Ytjidbonhhpkljaa.Pm

/-- Bytes of the call's own: a row, or the first mark, as '[]byte' of a constant lays it. -/
def MRow (w : World) (base : Nat) (v : Value) (pre : List Nat) : Prop :=
  w.ownsRow base 5 1 v pre.length (bcells pre) ∨ (pre = markB ∧ ∃ g, v = .slice (some ⟨g, 0, none⟩) 4 4 ∧ base ≤ g ∧ w.heap[g]? = some (.cells (bcells markB).toArray 5 (4, 5)))
theorem MRow.lt {w : World} {base : Nat} {v : Value} {pre : List Nat} (h : MRow w base v pre) : ∀ g, v.ownBlock = some g → base ≤ g ∧ g < w.heap.size := by
  rcases h with h | ⟨-, g, rfl, hb, hg⟩
  · exact h.lt
  · intro k hk
    simp [Value.ownBlock] at hk
    subst hk
    exact ⟨hb, (Array.getElem?_eq_some_iff.1 hg).1⟩
theorem MRow.far {w : World} {base : Nat} {v : Value} {pre : List Nat} (h : MRow w base v pre) {g : Nat} {cs : Array Value} {t : TypeId} (hb : w.heap[g]? = some (.cells cs t (0, 0))) (hne : t ≠ 5) : some g ≠ v.ownBlock := by
  rcases h with h | ⟨-, k, rfl, -, hk⟩
  · exact own_far h hb hne
  · intro e
    simp [Value.ownBlock] at e
    subst e
    rw [hb] at hk
    simp at hk
theorem MRow.below {w w' : World} {base : Nat} {v : Value} {pre : List Nat} (h : MRow w base v pre) (hb : Below w.heap.size w w') : MRow w' base v pre := by
  rcases h with h | ⟨h1, g, h2, h3, h4⟩
  · exact .inl (ownsRow_below h hb)
  · exact .inr ⟨h1, g, h2, h3, (hb.block _ (Array.getElem?_eq_some_iff.1 h4).1).trans h4⟩
theorem mark_cells {w : World} {g : Nat} (h : w.heap[g]? = some (.cells (bcells markB).toArray 5 (4, 5))) : ∀ j u, (bcells markB)[j]? = some u → w.cell? ((⟨g, 0, none⟩ : Addr).add j) = some u := by
  have := World.news_of_block h
  simpa using this

/-- A text that is not empty, appended. -/
theorem wpList_append_str_M {P : Program} (w : World) {ops : Array Oper} {rest : List Oper} {o : Oper} {a : Act} {Q : Exit → Act → World → Prop} (hgd : o.guard = none) (sl x : Operand) (t u : TypeId)
    (ho : o.op = .call { callee := .builtin .append, args := #[sl, x], argTypes := #[t, u] })
    (base : Nat) (i : TypeInfo) (ht : P.underlying t = some (.slice 5)) (hu : P.underlying u = some .string) (hi : P.info? 5 = some i) (hz : i.zero = some (.int .u8 0))
    (hsize : i.size = 1) (hby : i.bytes = 1) (v : Value) (pre : List Nat) (hs : a.eval sl = v) (hown : MRow w base v pre) (s : ByteArray) (hx : a.eval x = .string s) (hpos : 0 < s.size)
    (h63 : pre.length + s.size ≤ maxLen) (hbytes : pre.length + s.size ≤ 140737488355328) (hbase : base ≤ w.heap.size)
    (h : ∀ v' w', w'.ownsRow base 5 1 v' (pre.length + s.size) (bcells pre ++ Lib.strCells s) → Grew w w' v v' → wpList P ops Q rest (a.put o.dst v') w') : wpList P ops Q (o :: rest) a w := by
  rcases hown with hown | ⟨rfl, g, rfl, hb, hg⟩
  · exact wpList_append_str_keep w hgd sl x t u ho base 5 i ht hu hi hz hsize hby v pre.length _ hs hown s hx h63 hbytes hbase h
  · refine wpList_plain hgd fun K hK => ?_
    have h63' : 4 + s.size ≤ 9223372036854775807 := by have : markB.length = 4 := rfl; unfold maxLen at h63; omega
    have hr := Lib.run_append_grow_string (P := P) w t u o.type 5 i (.int .u8 0) ht hu hi hz ⟨g, 0, none⟩ 4 4 (bcells markB) (by rw [hsize]; rfl) (mark_cells hg) s (by omega) (by omega) (by rw [hby]; exact growslice_fits (by omega) (by have : markB.length = 4 := rfl; omega))
    unfold Oper.wp execOp
    simp only [ho, resolve, invoke, builtin, Sem.run_bind, Sem.run_pure, Result.andThen_ok, List.map_toArray, List.map_cons, List.map_nil, hs, hx, hr]
    refine hK _ _ (h _ _ ?_ ?_)
    · have hge := grownCap_ge w (4 + s.size) 4 5
      have hcm : grownCap w (4 + s.size) 4 5 ≤ maxLen := grownCap_le_maxLen w (4 + s.size) 4 5 h63
      have hlen : (bcells markB ++ Lib.strCells s).length = (4 + s.size) * 1 := by rw [List.length_append, Lib.strCells_length, Nat.mul_one]; rfl
      refine ⟨hlen, .inr ⟨w.heap.size, _, _, rfl, hbase, heap_alloc_new w.drew _, hge, hcm, ?_, ?_⟩⟩
      · have hz1 : (Value.int IntKind.u8 0).cells.size = 1 := rfl
        have hm : (bcells markB).length = 4 := rfl
        simp only [Array.size_append, List.size_toArray, size_zeroCells, hz1, hm, Lib.strCells_length]
        omega
      · simp only [Array.toList_append, List.append_assoc]
        rw [← List.append_assoc]
        show List.take ((4 + s.size) * 1) _ = _
        rw [← hlen]
        exact List.take_left
    · refine ⟨⟨rfl, rfl, rfl, by simp, fun k hk _ => alloc_old (w := w.drew) _ hk rfl⟩, fun k hk => ?_⟩
      simp [Value.ownBlock] at hk
      exact .inr (by omega)

/-- Bytes that are not none, appended. -/
theorem wpList_append_M {P : Program} (w : World) {ops : Array Oper} {rest : List Oper} {o : Oper} {a : Act} {Q : Exit → Act → World → Prop} (hgd : o.guard = none) (sl x : Operand) (t : TypeId)
    (ho : o.op = .call { callee := .builtin .append, args := #[sl, x], argTypes := #[t, t] })
    (base : Nat) (i : TypeInfo) (ht : P.underlying t = some (.slice 5)) (hi : P.info? 5 = some i) (hz : i.zero = some (.int .u8 0))
    (hsize : i.size = 1) (hby : i.bytes = 1) (v : Value) (pre : List Nat) (hs : a.eval sl = v) (hown : MRow w base v pre) (ad : Addr) (c : Nat) (ns : List Nat) (hx : a.eval x = .slice (some ad) ns.length c) (hpos : 0 < ns.length)
    (hc : ∀ j u, (bcells ns)[j]? = some u → w.cell? (ad.add j) = some u)
    (h63 : pre.length + ns.length ≤ maxLen) (hbytes : pre.length + ns.length ≤ 140737488355328) (hbase : base ≤ w.heap.size)
    (h : ∀ v' w', w'.ownsRow base 5 1 v' (pre ++ ns).length (bcells (pre ++ ns)) → Grew w w' v v' → wpList P ops Q rest (a.put o.dst v') w') : wpList P ops Q (o :: rest) a w := by
  have h1c : ∀ u ∈ bcells ns, u.oneCell' = true := by
    intro u hu
    obtain ⟨n, -, rfl⟩ := List.mem_map.1 hu
    rfl
  have hlen : (bcells ns).length = ns.length * 1 := by simp [bcells]
  have e1 : ∀ (v' : Value) (w' : World), w'.ownsRow base 5 1 v' (pre.length + ns.length) (bcells pre ++ bcells ns) → w'.ownsRow base 5 1 v' (pre ++ ns).length (bcells (pre ++ ns)) := fun v' w' hh => by
    rw [List.length_append, bcells_append]; exact hh
  rcases hown with hown | ⟨rfl, g, rfl, hb, hg⟩
  · refine wpList_append_keep w hgd sl x t ho base 5 i (.int .u8 0) 1 1 ht hi hz hsize hby rfl (by decide) v pre.length _ hs hown ad ns.length c (bcells ns) hx hpos hlen hc h1c h63 (by omega) hbase ?_
    intro v' w' h2 h3
    refine h v' w' (e1 _ _ h2) ?_
    rcases h3 with ⟨h4, h5⟩ | ⟨h4, h5⟩
    · exact ⟨⟨h4.os, h4.tape, h4.output, h4.size, fun k hk _ => h4.block k hk (by simp)⟩, fun k hk => .inr (h5.lt k hk).1⟩
    · exact ⟨h5, fun k hk => .inl (by rw [← h4]; exact hk)⟩
  · have hm : markB.length = 4 := rfl
    refine wpList_append_grows w hgd sl x t ho 5 i (.int .u8 0) 1 1 ht hi hz hsize hby rfl (by decide) (some ⟨g, 0, none⟩) 4 4 (bcells markB) hs (fun h => by cases h) rfl (fun b hb => by cases hb; exact mark_cells hg) ad ns.length c (bcells ns) hx hlen hc h1c (by omega) (by omega) (by omega) ?_
    intro v' w' h2 h3
    refine h v' w' (e1 _ _ (ownsRow_base h2 hbase)) ⟨⟨h3.os, h3.tape, h3.output, h3.size, fun k hk _ => h3.block k hk (by simp)⟩, fun k hk => .inr (h2.lt k hk).1⟩

/-- Where Join stands. -/
structure JnSt (w W : World) (cv ev bv u : Value) (pre : List Nat) : Prop where
  box : W.heap[w.heap.size]? = some (.cells #[cv, ev, bv] 110 (0, 0))
  own : MRow W w.heap.size u pre
  bel : Below w.heap.size w W
theorem JnSt.below {w W W1 : World} {cv ev bv u : Value} {pre : List Nat} (h : JnSt w W cv ev bv u pre) (hb : Below W.heap.size W W1) : JnSt w W1 cv ev bv u pre :=
  ⟨(hb.block _ (lt_of_block h.box)).trans h.box, h.own.below hb, h.bel.trans (hb.mono h.bel.size)⟩
theorem JnSt.alloc {w W : World} {cv ev bv u : Value} {pre : List Nat} (h : JnSt w W cv ev bv u pre) (o : Obj) : JnSt w (W.alloc o) cv ev bv u pre := h.below ((Below.refl _ _).alloc (Nat.le_refl _) o)
theorem JnSt.grew {w W W1 : World} {cv ev bv u u' : Value} {pre pre' : List Nat} (h : JnSt w W cv ev bv u pre) (hg : Grew W W1 u u') (ho : W1.ownsRow w.heap.size 5 1 u' pre'.length (bcells pre')) : JnSt w W1 cv ev bv u' pre' :=
  ⟨(hg.by_.block _ (lt_of_block h.box) (h.own.far h.box (by decide))).trans h.box, .inl ho, h.bel.trans (hg.below (fun g hg => (h.own.lt g hg).1) h.bel.size)⟩
theorem JnSt.cells {w W : World} {cv ev bv u : Value} {pre : List Nat} (h : JnSt w W cv ev bv u pre) : W.cell? ⟨w.heap.size, 0, none⟩ = some cv ∧ W.cell? ⟨w.heap.size, 1, none⟩ = some ev ∧ W.cell? ⟨w.heap.size, 2, none⟩ = some bv := val_cells h.box
theorem JnSt.far {w W W1 : World} {cv ev bv u u' : Value} {pre : List Nat} (h : JnSt w W cv ev bv u pre) (hg : Grew W W1 u u') {g : Nat} {cs : Array Value} {t : TypeId} (hb : W.heap[g]? = some (.cells cs t (0, 0))) (ht : t ≠ 5) : W1.heap[g]? = some (.cells cs t (0, 0)) :=
  (hg.by_.block _ (lt_of_block hb) (h.own.far hb ht)).trans hb
theorem vint_pos (n : Nat) : 0 < (vint n).length := by
  unfold vint vintF
  split <;> simp
theorem textB_le (l : List Chk) (k : Nat) : (textB (l.take k)).length ≤ (textB l).length := by
  have h : textB l = textB (l.take k) ++ textB (l.drop k) := by
    unfold textB
    rw [← List.flatMap_append, List.take_append_drop]
  rw [h, List.length_append]
  omega
theorem bodyB_le (bs : List Bd) (k : Nat) : (bodyB (bs.take k)).length ≤ (bodyB bs).length := by
  have h : bodyB bs = bodyB (bs.take k) ++ bodyB (bs.drop k) := by
    unfold bodyB
    rw [← List.flatMap_append, List.take_append_drop]
  rw [h, List.length_append]
  omega

set_option maxRecDepth 100000 in
set_option maxHeartbeats 8000000 in
theorem join_any (cs : List Col) (es : List Int) (bs : List Bd) (cv ev bv : Value) (w : World) (hcl : cs.length ≤ 8) (hel : es.length = cs.length) (hnm : ∀ c ∈ cs, c.name.size ≤ 16) (hkd : ∀ c ∈ cs, c.kind = 1 ∨ c.kind = 2 ∨ c.kind = 3) (hbn : bs.length ≤ 2000) (hbs : ∀ b ∈ bs, BdOk cs.length b) (hpos : ∀ b ∈ bs, ∀ c ∈ b.chunks, 0 < c.text.size) (hbl : (bodyB bs).length ≤ 10000000000)
    (hcs : CSl w cv cs) (hes : ISl w ev es) (hbb : ∃ base L, L.map Prod.fst = bs ∧ Bands w base bv L) :
    Calls Try.prog 60 #[.agg #[cv, ev, bv]] w fun e w' => e = .returned (.string (strOf (fileB cs es bs))) ∧ Below w.heap.size w w' := by
  obtain ⟨i0, hi, hz0, hz1, hz2⟩ := info_parts Try.info5
  have HFT : Hid (∀ W, Below w.heap.size w W → Calls Try.prog 92 #[.slice none 0 0, .agg #[cv, ev, bv]] W fun e w' => ∃ u', e = .returned u' ∧ w'.ownsRow W.heap.size 5 1 u' (footB cs es bs).length (bcells (footB cs es bs)) ∧ Below W.heap.size W w') := fun W hW =>
    appendFooter_any cs es bs cv ev bv W hcl hel hnm hkd hbn hbs (hcs.below hW) (hes.lower hW) (by obtain ⟨base, L, h1, h2⟩ := hbb; exact ⟨base, L, h1, h2.below hW⟩)
  have HFL : Hid ((footB cs es bs).length ≤ 2000000 ∧ 0 < (footB cs es bs).length) := by
    have h1 := vint_len cs.length
    have h2 := colsB_len (es := es) hnm cs.length (Nat.le_refl _)
    have h3 := vint_len bs.length
    have h4 := bandsB_len hbs hcl cs
    have h5 := vint_pos cs.length
    show _ ∧ _
    unfold footB
    simp only [List.length_append]
    omega
  obtain ⟨base, L, hL, hB⟩ := hbb
  have hg := GSl.of_owns dcell_len hB.own
  obtain ⟨bo, bb, boff, bcap, rfl, hgr⟩ := hg
  obtain ⟨co, cb, coff, ccap, rfl, hccap, -⟩ := hcs
  obtain ⟨eo, eb, eoff, ecap, rfl, -, -, -⟩ := hes
  have HL : Hid (L.map Prod.fst = bs) := hL
  have HLN : Hid (L.length = bs.length) := by show _ = _; rw [← hL, List.length_map]
  have HGR : Hid (GRow w dcell 2 bo bb boff L) := hgr
  have HEA : Hid (∀ p ∈ L, w.ownsRow base 156 8 p.2 p.1.chunks.length (kcells p.1.chunks)) := hB.each
  have HPOS : Hid (∀ b ∈ bs, ∀ c ∈ b.chunks, 0 < c.text.size) := hpos
  have HBS : Hid (∀ b ∈ bs, BdOk cs.length b) := hbs
  have HBL : Hid ((bodyB bs).length ≤ 10000000000) := hbl
  have hln : L.length ≤ 2000 := by have := HLN.out; omega
  have kc : ∀ (o : Obj) (C : Array Value) (n c : Nat), (convert 44 44 (.slice (some ⟨w.heap.size + 1, 0, none⟩) n c)).run Try.prog ((w.alloc o).alloc (.cells C 5)) = .ok (.slice (some ⟨w.heap.size + 1, 0, none⟩) n c) ((w.alloc o).alloc (.cells C 5 (C.size, C.size + 1))) := fun o C n c => by
    have h := Lib.run_convert_bytes_const (P := Try.prog) (w.alloc o) 44 5 C n c Try.underlying44 Try.underlying5
    rwa [show (w.alloc o).heap.size = w.heap.size + 1 by simp] at h
  clear hel hnm hkd hbs hL hgr hB hpos hbl
  go_enter Try.func60, Try.ntmps60
  go_upto_region 2 with fail
  clear kc
  have hS0 : JnSt w ((w.alloc (.cells #[.slice co cs.length ccap, .slice eo es.length ecap, .slice bo L.length bcap] 110)).alloc (.cells (bcells markB).toArray 5 (4, 5))) (.slice co cs.length ccap) (.slice eo es.length ecap) (.slice bo L.length bcap) (.slice (some ⟨w.heap.size + 1, 0, none⟩) 4 4) (markB ++ bodyB (bs.take 0)) :=
    ⟨alloc_old _ (by simp) (alloc_at w _), .inr ⟨by simp [bodyB], w.heap.size + 1, rfl, by omega, alloc_at2 w _ _⟩, below_box2 _ _⟩
  rw [show (bcells markB).toArray = #[.int .u8 83, .int .u8 84, .int .u8 82, .int .u8 65] from rfl] at hS0
  generalize (w.alloc (.cells #[.slice co cs.length ccap, .slice eo es.length ecap, .slice bo L.length bcap] 110)).alloc (.cells #[.int .u8 83, .int .u8 84, .int .u8 82, .int .u8 65] 5 (4, 5)) = W0 at *
  obtain ⟨t0, t1, t2⟩ := hS0.cells
  have HS0 : Hid (JnSt w W0 (.slice co cs.length ccap) (.slice eo es.length ecap) (.slice bo L.length bcap) (.slice (some ⟨w.heap.size + 1, 0, none⟩) 4 4) (markB ++ bodyB (bs.take 0))) := hS0
  clear hS0
  go_wp2_with fail
  clear t0 t1 t2
  go_loopw [3, 14] (fun u i wr => ∃ k : Nat, k ≤ L.length ∧ i = .int .i64 (k : Int) ∧ JnSt w wr (.slice co cs.length ccap) (.slice eo es.length ecap) (.slice bo L.length bcap) u (markB ++ bodyB (bs.take k))) (fun _ i _ => L.length - (intOf i).toNat)
  case atStart => exact ⟨0, Nat.zero_le _, rfl, HS0.out⟩
  case round =>
    clear HS0
    obtain ⟨k, hk, rfl, hS⟩ := hrel
    have HS : Hid (JnSt w wr (.slice co cs.length ccap) (.slice eo es.length ecap) (.slice bo L.length bcap) u3 (markB ++ bodyB (bs.take k))) := hS
    have hsz : w.heap.size ≤ wr.heap.size := hS.bel.size
    by_cases hlt : k < L.length
    · have hlb : k < bs.length := by rw [← HLN.out]; exact hlt
      have hgr := HGR.out.below hS.bel
      obtain rfl := hgr.addr (by omega)
      have p0 : wr.cell? ⟨bb, boff + k * 2, none⟩ = some (.int .i64 (L[k].1.rows : Int)) := hgr.c k hlt 0 _ rfl
      have p1 : wr.cell? ⟨bb, boff + k * 2 + 1, none⟩ = some L[k].2 := hgr.c k hlt 1 _ rfl
      have hbk : L[k].1 = bs[k] := by
        have := HL.out
        have h2 : (L.map Prod.fst)[k]'(by simpa using hlt) = bs[k] := by simp only [this]
        simpa using h2
      have HOW : Hid (w.ownsRow base 156 8 L[k].2 bs[k].chunks.length (kcells bs[k].chunks)) := by have := HEA.out L[k] (List.getElem_mem hlt); rw [hbk] at this; exact this
      have HP : Hid (markB ++ bodyB (bs.take (k + 1)) = markB ++ bodyB (bs.take k) ++ textB (bs[k].chunks.take bs[k].chunks.length)) := by
        show _ = _
        rw [bodyB_take bs k hlb, List.take_length, List.append_assoc]
      have HPK : Hid (∀ c ∈ bs[k].chunks, 0 < c.text.size) := HPOS.out _ (List.getElem_mem hlb)
      have HLE : Hid (∀ i, (markB ++ bodyB (bs.take k) ++ textB (bs[k].chunks.take i)).length ≤ 10000000004) := fun i => by
        have h1 := textB_le bs[k].chunks i
        have h2 := bodyB_le bs (k + 1)
        rw [bodyB_take bs k hlb, List.length_append] at h2
        have h3 := HBL.out
        rw [List.length_append, List.length_append]
        have : markB.length = 4 := rfl
        omega
      have hcl2 : bs[k].chunks.length ≤ 8 := by have := (HBS.out bs[k] (List.getElem_mem hlb)).len; omega
      rw [hbk] at p0
      obtain ⟨ko, kb, koff, kcap, hkv, hkr⟩ := GSl.of_owns kcell_len HOW.out
      rw [hkv] at p1
      have HKR : Hid (GRow w kcell 8 ko kb koff bs[k].chunks) := hkr
      generalize hb : bs[k] = b at *
      generalize hpp : markB ++ bodyB (bs.take k) = pre at *
      clear hgr hbk hb hpp hS HOW hkr hkv
      go_upto_region 5 with fail
      have hS1 := HS.out.alloc (.cells #[.int .i64 (b.rows : Int), .slice ko b.chunks.length kcap] 152)
      have hcx : (wr.alloc (.cells #[.int .i64 (b.rows : Int), .slice ko b.chunks.length kcap] 152)).heap[wr.heap.size]? = some (.cells #[.int .i64 (b.rows : Int), .slice ko b.chunks.length kcap] 152 (0, 0)) := alloc_at _ _
      generalize wr.alloc (.cells #[.int .i64 (b.rows : Int), .slice ko b.chunks.length kcap] 152) = W1 at *
      have HS1 : Hid (JnSt w W1 (.slice co cs.length ccap) (.slice eo es.length ecap) (.slice (some ⟨bb, boff, none⟩) L.length bcap) u3 (pre ++ textB (b.chunks.take 0))) := by
        show JnSt _ _ _ _ _ _ _
        rw [show textB (b.chunks.take 0) = [] from rfl, List.append_nil]
        exact hS1
      generalize wr.heap.size = gc at *
      obtain ⟨q0, q1⟩ := two_of hcx
      clear hS1 p0 p1 HS
      go_wp2_with fail
      clear q0 q1 hcx
      go_loopw [3, 21] (fun u i wr => ∃ i' : Nat, i' ≤ b.chunks.length ∧ i = .int .i64 (i' : Int) ∧ JnSt w wr (.slice co cs.length ccap) (.slice eo es.length ecap) (.slice (some ⟨bb, boff, none⟩) L.length bcap) u (pre ++ textB (b.chunks.take i'))) (fun _ i _ => b.chunks.length - (intOf i).toNat)
      case atStart => exact ⟨0, Nat.zero_le _, rfl, HS1.out⟩
      case round =>
        rename World => wx
        clear HS1
        obtain ⟨i, hi', rfl, hS⟩ := hrel
        have HS : Hid (JnSt w wx (.slice co cs.length ccap) (.slice eo es.length ecap) (.slice (some ⟨bb, boff, none⟩) L.length bcap) u3 (pre ++ textB (b.chunks.take i))) := hS
        have hsz : w.heap.size ≤ wx.heap.size := hS.bel.size
        by_cases hli : i < b.chunks.length
        · have hkr := HKR.out.below hS.bel
          obtain rfl := hkr.addr (by omega)
          have p0 : wx.cell? ⟨kb, koff + i * 8, none⟩ = some (.string b.chunks[i].text) := hkr.c i hli 0 _ rfl
          have y1 : wx.cell? ⟨kb, koff + i * 8 + 1, none⟩ = some (.bool b.chunks[i].bnd.there) := hkr.c i hli 1 _ rfl
          have y2 : wx.cell? ⟨kb, koff + i * 8 + 2, none⟩ = some (.bool b.chunks[i].bnd.least.null) := hkr.c i hli 2 _ rfl
          have y3 : wx.cell? ⟨kb, koff + i * 8 + 3, none⟩ = some (.int .i64 b.chunks[i].bnd.least.n) := hkr.c i hli 3 _ rfl
          have y4 : wx.cell? ⟨kb, koff + i * 8 + 4, none⟩ = some (.string b.chunks[i].bnd.least.s) := hkr.c i hli 4 _ rfl
          have y5 : wx.cell? ⟨kb, koff + i * 8 + 5, none⟩ = some (.bool b.chunks[i].bnd.most.null) := hkr.c i hli 5 _ rfl
          have y6 : wx.cell? ⟨kb, koff + i * 8 + 6, none⟩ = some (.int .i64 b.chunks[i].bnd.most.n) := hkr.c i hli 6 _ rfl
          have y7 : wx.cell? ⟨kb, koff + i * 8 + 7, none⟩ = some (.string b.chunks[i].bnd.most.s) := hkr.c i hli 7 _ rfl
          have HPP : Hid (pre ++ textB (b.chunks.take (i + 1)) = pre ++ textB (b.chunks.take i) ++ bytesOf b.chunks[i].text) := by
            show _ = _
            rw [textB_take b.chunks i hli, List.append_assoc]
          have hl1 := HLE.out i
          have hl2 := HLE.out (i + 1)
          rw [HPP.out, List.length_append, bytesOf_length] at hl2
          have hp := HPK.out _ (List.getElem_mem hli)
          generalize b.chunks[i] = ch at *
          generalize pre ++ textB (b.chunks.take i) = pre4 at *
          clear hkr hS
          go_upto_region 8 with fail
          have hS1 := HS.out.alloc (.cells (kcell ch).toArray 156)
          have hcx : (wx.alloc (.cells (kcell ch).toArray 156)).heap[wx.heap.size]? = some (.cells (kcell ch).toArray 156 (0, 0)) := alloc_at _ _
          rw [show (kcell ch).toArray = #[.string ch.text, .bool ch.bnd.there, .bool ch.bnd.least.null, .int .i64 ch.bnd.least.n, .string ch.bnd.least.s, .bool ch.bnd.most.null, .int .i64 ch.bnd.most.n, .string ch.bnd.most.s] from rfl] at hS1 hcx
          generalize wx.alloc (.cells #[.string ch.text, .bool ch.bnd.there, .bool ch.bnd.least.null, .int .i64 ch.bnd.least.n, .string ch.bnd.least.s, .bool ch.bnd.most.null, .int .i64 ch.bnd.most.n, .string ch.bnd.most.s] 156) = W5 at *
          have HS5 : Hid (JnSt w W5 (.slice co cs.length ccap) (.slice eo es.length ecap) (.slice (some ⟨bb, boff, none⟩) L.length bcap) u3 pre4) := hS1
          have hcx5 : W5.heap[wx.heap.size]? = some (.cells (kcell ch).toArray 156 (0, 0)) := hcx
          have hsz5 : w.heap.size ≤ W5.heap.size := hS1.bel.size
          have hown := hS1.own
          generalize wx.heap.size = gx at *
          clear hS1 p0 y1 y2 y3 y4 y5 y6 y7 HS hcx
          obtain ⟨⟨c0, -⟩, -⟩ := chk_cells hcx5
          go_wp2_with (at_builtin; refine wpList_append_str_M _ rfl _ _ 44 9 rfl w.heap.size i0 Try.underlying44 Try.underlying9 hi hz0 hz1 hz2 _ pre4 rfl hown ch.text rfl hp (by unfold maxLen; omega) (by omega) hsz5 ?_; intro v6 w6 ho6 hg6)
          have HS6 : Hid (JnSt w w6 (.slice co cs.length ccap) (.slice eo es.length ecap) (.slice (some ⟨bb, boff, none⟩) L.length bcap) v6 (pre ++ textB (b.chunks.take (i + 1)))) := HS5.out.grew hg6 (by
            rw [strCells_bytes] at ho6
            rw [HPP.out, List.length_append, bytesOf_length, bcells_append]
            exact ho6)
          clear ho6 hg6 hown c0 hcx5
          go_roundw
          case rel => exact ⟨i + 1, by omega, by go_num, HS6.out⟩
          case measure => simp [intOf]; omega
        · obtain rfl : i = b.chunks.length := by omega
          have HS7 : Hid (JnSt w wx (.slice co cs.length ccap) (.slice eo es.length ecap) (.slice (some ⟨bb, boff, none⟩) L.length bcap) u3 (markB ++ bodyB (bs.take (k + 1)))) := by show JnSt _ _ _ _ _ _ _; rw [HP.out]; exact hS
          clear hS HS
          go_wp2_with fail
          go_roundw
          case rel => exact ⟨k + 1, by omega, by go_num, HS7.out⟩
          case measure => simp [intOf]; omega
    · obtain rfl : k = L.length := by omega
      have hfin : markB ++ bodyB (bs.take L.length) = markB ++ bodyB bs := by rw [HLN.out, List.take_length]
      rw [hfin] at hS
      have HFI : Hid (fileB cs es bs = markB ++ bodyB bs ++ footB cs es bs ++ lenB (footB cs es bs).length ++ bytesOf ⟨#[83, 84, 82, 65]⟩) := by
        show _ = _
        rw [show bytesOf ⟨#[83, 84, 82, 65]⟩ = markB from rfl]
        unfold fileB
        simp only [List.append_assoc]
      have hpl : (markB ++ bodyB bs).length ≤ 10000000004 := by
        have := HBL.out
        rw [List.length_append]
        have : markB.length = 4 := rfl
        omega
      obtain ⟨hf1, hf2⟩ := HFL.out
      generalize footB cs es bs = ft at *
      generalize markB ++ bodyB bs = pre at *
      have HS : Hid (JnSt w wr (.slice co cs.length ccap) (.slice eo es.length ecap) (.slice bo L.length bcap) u3 pre) := hS
      obtain ⟨t0, t1, t2⟩ := hS.cells
      clear hS hfin HL HGR HEA HPOS HBS HBL
      go_upto_region 12 with (go_at_call 92; refine (HFT.out _ HS.out.bel).mono ?_; rintro e w1 ⟨fv, rfl, hof, hb1⟩)
      have HS1 : Hid (JnSt w w1 (.slice co cs.length ccap) (.slice eo es.length ecap) (.slice bo L.length bcap) u3 pre) := HS.out.below hb1
      obtain ⟨gf, fcap, rfl, -, -⟩ := hof.form hf2
      have hcf := hof.cells (g := gf) rfl
      have hm1 := HS1.out.own
      have hz1' : w.heap.size ≤ w1.heap.size := HS1.out.bel.size
      clear t0 t1 t2 hb1 HS HFT
      go_upto_region 13 with (at_builtin; refine wpList_append_M _ rfl _ _ 44 rfl w.heap.size i0 Try.underlying44 hi hz0 hz1 hz2 _ pre rfl hm1 ⟨gf, 0, none⟩ fcap ft rfl hf2 hcf (by unfold maxLen; omega) (by omega) hz1' ?_; intro v2 w2 ho2 hg2)
      have hbl2 : Below w.heap.size w w2 := (HS1.out.grew hg2 ho2).bel
      have hp2 : (pre ++ ft).length ≤ 10002000004 := by rw [List.length_append]; omega
      have HFI2 : Hid (fileB cs es bs = pre ++ ft ++ lenB ft.length ++ bytesOf ⟨#[83, 84, 82, 65]⟩) := HFI.out
      clear hcf hm1 hg2 HS1 hof HFI
      generalize hpp : pre ++ ft = pre2 at *
      have HAL : Hid (Calls Try.prog 93 #[v2, .int .i64 (ft.length : Int)] w2 fun e w' => ∃ u', e = .returned u' ∧ w'.ownsRow w.heap.size 5 1 u' (pre2 ++ lenB ft.length).length (bcells (pre2 ++ lenB ft.length)) ∧ Grew w2 w' v2 u') := appendLength_any v2 pre2 ft.length w.heap.size w2 (by omega) (by omega) hbl2.size ho2
      have HB2 : Hid (Below w.heap.size w w2) := hbl2
      have HLT : Hid (∀ g, v2.ownBlock = some g → w.heap.size ≤ g) := fun g hg => (ho2.lt g hg).1
      clear hpp ho2 hbl2
      go_upto_region 14 with (go_at_call 93; refine HAL.out.mono ?_; rintro e w3 ⟨v3, rfl, ho3, hg3⟩)
      have HB3 : Hid (Below w.heap.size w w3) := HB2.out.trans (hg3.below HLT.out HB2.out.size)
      have hz3 : w.heap.size ≤ w3.heap.size := HB3.out.size
      have HLT3 : Hid (∀ g, v3.ownBlock = some g → w.heap.size ≤ g) := fun g hg => (ho3.lt g hg).1
      have hp3 : (pre2 ++ lenB ft.length).length ≤ 10002000008 := by rw [List.length_append]; have : (lenB ft.length).length = 4 := rfl; omega
      clear hg3 HAL HB2 HLT
      generalize pre2 ++ lenB ft.length = pre3 at *
      go_wp2_with (at_builtin; refine wpList_append_str_keep _ rfl _ _ 44 9 rfl w.heap.size 5 i0 Try.underlying44 Try.underlying9 hi hz0 hz1 hz2 _ pre3.length _ rfl ho3 ⟨#[83, 84, 82, 65]⟩ rfl (show pre3.length + 4 ≤ maxLen by unfold maxLen; omega) (show pre3.length + 4 ≤ 140737488355328 by omega) hz3 ?_; intro v4 w4 ho4 hg4; rw [strCells_bytes, ← bcells_append] at ho4; have hcv := run_string_own ho4 (by rw [List.length_append, bytesOf_length]))
      go_ret
      rw [HFI2.out]
      exact ⟨rfl, HB3.out.trans (hg4.below HLT3.out hz3)⟩
end Go.Proofs.Ytjidbonhhpkljaa.Ec

/- The contracts of the code's readEntries, checkPlaces and readDict. -/
set_option linter.unusedVariables false
namespace Go.Proofs.Ytjidbonhhpkljaa.Ec
open Go.RowKit Go.Proofs.Ytjidbonhhpkljaa.Pk Go.Proofs.Ytjidbonhhpkljaa.Pm

theorem chk_none_of {ps : List Nat} {k : Nat} (h : chk 0 (ps.take k) = none) : chk 0 ps = none := by rw [chk_split ps k, h]; rfl
theorem chk_far {ps : List Nat} {k t n : Nat} (h : chk 0 (ps.take k) = some t) (ht : n < t) : chk 0 ps ≠ some n := by
  rw [chk_split ps k, h]
  intro e
  have := chk_mono (show chk t (ps.drop k) = some n from e)
  omega

set_option maxRecDepth 100000 in
set_option maxHeartbeats 4000000 in
theorem checkPlaces_any (s : ByteArray) (r p n : Nat) (lv : Value) (ps : List Nat) (w : World) (hn : n ≤ 100) (hl : ps.length ≤ 100) (hpb : ∀ q ∈ ps, q < 65536) (hvs : ISl w lv (intsOf ps)) (h : w.heap[r]? = some (rdr s p)) :
    Calls Try.prog 144 #[.pointer (some ⟨r, 0, none⟩), lv, .int .i64 n] w fun e w' => w' = w ∧ ((e = .returned (.tuple #[]) ∧ chk 0 ps = some n) ∨ (∃ q, e = .panicked (badAt q) ∧ chk 0 ps ≠ some n)) := by
  have HR : Hid (w.heap[r]? = some (rdr s p)) := h
  obtain ⟨ao, b, off, cap, rfl, h1, h2, h3⟩ := hvs
  have hil : (intsOf ps).length = ps.length := by simp [intsOf]
  rw [hil] at h1 h2 ⊢
  have H3 : Hid (∀ j, (hj : j < ps.length) → w.cell? ⟨b, off + j, none⟩ = some (.int .i64 (ps[j] : Int))) := fun j hj => by
    have := h3 j (by rw [hil]; exact hj)
    rw [getD_get (by rw [hil]; exact hj)] at this
    simpa [intsOf] using this
  clear h3 h hil
  go_enter Try.func144, Try.ntmps144
  go_wp2_with fail
  go_loopw [6, 11] (fun sv i wr => ∃ k t : Nat, k ≤ ps.length ∧ i = .int .i64 (k : Int) ∧ sv = .int .i64 (t : Int) ∧ t ≤ n ∧ chk 0 (ps.take k) = some t ∧ wr = w) (fun _ i _ => ps.length - (intOf i).toNat)
  case atStart => exact ⟨0, 0, Nat.zero_le _, rfl, rfl, Nat.zero_le _, rfl, rfl⟩
  case round =>
    obtain ⟨k, t, hk, rfl, rfl, ht, hck, rfl⟩ := hrel
    have HCK : Hid (chk 0 (ps.take k) = some t) := hck
    clear hck
    by_cases hlt : k < ps.length
    · obtain rfl := h1 (by omega)
      have hcl := H3.out k hlt
      have HSU : Hid (chk 0 (ps.take (k + 1)) = if ps[k] < t then some t else if ps[k] = t then some (t + 1) else none) := chk_take_succ ps k hlt HCK.out
      have hqb := hpb _ (List.getElem_mem hlt)
      generalize ps[k] = q at *
      by_cases hbad : t < q ∨ n ≤ q
      · have HNO : Hid (chk 0 ps ≠ some n) := by
          by_cases h5 : t < q
          · have h6 := HSU.out
            rw [if_neg (by omega), if_neg (by omega)] at h6
            show _ ≠ _
            rw [chk_none_of h6]
            simp
          · have h6 := HSU.out
            rw [if_neg (by omega), if_pos (by omega)] at h6
            exact chk_far h6 (by omega)
        go_wp2_with (go_at_call 84; refine (giveUp_any r p s _ HR.out).mono ?_; rintro e w' ⟨rfl, rfl⟩)
        all_goals exact ⟨rfl, rfl, .inr ⟨_, rfl, HNO.out⟩⟩
      · by_cases hq : q = t
        · subst hq
          have HS2 : Hid (chk 0 (ps.take (k + 1)) = some (q + 1)) := by
            have h6 := HSU.out
            rw [if_neg (by omega), if_pos rfl] at h6
            exact h6
          go_wp2
          go_roundw
          case rel => exact ⟨k + 1, q + 1, by omega, by go_num, by go_num, by omega, HS2.out, by trivial⟩
          case measure => simp [intOf]; omega
        · have HS2 : Hid (chk 0 (ps.take (k + 1)) = some t) := by
            have h6 := HSU.out
            rw [if_pos (by omega)] at h6
            exact h6
          have hne : ((q : Int) == (t : Int)) = false := by simp; omega
          go_wp2
          go_roundw
          case rel => exact ⟨k + 1, t, by omega, by go_num, rfl, ht, HS2.out, by trivial⟩
          case measure => simp [intOf]; omega
    · obtain rfl : k = ps.length := by omega
      have hck := HCK.out
      rw [List.take_length] at hck
      have HC : Hid (chk 0 ps = some t) := hck
      clear hck HCK
      by_cases htn : t < n
      · have HNO : Hid (chk 0 ps ≠ some n) := by
          show _ ≠ _
          rw [HC.out]
          simp
          omega
        go_wp2_with (go_at_call 84; refine (giveUp_any r p s _ HR.out).mono ?_; rintro e w' ⟨rfl, rfl⟩)
        exact ⟨rfl, rfl, .inr ⟨_, rfl, HNO.out⟩⟩
      · obtain rfl : t = n := by omega
        go_wp2
        go_end0
        exact ⟨rfl, .inl ⟨rfl, HC.out⟩⟩

/-- What a list that is written as a dictionary has there. -/
theorem dict_parts {k : Int} {s : ByteArray} {p cn : Nat} {L : List Val} (hcn : cn ≤ 100) (hL : L.length = cn) (hok : ∀ x ∈ L, VK k x) (hs : Starts (bytesOf s) p (dictB k L)) :
    ∃ (d : List Val) (ps : List Nat), d.length ≤ cn ∧ (∀ x ∈ d, VK k x) ∧ d.Nodup ∧ ps.length = cn ∧ chk 0 ps = some d.length ∧ Starts (bytesOf s) p (vint d.length) ∧ Starts (bytesOf s) (p + (vint d.length).length) (plainsB k d) ∧
      Starts (bytesOf s) (p + (vint d.length).length + (plainsB k d).length) (packBytes (wid d.length) ps) := by
  obtain ⟨f1, f2, f3⟩ := dfold_facts L ⟨false, 0, ⟨#[]⟩⟩
  obtain ⟨g1, g2, g3, g4⟩ := dfold_ok L L.length (Nat.le_refl _)
  rw [List.take_length] at g1 g2 g3 g4
  unfold dictB at hs
  rw [starts_append, starts_append] at hs
  exact ⟨(dfold L).1, (dfold L).2, by omega, fun x hx => hok x (g4 x hx), f1, by omega, f2, hs.1, hs.2.1, hs.2.2⟩

set_option maxRecDepth 100000 in
set_option maxHeartbeats 8000000 in
theorem readEntries_any (k : Int) (hk : k = 1 ∨ k = 2 ∨ k = 3) (s : ByteArray) (r p cn : Nat) (w : World) (hm : s.size ≤ maxLen) (hcn : cn ≤ 100) (hp : p ≤ s.size) (h : w.heap[r]? = some (rdr s p)) :
    Calls Try.prog 143 #[.pointer (some ⟨r, 0, none⟩), .int .i64 k, .int .i64 cn] w fun e w' => Kp r w w' ∧
      ((∃ (d : List Val) (v : Value), e = .returned v ∧ d.length ≤ cn ∧ (∀ x ∈ d, VK k x) ∧ d.Nodup ∧ Starts (bytesOf s) p (vint d.length) ∧ Starts (bytesOf s) (p + (vint d.length).length) (plainsB k d) ∧
        (∀ D : List Val, D.length = d.length → (∀ x ∈ D, VK k x) → Starts (bytesOf s) (p + (vint d.length).length) (plainsB k D) → D = d) ∧ p + (vint d.length).length + (plainsB k d).length ≤ s.size ∧
        w'.heap[r]? = some (rdr s (p + (vint d.length).length + (plainsB k d).length)) ∧ w'.ownsRow w.heap.size 39 3 v d.length (vcells d)) ∨
       (∃ q, e = .panicked (badAt q) ∧ ∀ L : List Val, L.length = cn → (∀ x ∈ L, VK k x) → ¬ Starts (bytesOf s) p (dictB k L))) := by
  have hrl : r < w.heap.size := lt_of_block h
  have HR : Hid (w.heap[r]? = some (rdr s p)) := h
  have hmm := @run_makeMap Try.prog
  clear h
  go_enter Try.func143, Try.ntmps143
  go_wp2_with fail
  refine (number_rd r p s _ hm hp HR.out).mono ?_
  rintro e w1 ⟨hK1, ⟨n, rfl, hn, hs1, hl1, hR1⟩ | ⟨q, rfl, hno⟩⟩
  · have HK1 : Hid (Kp r w w1) := hK1
    have HS1 : Hid (Starts (bytesOf s) p (vint n)) := hs1
    have HR1 : Hid (w1.heap[r]? = some (rdr s (p + (vint n).length))) := hR1
    have HN : Hid (n < 2147483648) := hn
    have hsz1 := hK1.size
    clear hK1 hs1 hR1 hn HR
    by_cases hbig : cn < n
    · have HNO : Hid (∀ L : List Val, L.length = cn → (∀ x ∈ L, VK k x) → ¬ Starts (bytesOf s) p (dictB k L)) := by
        intro L hL hok hs
        obtain ⟨d, ps, g1, g2, g3, g4, g5, g6, g7, g8⟩ := dict_parts hcn hL hok hs
        have := vint_one (by omega) (by have := HN.out; omega) g6 HS1.out
        omega
      go_wp2_with (go_at_call 84; refine (giveUp_any r _ s _ HR1.out).mono ?_; rintro e w' ⟨rfl, rfl⟩)
      exact ⟨rfl, HK1.out, .inr ⟨_, rfl, HNO.out⟩⟩
    · go_wp2_with fail
      refine (readPlain_any k hk s r (p + (vint n).length) n _ hm (by omega) hl1 HR1.out).mono ?_
      rintro e w2 ⟨hK2, ⟨d, v, rfl, hdl, hdk, hs2, hu2, hl2, hR2, hown2⟩ | ⟨q, rfl, hno⟩⟩
      · subst hdl
        have HDK : Hid (∀ x ∈ d, VK k x) := hdk
        have HS2 : Hid (Starts (bytesOf s) (p + (vint d.length).length) (plainsB k d)) := hs2
        have HU2 : Hid (∀ D : List Val, D.length = d.length → (∀ x ∈ D, VK k x) → Starts (bytesOf s) (p + (vint d.length).length) (plainsB k D) → D = d) := hu2
        have HR2 : Hid (w2.heap[r]? = some (rdr s (p + (vint d.length).length + (plainsB k d).length))) := hR2
        have HK2 : Hid (Kp r w w2) := HK1.out.trans hK2
        have HO2 : Hid (w2.ownsRow w.heap.size 39 3 v d.length (vcells d)) := ownsRow_base hown2 hsz1
        obtain ⟨ao, b, off, cap, rfl, hr⟩ := VSl.of_owns hown2
        have HVR : Hid (VRow w2 ao b off d) := hr
        have hom := World.ownsMap_made w2 Try.prog 39 (plainElem (H := Unit) Try.prog 3)
        have hsz2 := HK2.out.size
        clear hdk hs2 hu2 hR2 hK2 hown2 hr HK1 HR1
        go_wp2_with fail
        go_loopw [28] (fun i wr => ∃ (j n : Nat) (D : DataW Unit), j ≤ d.length ∧ n ≤ j ∧ i = .int .i64 (j : Int) ∧ (d.take j).Nodup ∧ wr.ownsMap Try.prog 39 (plainElem (H := Unit) Try.prog 3) w2.heap.size n D ∧ Knows D (d.take j) ∧ Below w2.heap.size w2 wr) (fun i _ => d.length - (intOf i).toNat)
        case atStart => exact ⟨0, 0, .map [], Nat.zero_le _, Nat.le_refl _, rfl, by simp, hom, by simpa using Knows.empty, (Below.refl _ _).alloc (Nat.le_refl _) _⟩
        case round =>
          clear hom
          obtain ⟨j, n, D, hjl, hnj, rfl, hnd, hom, hkn, hbel⟩ := hrel
          have HB : Hid (Below w2.heap.size w2 wr) := hbel
          have hsz : w2.heap.size ≤ wr.heap.size := hbel.size
          have hsz1 : w2.heap.size + 1 ≤ wr.heap.size := by have := hom.lt; omega
          have HND : Hid (d.take j).Nodup := hnd
          clear hnd
          by_cases hlt : j < d.length
          · have hr := HVR.out.below hbel
            obtain rfl := hr.addr (by omega)
            have p0 := hr.c0 j hlt
            have p1 := hr.c1 j hlt
            have p2 := hr.c2 j hlt
            have HX : Hid (VOk d[j]) := (HDK.out _ (List.getElem_mem hlt)).ok hk
            have hkey := key_mk d[j] HX.out
            have HKN : Hid (Knows D (d.take j)) := hkn
            have HHAS := hkn.has d[j] HX.out
            have HTL : Hid ((d.take j).length = j) := by show _ = _; rw [List.length_take]; omega
            have HTS : Hid (d.take (j + 1) = d.take j ++ [d[j]]) := List.take_succ_eq_append_getElem hlt
            clear hr hbel hkn
            by_cases hin : idx (d.take j) d[j] < (d.take j).length
            · have HNO : Hid (∀ L : List Val, L.length = cn → (∀ x ∈ L, VK k x) → ¬ Starts (bytesOf s) p (dictB k L)) := by
                intro L hL hok hs
                obtain ⟨d', ps, g1, g2, g3, g4, g5, g6, g7, g8⟩ := dict_parts hcn hL hok hs
                have e1 := vint_one (by omega) (by have := HN.out; omega) g6 HS1.out
                rw [e1] at g7
                have e2 := HU2.out d' e1 g2 g7
                subst e2
                have hmem := (idx_mem _ _).1 hin
                obtain ⟨i, hi, e3⟩ := List.getElem_of_mem hmem
                rw [List.getElem_take] at e3
                have h5 := HTL.out
                have := nodup_inj g3 (by omega) hlt e3
                omega
              rw [decide_eq_true hin] at HHAS
              generalize d[j] = x at *
              go_wp2_with (first
                | (at_lookup; refine wpList_lookup_own_ok_int _ rfl _ _ 170 rfl 39 3 .i64 lawV Try.underlying170 Try.underlying3 (zeroI _) w2.heap.size n D rfl (hom.alloc _) _ _ rfl hkey ?_; intro c hat hwc)
                | (go_at_call 84; refine (giveUp_any r _ s _ (by rw [Below.heap_alloc _ _ r (by omega), HB.out.block r (by omega)]; exact HR2.out)).mono ?_; rintro e w' ⟨rfl, rfl⟩))
              exact ⟨rfl, HK2.out.trans (Kp.of_below (HB.out.alloc hsz _)), .inr ⟨_, rfl, HNO.out⟩⟩
            · rw [decide_eq_false hin] at HHAS
              have HND2 : Hid (d.take (j + 1)).Nodup := by
                show List.Nodup _
                rw [HTS.out, List.nodup_append]
                refine ⟨HND.out, by simp, ?_⟩
                intro a ha c hc e
                simp at hc
                subst hc
                subst e
                exact hin ((idx_mem _ _).2 ha)
              have HPUT : Hid (Knows (D.put (kl d[j]) (.lit (.int .i64 (j : Int)))) (d.take (j + 1))) := by
                have := HKN.out.put d[j] HX.out hin
                rw [HTL.out] at this
                show Knows _ _
                rw [HTS.out]
                exact this
              have hmb : some wr.heap.size ≠ some w2.heap.size := by simp; omega
              have hal : ∀ o : Obj, (wr.alloc o).heap.size = wr.heap.size + 1 := fun o => by simp
              clear HKN HND HTS
              generalize d[j] = x at *
              go_wp2_with (first
                | (at_lookup; refine wpList_lookup_own_ok_int _ rfl _ _ 170 rfl 39 3 .i64 lawV Try.underlying170 Try.underlying3 (zeroI _) w2.heap.size n D rfl (hom.alloc _) _ _ rfl hkey ?_; intro c hat hwc)
                | (at_mapUpdate; refine wpList_mapUpdate_own _ rfl _ _ _ 170 rfl 39 3 lawV Try.underlying170 _ w2.heap.size n D rfl (hom.alloc _) ?_ _ _ _ rfl rfl hkey _ [] (plainElem_int Try.underlying3 (wf_i64 _ (by omega) (by omega))) ?_; (unfold maxLen; omega); intro w3 hom3 hgm))
              have hb3 : Below w2.heap.size w2 w3 := (HB.out.alloc hsz _).grown hgm (by rw [hal]; omega) (fun g hg => by cases hg; exact Nat.le_refl _)
              refine ⟨⟨j + 1, n + 1, _, by omega, by omega, by simp, HND2.out, hom3, HPUT.out, hb3⟩, by simp [intOf]; omega⟩
          · obtain rfl : j = d.length := by omega
            have hnd := HND.out
            rw [List.take_length] at hnd
            have HND2 : Hid d.Nodup := hnd
            clear hnd HND hkn hbel hom
            go_wp2
            go_ret
            exact ⟨HK2.out.trans (Kp.of_below HB.out), .inl ⟨d, _, rfl, by omega, HDK.out, HND2.out, HS1.out, HS2.out, HU2.out, hl2, by rw [HB.out.block r (by omega)]; exact HR2.out, ownsRow_below HO2.out HB.out⟩⟩
      · have HNO : Hid (∀ L : List Val, L.length = cn → (∀ x ∈ L, VK k x) → ¬ Starts (bytesOf s) p (dictB k L)) := by
          intro L hL hok hs
          obtain ⟨d, ps, g1, g2, g3, g4, g5, g6, g7, g8⟩ := dict_parts hcn hL hok hs
          have := vint_one (by omega) (by have := HN.out; omega) g6 HS1.out
          rw [this] at g7
          exact hno d this g2 g7
        have HK2 : Hid (Kp r w w2) := HK1.out.trans hK2
        clear hno hK2 HK1
        go_wp2
        exact ⟨rfl, HK2.out, .inr ⟨q, rfl, HNO.out⟩⟩
  · have HNO : Hid (∀ L : List Val, L.length = cn → (∀ x ∈ L, VK k x) → ¬ Starts (bytesOf s) p (dictB k L)) := by
      intro L hL hok hs
      obtain ⟨d, ps, g1, g2, g3, g4, g5, g6, g7, g8⟩ := dict_parts hcn hL hok hs
      exact hno d.length (by omega) g6
    have HK1 : Hid (Kp r w w1) := hK1
    clear hno hK1
    go_wp2
    exact ⟨rfl, HK1.out, .inr ⟨q, rfl, HNO.out⟩⟩
end Go.Proofs.Ytjidbonhhpkljaa.Ec

/- The contract of the code's readDict. -/
set_option linter.unusedVariables false
namespace Go.Proofs.Ytjidbonhhpkljaa.Ec
open Go.RowKit Go.Proofs.Ytjidbonhhpkljaa.Pk Go.Proofs.Ytjidbonhhpkljaa.Pm

theorem getD_val (d : List Val) (z : Val) (q : Nat) (h : q < d.length) : d.getD q z = d[q] := by simp [List.getD, h]
theorem ISl.below {w w' : World} {v : Value} {zs : List Int} (h : ISl w v zs) (hb : Below w.heap.size w w') : ISl w' v zs := by
  obtain ⟨ao, b, off, cap, rfl, h1, h2, h3⟩ := h
  exact ⟨ao, b, off, cap, rfl, h1, fun h0 => Nat.lt_of_lt_of_le (h2 h0) hb.size, fun j hj => (hb.cell (p := ⟨b, off + j, none⟩) (h2 (by omega))).trans (h3 j hj)⟩

set_option maxRecDepth 100000 in
set_option maxHeartbeats 8000000 in
theorem readDict_any (k : Int) (hk : k = 1 ∨ k = 2 ∨ k = 3) (s : ByteArray) (r p cn : Nat) (w : World) (hm : s.size ≤ maxLen) (hcn : cn ≤ 100) (hp : p ≤ s.size) (h : w.heap[r]? = some (rdr s p)) :
    Calls Try.prog 115 #[.pointer (some ⟨r, 0, none⟩), .int .i64 k, .int .i64 cn] w fun e w' => Kp r w w' ∧
      ((∃ (l : List Val) (v : Value), e = .returned v ∧ l.length = cn ∧ (∀ x ∈ l, VK k x) ∧ Starts (bytesOf s) p (dictB k l) ∧ (∀ L : List Val, L.length = cn → (∀ x ∈ L, VK k x) → Starts (bytesOf s) p (dictB k L) → L = l) ∧ p + (dictB k l).length ≤ s.size ∧
        w'.heap[r]? = some (rdr s (p + (dictB k l).length)) ∧ w'.ownsRow w.heap.size 39 3 v l.length (vcells l)) ∨
       (∃ q, e = .panicked (badAt q) ∧ ∀ L : List Val, L.length = cn → (∀ x ∈ L, VK k x) → ¬ Starts (bytesOf s) p (dictB k L))) := by
  obtain ⟨j0, hj, hy0, hy1, hy2⟩ := info_parts Try.info39
  have hrl : r < w.heap.size := lt_of_block h
  have HR : Hid (w.heap[r]? = some (rdr s p)) := h
  clear h
  go_enter Try.func115, Try.ntmps115
  go_wp2_with fail
  refine (readEntries_any k hk s r p cn _ hm hcn hp HR.out).mono ?_
  rintro e w1 ⟨hK1, ⟨d, v, rfl, hdl, hdk, hnd, hs1, hs2, hu2, hl2, hR1, hown1⟩ | ⟨q, rfl, hno⟩⟩
  · have HK1 : Hid (Kp r w w1) := hK1
    have HS1 : Hid (Starts (bytesOf s) p (vint d.length)) := hs1
    have HS2 : Hid (Starts (bytesOf s) (p + (vint d.length).length) (plainsB k d)) := hs2
    have HU2 : Hid (∀ D : List Val, D.length = d.length → (∀ x ∈ D, VK k x) → Starts (bytesOf s) (p + (vint d.length).length) (plainsB k D) → D = d) := hu2
    have HR1 : Hid (w1.heap[r]? = some (rdr s (p + (vint d.length).length + (plainsB k d).length))) := hR1
    have HDK : Hid (∀ x ∈ d, VK k x) := hdk
    have HND : Hid d.Nodup := hnd
    have HO1 : Hid (w1.ownsRow w.heap.size 39 3 v d.length (vcells d)) := hown1
    have hsz1 := hK1.size
    obtain ⟨vao, vcap, rfl⟩ := own_shape hown1
    have HP3 : Hid (p + (vint d.length).length + (plainsB k d).length ≤ s.size) := hl2
    generalize hP : p + (vint d.length).length + (plainsB k d).length = P at *
    have HP : Hid (p + (vint d.length).length + (plainsB k d).length = P) := hP
    have HW : Hid (∀ w, Calls Try.prog 107 #[.int .i64 (d.length : Int)] w fun e w' => e = .returned (.int .i64 (wid d.length)) ∧ w' = w) := fun w => widthOf_any d.length (by omega) w
    clear hK1 hs1 hs2 hu2 hR1 hdk hnd hown1 HR hP hl2
    have hwl := wid_le d.length
    go_wp2_with (go_at_call 107; refine (HW.out _).mono ?_; rintro e w' ⟨rfl, hw⟩; rw [hw]; clear hw w')
    refine (readPacked_any s r P (wid d.length) cn _ hm (by omega) hcn HP3.out HR1.out).mono ?_
    rintro e w2 ⟨hK2, ⟨rfl, hok, hR2, hown2⟩ | ⟨q, rfl, hno⟩⟩
    · have HS3 : Hid (Starts (bytesOf s) P (packBytes (wid d.length) (D (wid d.length) (restV s P) cn))) := packed_starts s P _ cn HP3.out hok
      have HUP : Hid (∀ ps : List Nat, ps.length = cn → (∀ x ∈ ps, x < 2 ^ wid d.length) → Starts (bytesOf s) P (packBytes (wid d.length) ps) → ps = D (wid d.length) (restV s P) cn) := by
        intro ps h1 h2 h3
        have := (packed_reads s P _ ps HP3.out h2 h3).2
        rw [h1] at this
        exact this.symm
      have hpl : (D (wid d.length) (restV s P) cn).length = cn := D_length _ _ _
      have hpb : ∀ q ∈ D (wid d.length) (restV s P) cn, q < 65536 := fun q hq => by
        have h1 := D_lt _ _ _ q hq
        have h2 : 2 ^ wid d.length ≤ 2 ^ 7 := Nat.pow_le_pow_right (by omega) hwl
        omega
      generalize D (wid d.length) (restV s P) cn = ps at *
      have hil : (intsOf ps).length = cn := by rw [← hpl]; simp [intsOf]
      have HPL : Hid (ps.length = cn) := hpl
      have HPB : Hid (∀ q ∈ ps, q < 65536) := hpb
      have HIS : Hid (ISl w2 (.slice (some ⟨w1.heap.size, 0, none⟩) cn cn) (intsOf ps)) := ISl.of_owns (by rw [hil]; exact hown2)
      have HK2 : Hid (Kp r w w2) := HK1.out.trans hK2
      have HO2 : Hid (w2.ownsRow w.heap.size 39 3 (.slice vao d.length vcap) d.length (vcells d)) := hK2.own HO1.out hrl
      have HR2 : Hid (w2.heap[r]? = some (rdr s (P + (cn * wid d.length + 7) / 8))) := hR2
      have hsz2 := HK2.out.size
      clear hK2 hR2 hown2 hok HK1 HO1 HR1 hpl hpb hil
      generalize hM : P + (cn * wid d.length + 7) / 8 = M at *
      have HM : Hid (P + (cn * wid d.length + 7) / 8 = M) := hM
      clear hM hwl
      go_wp2_with fail
      refine (checkPlaces_any s r M d.length _ ps _ (by omega) (by rw [HPL.out]; omega) HPB.out HIS.out HR2.out).mono ?_
      rintro e w' ⟨hw, ⟨rfl, hck⟩ | ⟨q, rfl, hno⟩⟩
      · rw [hw]
        clear hw w'
        have HCK : Hid (chk 0 ps = some d.length) := hck
        have HG : Hid _ := dict_good hk (s := s) (p := p) (cn := cn) (n := d.length) (d := d) (ps := ps) ⟨false, 0, ⟨#[]⟩⟩ hcn hdl rfl HDK.out HND.out HPL.out hck HS1.out HS2.out (by rw [HP.out]; exact HS3.out) HU2.out (by rw [HP.out]; exact HP3.out)
        have HLT : Hid (∀ j, (hj : j < ps.length) → ps[j] < d.length) := fun j hj => chk_lt hck _ (List.getElem_mem hj)
        clear hck
        have HVS : Hid (VSl w2 (.slice vao d.length vcap) d) := VSl.of_owns HO2.out
        obtain ⟨iao, ib, ioff, icap, ie, i1, i2, i3⟩ := HIS.out
        simp only [Value.slice.injEq] at ie
        obtain ⟨ie1, ie2, ie3⟩ := ie
        rw [← ie2] at i1 i2 i3
        have HI3 : Hid (∀ j, (hj : j < ps.length) → w2.cell? ⟨ib, ioff + j, none⟩ = some (.int .i64 (ps[j] : Int))) := fun j hj => by
          have h1 := i3 j (by rw [← HPL.out]; exact hj)
          have hil : (intsOf ps).length = ps.length := by simp [intsOf]
          rw [getD_get (by rw [hil]; exact hj)] at h1
          simpa [intsOf] using h1
        have HI2 : Hid (0 < cn → ib < w2.heap.size) := i2
        have HI1 : Hid (0 < cn → (some (⟨w1.heap.size, 0, none⟩ : Addr)) = some ⟨ib, ioff, none⟩) := fun h0 => by rw [ie1]; exact i1 h0
        obtain ⟨ao, b, off, cap, ve, hvr⟩ := HVS.out
        simp only [Value.slice.injEq] at ve
        obtain ⟨rfl, _, rfl⟩ := ve
        have HVR : Hid (VRow w2 vao b off d) := hvr
        clear i1 i2 i3 hvr HVS HIS ie1 ie2 ie3
        go_wp2_with (at_make; refine wpList_make_own _ rfl _ _ 30 rfl w2.heap.size 39 j0 _ 3 Try.underlying30 hj hy0 hy1 .i64 .i64 _ cn rfl rfl rfl (by rw [hy2]; omega) (by unfold maxLen; omega) (Nat.le_refl _) ?_; intro w3 hown3 hgrow3)
        have HB3 : Hid (Below w2.heap.size w2 w3) := (Below.refl _ _).grown hgrow3 (Nat.le_refl _) (by simp)
        clear hgrow3
        go_loopw [9, 31] (fun lv i wr => ∃ j : Nat, j ≤ cn ∧ i = .int .i64 (j : Int) ∧ lv = .slice (some ⟨w2.heap.size, 0, none⟩) j cn ∧ wr.ownsRow w2.heap.size 39 3 (.slice (some ⟨w2.heap.size, 0, none⟩) j cn) j (vcells ((ps.take j).map fun q => d.getD q ⟨false, 0, ⟨#[]⟩⟩)) ∧ Below w2.heap.size w2 wr) (fun _ i _ => cn - (intOf i).toNat)
        case atStart => exact ⟨0, Nat.zero_le _, rfl, rfl, by simpa [vcells] using hown3, HB3.out⟩
        case round =>
          clear hown3 HB3
          obtain ⟨j, hjc, rfl, rfl, hown, hB⟩ := hrel
          have HB : Hid (Below w2.heap.size w2 wr) := hB
          have hsz := hB.size
          clear hB
          by_cases hlt : j < cn
          · have hjp : j < ps.length := by rw [HPL.out]; exact hlt
            have hq := HLT.out j hjp
            have he1 := HI1.out (by omega)
            have hibl := HI2.out (by omega)
            have hck : wr.cell? ⟨ib, ioff + j, none⟩ = some (.int .i64 (ps[j] : Int)) := (HB.out.cell (p := ⟨ib, ioff + j, none⟩) hibl).trans (HI3.out j hjp)
            have hr := HVR.out.below HB.out
            obtain rfl := hr.addr (by omega)
            have p0 := hr.c0 ps[j] hq
            have p1 := hr.c1 ps[j] hq
            have p2 := hr.c2 ps[j] hq
            have HV : Hid (∀ x : Val, d[ps[j]] = x → vcells ((ps.take j).map fun q => d.getD q ⟨false, 0, ⟨#[]⟩⟩) ++ [.bool x.null, .int .i64 x.n, .string x.s] = vcells ((ps.take (j + 1)).map fun q => d.getD q ⟨false, 0, ⟨#[]⟩⟩)) := by
              intro x hx
              rw [List.take_succ_eq_append_getElem hjp, List.map_append, List.map_singleton, ← vcells_snoc, getD_val d _ _ hq, hx]
            simp only [Option.some.injEq, Addr.mk.injEq] at he1
            obtain ⟨hb1, hb2, _⟩ := he1
            subst hb1
            subst hb2
            rw [Nat.zero_add] at hck
            generalize hx : d[ps[j]] = x at *
            have HX := HV.out x rfl
            have HXX : Hid _ := HX
            clear HX HV hx hr
            generalize ps[j] = q at *
            go_wp2_with (at_builtin; refine wpList_append_fits _ rfl _ _ 30 rfl w2.heap.size 39 j0 3 Try.underlying30 hj hy1 w2.heap.size j cn _ rfl (hown.alloc _) ⟨wr.heap.size, 0, none⟩ 1 1 [.bool x.null, .int .i64 x.n, .string x.s] rfl rfl (by exact three_at _ _ _ _ _) (three_one x) (by omega) ?_; intro w4 hown4 hgrow4)
            have HB4 : Hid (Below w2.heap.size w2 w4) := (HB.out.alloc hsz _).grown hgrow4 (by simp; omega) (by intro g hg; simp at hg; omega)
            rw [HXX.out] at hown4
            clear hown hgrow4 HB hck p0 p1 p2
            go_wp2
            go_roundw
            case rel => exact ⟨j + 1, by omega, by go_num, rfl, hown4, HB4.out⟩
            case measure => simp [intOf]; omega
          · obtain rfl : j = cn := by omega
            have htk : ps.take j = ps := List.take_of_length_le (by rw [HPL.out]; omega)
            rw [htk] at hown
            obtain ⟨a1, a2, a3, a4, a5⟩ := HG.out
            have HA1 : Hid _ := a1
            have HA2 : Hid _ := a2
            have HA3 : Hid _ := a3
            have HA4 : Hid _ := a4
            have HA5 : Hid _ := a5
            clear a1 a2 a3 a4 a5 HG htk
            have HLN : Hid (p + (dictB k (ps.map fun q => d.getD q ⟨false, 0, ⟨#[]⟩⟩)).length = M) := by
              show _ = _
              rw [HA3.out, List.length_append, List.length_append, packBytes_length, HPL.out, ← Nat.add_assoc, ← Nat.add_assoc, HP.out, HM.out]
            have HLS : Hid (p + (dictB k (ps.map fun q => d.getD q ⟨false, 0, ⟨#[]⟩⟩)).length ≤ s.size) := by
              have := starts_len HA4.out (by rw [bytesOf_length]; exact hp)
              rwa [bytesOf_length] at this
            generalize hl : (ps.map fun q => d.getD q ⟨false, 0, ⟨#[]⟩⟩) = l at *
            go_wp2
            go_ret
            exact ⟨HK2.out.trans (Kp.of_below HB.out), .inl ⟨l, _, rfl, HA1.out, HA2.out, HA4.out, HA5.out, HLS.out, by rw [HLN.out, HB.out.block r (by omega)]; exact HR2.out, by rw [HA1.out]; exact ownsRow_base hown hsz2⟩⟩
      · have HNO : Hid (∀ L : List Val, L.length = cn → (∀ x ∈ L, VK k x) → ¬ Starts (bytesOf s) p (dictB k L)) := by
          intro L hL hok hs
          obtain ⟨d', ps', g1, g2, g3, g4, g5, g6, g7, g8⟩ := dict_parts hcn hL hok hs
          have e1 := vint_one (by omega) (by omega) g6 HS1.out
          rw [e1] at g7 g8 g5
          have e2 := HU2.out d' e1 g2 g7
          rw [e2, HP.out] at g8
          have e3 := HUP.out ps' g4 (fun x hx => wid_fits _ (by omega) x (chk_lt g5 x hx)) g8
          rw [e3] at g5
          exact hno g5
        rw [hw]
        clear hno hw w'
        go_wp2
        exact ⟨rfl, HK2.out, .inr ⟨q, rfl, HNO.out⟩⟩
    · have HNO : Hid (∀ L : List Val, L.length = cn → (∀ x ∈ L, VK k x) → ¬ Starts (bytesOf s) p (dictB k L)) := by
        intro L hL hok hs
        obtain ⟨d', ps, g1, g2, g3, g4, g5, g6, g7, g8⟩ := dict_parts hcn hL hok hs
        have e1 := vint_one (by omega) (by omega) g6 HS1.out
        rw [e1] at g7 g8 g5
        have e2 := HU2.out d' e1 g2 g7
        rw [e2, HP.out] at g8
        have := (packed_reads s P (wid d.length) ps HP3.out (fun x hx => wid_fits _ (by omega) x (chk_lt g5 x hx)) g8).1
        rw [g4] at this
        exact hno this
      have HK2 : Hid (Kp r w w2) := HK1.out.trans hK2
      clear hno hK2 HK1
      go_wp2
      exact ⟨rfl, HK2.out, .inr ⟨q, rfl, HNO.out⟩⟩
  · have HNO : Hid (∀ L : List Val, L.length = cn → (∀ x ∈ L, VK k x) → ¬ Starts (bytesOf s) p (dictB k L)) := hno
    have HK1 : Hid (Kp r w w1) := hK1
    clear hno hK1
    go_wp2
    exact ⟨rfl, HK1.out, .inr ⟨q, rfl, HNO.out⟩⟩
end Go.Proofs.Ytjidbonhhpkljaa.Ec

/- The contracts of the code's readPresent and readColumn. -/
set_option linter.unusedVariables false
namespace Go.Proofs.Ytjidbonhhpkljaa.Ec
open Go.RowKit Go.Proofs.Ytjidbonhhpkljaa.Pk Go.Proofs.Ytjidbonhhpkljaa.Pm

theorem bitV_back (L : List Val) (hok : ∀ x ∈ L, VK 2 x) : (L.map Val.n).map bitV = L := by
  rw [List.map_map]
  conv => rhs; rw [← List.map_id L]
  apply List.map_congr_left
  intro x hx
  have h := hok x hx
  have h1 := h.there
  have h2 := (h.s2 rfl).2
  cases x
  simp at h1 h2
  simp [bitV, h1, h2]
theorem bitV_forth (zs : List Int) : (zs.map bitV).map Val.n = zs := by
  rw [List.map_map]
  conv => rhs; rw [← List.map_id zs]
  rfl
theorem bitV_ok (zs : List Int) (h : Bits zs) : ∀ x ∈ zs.map bitV, VK 2 x := by
  intro x hx
  obtain ⟨z, hz, rfl⟩ := List.mem_map.1 hx
  have hb := h z hz
  exact ⟨rfl, by show _ ≤ z; omega, by show z ≤ _; omega, fun h => by omega, fun _ => ⟨hb, rfl⟩, fun h => by omega⟩
theorem vk2_bits (L : List Val) (hok : ∀ x ∈ L, VK 2 x) : Bits (L.map Val.n) := by
  intro z hz
  obtain ⟨x, hx, rfl⟩ := List.mem_map.1 hz
  exact ((hok x hx).s2 rfl).1

/-- What a reader of count values does. -/
def Reads (s : ByteArray) (r p cn : Nat) (k : Int) (E : List Val → List Nat) (w : World) (e : Ending) (w' : World) : Prop := Kp r w w' ∧
      ((∃ (l : List Val) (v : Value), e = .returned v ∧ l.length = cn ∧ (∀ x ∈ l, VK k x) ∧ Starts (bytesOf s) p (E l) ∧ (∀ L : List Val, L.length = cn → (∀ x ∈ L, VK k x) → Starts (bytesOf s) p (E L) → L = l) ∧ p + (E l).length ≤ s.size ∧
        w'.heap[r]? = some (rdr s (p + (E l).length)) ∧ w'.ownsRow w.heap.size 39 3 v l.length (vcells l)) ∨
       (∃ q, e = .panicked (badAt q) ∧ ∀ L : List Val, L.length = cn → (∀ x ∈ L, VK k x) → ¬ Starts (bytesOf s) p (E L)))

set_option maxRecDepth 100000 in
set_option maxHeartbeats 4000000 in
theorem readPresent_any (k e : Int) (he : hasEncB k e = true) (s : ByteArray) (r p cn : Nat) (w : World) (hm : s.size ≤ maxLen) (hcn : cn ≤ 100) (hp : p ≤ s.size) (h : w.heap[r]? = some (rdr s p)) :
    Calls Try.prog 80 #[.pointer (some ⟨r, 0, none⟩), .int .i64 k, .int .i64 e, .int .i64 cn] w fun x w' => Reads s r p cn k (codedB k e) w x w' := by
  obtain ⟨hk, hee⟩ := enc_kinds he
  have hrl : r < w.heap.size := lt_of_block h
  have HR : Hid (w.heap[r]? = some (rdr s p)) := h
  clear h
  rcases hee with rfl | rfl | rfl | rfl
  · have e1 : ∀ l, codedB k 0 l = plainsB k l := fun l => rfl
    have HE : Hid (codedB k 0 = plainsB k) := funext e1
    clear e1
    go_enter Try.func80, Try.ntmps80
    go_wp2_with fail
    refine (readPlain_any k hk s r p cn _ hm hcn hp HR.out).mono ?_
    intro x w1 hx
    have HX : Hid (Reads s r p cn k (codedB k 0) w x w1) := by
      show Reads _ _ _ _ _ _ _ _ _
      rw [HE.out]
      exact hx
    rcases hx with ⟨hK1, ⟨l, v, rfl, _⟩ | ⟨q, rfl, _⟩⟩
    · clear hK1
      go_wp2
      go_ret
      exact HX.out
    · clear hK1
      go_wp2
      exact ⟨rfl, HX.out⟩
  · have hk1 : k = 1 := by simp [hasEncB] at he; omega
    subst hk1
    have e1 : ∀ l, codedB 1 1 l = deltaF 0 l := fun l => rfl
    have HE : Hid (codedB 1 1 = deltaF 0) := funext e1
    clear e1
    go_enter Try.func80, Try.ntmps80
    go_wp2_with fail
    refine (readDelta_any s r p cn _ hm hcn hp HR.out).mono ?_
    intro x w1 hx
    have HX : Hid (Reads s r p cn 1 (codedB 1 1) w x w1) := by
      show Reads _ _ _ _ _ _ _ _ _
      rw [HE.out]
      exact hx
    rcases hx with ⟨hK1, ⟨l, v, rfl, _⟩ | ⟨q, rfl, _⟩⟩
    · clear hK1
      go_wp2
      go_ret
      exact HX.out
    · clear hK1
      go_wp2
      exact ⟨rfl, HX.out⟩
  · have e1 : ∀ l, codedB k 2 l = dictB k l := fun l => rfl
    have HE : Hid (codedB k 2 = dictB k) := funext e1
    clear e1
    go_enter Try.func80, Try.ntmps80
    go_wp2_with fail
    refine (readDict_any k hk s r p cn _ hm hcn hp HR.out).mono ?_
    intro x w1 hx
    have HX : Hid (Reads s r p cn k (codedB k 2) w x w1) := by
      show Reads _ _ _ _ _ _ _ _ _
      rw [HE.out]
      exact hx
    rcases hx with ⟨hK1, ⟨l, v, rfl, _⟩ | ⟨q, rfl, _⟩⟩
    · clear hK1
      go_wp2
      go_ret
      exact HX.out
    · clear hK1
      go_wp2
      exact ⟨rfl, HX.out⟩
  · have hk1 : k = 2 := by simp [hasEncB] at he; omega
    subst hk1
    have e1 : ∀ l, codedB 2 3 l = runsB (l.map Val.n) := fun l => rfl
    have HE : Hid (∀ l, codedB 2 3 l = runsB (l.map Val.n)) := e1
    clear e1
    go_enter Try.func80, Try.ntmps80
    go_wp2_with fail
    refine (readRuns_any s r p cn _ hm hcn hp HR.out).mono ?_
    rintro x w1 ⟨hK1, ⟨zs, v, rfl, hzl, hzb, hs1, hu1, hl1, hR1, hown1⟩ | ⟨q, rfl, hno⟩⟩
    · have HK1 : Hid (Kp r w w1) := hK1
      have HZB : Hid (Bits zs) := hzb
      have HS1 : Hid (Starts (bytesOf s) p (runsB zs)) := hs1
      have HU1 : Hid (∀ L : List Int, L.length = cn → Bits L → Starts (bytesOf s) p (runsB L) → L = zs) := hu1
      have HR1 : Hid (w1.heap[r]? = some (rdr s (p + (runsB zs).length))) := hR1
      have HIS : Hid (ISl w1 v zs) := ISl.of_owns hown1
      have HZL : Hid (zs.length = cn) := hzl
      have hsz := hK1.size
      clear hK1 hzb hs1 hu1 hR1 hown1 hzl HR
      go_wp2_with fail
      refine (valuesOf_any v zs _ (by rw [HZL.out]; exact hcn) HIS.out).mono ?_
      rintro x w2 ⟨hb, v2, rfl, hown2⟩
      have HB : Hid (Below w1.heap.size w1 w2) := hb
      have HO2 : Hid (w2.ownsRow w1.heap.size 39 3 v2 zs.length (vcells (zs.map bitV))) := hown2
      clear hb hown2
      go_wp2
      go_ret
      refine ⟨HK1.out.trans (Kp.of_below HB.out), .inl ⟨zs.map bitV, v2, rfl, by rw [List.length_map]; exact HZL.out, bitV_ok zs HZB.out, ?_, ?_, ?_, ?_, ?_⟩⟩
      · rw [HE.out, bitV_forth]; exact HS1.out
      · intro L hL hok hs
        rw [HE.out] at hs
        rw [← HU1.out (L.map Val.n) (by rw [List.length_map]; exact hL) (vk2_bits L hok) hs, bitV_back L hok]
      · rw [HE.out, bitV_forth]; exact hl1
      · rw [HE.out, bitV_forth, HB.out.block r (by omega)]; exact HR1.out
      · rw [List.length_map]; exact ownsRow_base HO2.out hsz
    · have HNO : Hid (∀ L : List Val, L.length = cn → (∀ x ∈ L, VK 2 x) → ¬ Starts (bytesOf s) p (codedB 2 3 L)) := by
        intro L hL hok hs
        rw [HE.out] at hs
        exact hno (L.map Val.n) (by rw [List.length_map]; exact hL) (vk2_bits L hok) hs
      have HK1 : Hid (Kp r w w1) := hK1
      clear hno hK1
      go_wp2
      exact ⟨rfl, HK1.out, .inr ⟨q, rfl, HNO.out⟩⟩

def nullV : Val := ⟨true, 0, ⟨#[]⟩⟩

/-- A column of which some values were put together. -/
structure CSt (k : Int) (zs : List Int) (pres : List Val) (j nx : Nat) (l : List Val) : Prop where
  lv : l.map lev = zs.take j
  th : there l = pres.take nx
  nx_ : nx = ones (zs.take j)
  ok : ∀ x ∈ l, VC k x

theorem ones_mono (zs : List Int) (j : Nat) : ones (zs.take j) ≤ ones zs := by
  unfold ones
  exact ((List.take_sublist j zs).filter _).length_le
theorem there_snoc (l : List Val) (x : Val) : there (l ++ [x]) = if x.null then there l else there l ++ [x] := by
  unfold there
  rw [List.filter_append]
  cases hx : x.null <;> simp [hx]
theorem CSt.null {k : Int} {zs : List Int} {pres : List Val} {j nx : Nat} {l : List Val} (h : CSt k zs pres j nx l) (hb : Bits zs) (hj : j < zs.length) (hz : zs.getD j 0 = 0) : CSt k zs pres (j + 1) nx (l ++ [nullV]) := by
  have h1 := ones_succ zs hb j hj
  rw [hz] at h1
  refine ⟨?_, ?_, ?_, ?_⟩
  · rw [List.map_append, h.lv, List.take_succ_eq_append_getElem hj, ← getD_get hj, hz]; rfl
  · rw [there_snoc]; exact h.th
  · rw [h.nx_]; omega
  · intro x hx
    rcases List.mem_append.1 hx with h2 | h2
    · exact h.ok x h2
    · simp at h2; subst h2; exact .inl ⟨rfl, rfl, rfl⟩
theorem CSt.lt {k : Int} {zs : List Int} {pres : List Val} {j nx : Nat} {l : List Val} (h : CSt k zs pres j nx l) (hb : Bits zs) (hj : j < zs.length) (hz : zs.getD j 0 ≠ 0) (hp : pres.length = ones zs) : nx < pres.length := by
  have h1 := ones_succ zs hb j hj
  have h2 := ones_mono zs (j + 1)
  have h3 := hb _ (List.getElem_mem hj)
  rw [← getD_get hj] at h3
  have h4 := h.nx_
  omega
theorem CSt.one {k : Int} {zs : List Int} {pres : List Val} {j nx : Nat} {l : List Val} (h : CSt k zs pres j nx l) (hb : Bits zs) (hj : j < zs.length) (hz : zs.getD j 0 ≠ 0) (hn : nx < pres.length) (hv : VK k pres[nx]) : CSt k zs pres (j + 1) (nx + 1) (l ++ [pres[nx]]) := by
  have h1 := ones_succ zs hb j hj
  have h3 := hb _ (List.getElem_mem hj)
  rw [← getD_get hj] at h3
  have h4 : zs.getD j 0 = 1 := by omega
  rw [h4] at h1
  refine ⟨?_, ?_, ?_, ?_⟩
  · rw [List.map_append, h.lv, List.take_succ_eq_append_getElem hj, ← getD_get hj, h4]
    congr 1
    simp [lev, hv.there]
  · rw [there_snoc, hv.there, h.th, List.take_succ_eq_append_getElem hn]; rfl
  · rw [h.nx_]; omega
  · intro x hx
    rcases List.mem_append.1 hx with h2 | h2
    · exact h.ok x h2
    · simp at h2; subst h2; exact .inr hv

set_option maxRecDepth 100000 in
set_option maxHeartbeats 4000000 in
theorem readColumn_any (k e : Int) (he : hasEncB k e = true) (s : ByteArray) (r p cn : Nat) (w : World) (hm : s.size ≤ maxLen) (hcn : cn ≤ 100) (hp : p ≤ s.size) (h : w.heap[r]? = some (rdr s p)) :
    Calls Try.prog 50 #[.pointer (some ⟨r, 0, none⟩), .int .i64 k, .int .i64 e, .int .i64 cn] w fun x w' => Kp r w w' ∧
      ((∃ (l : List Val) (v : Value), x = .returned v ∧ l.length = cn ∧ (∀ x ∈ l, VC k x) ∧ Starts (bytesOf s) p (columnB k e l) ∧ (∀ L : List Val, L.length = cn → (∀ x ∈ L, VC k x) → Starts (bytesOf s) p (columnB k e L) → L = l) ∧ p + (columnB k e l).length ≤ s.size ∧
        w'.heap[r]? = some (rdr s (p + (columnB k e l).length)) ∧ w'.ownsRow w.heap.size 39 3 v l.length (vcells l)) ∨
       (∃ q, x = .panicked (badAt q) ∧ ∀ L : List Val, L.length = cn → (∀ x ∈ L, VC k x) → ¬ Starts (bytesOf s) p (columnB k e L))) := by
  obtain ⟨j0, hj, hy0, hy1, hy2⟩ := info_parts Try.info39
  have hrl : r < w.heap.size := lt_of_block h
  have HR : Hid (w.heap[r]? = some (rdr s p)) := h
  clear h
  go_enter Try.func50, Try.ntmps50
  go_wp2_with fail
  refine (readRuns_any s r p cn _ hm hcn hp HR.out).mono ?_
  rintro x w1 ⟨hK1, ⟨zs, v, rfl, hzl, hzb, hs1, hu1, hl1, hR1, hown1⟩ | ⟨q, rfl, hno⟩⟩
  · have HK1 : Hid (Kp r w w1) := hK1
    have HZB : Hid (Bits zs) := hzb
    have HS1 : Hid (Starts (bytesOf s) p (runsB zs)) := hs1
    have HU1 : Hid (∀ L : List Int, L.length = cn → Bits L → Starts (bytesOf s) p (runsB L) → L = zs) := hu1
    have HR1 : Hid (w1.heap[r]? = some (rdr s (p + (runsB zs).length))) := hR1
    have HO1 : Hid (w1.ownsRow w.heap.size 3 1 v zs.length (icells zs)) := hown1
    have HIS : Hid (ISl w1 v zs) := ISl.of_owns hown1
    have HZL : Hid (zs.length = cn) := hzl
    have hsz1 := hK1.size
    have hon : ones zs ≤ 100 := by have := ones_le zs; omega
    have HCO : Hid (∀ w, ISl w v zs → Calls Try.prog 81 #[v] w fun e w' => e = .returned (.int .i64 ((ones zs : Nat) : Int)) ∧ w' = w) := fun w h => countOnes_any v zs w (by omega) hzb h
    have hrl1 := lt_of_block hR1
    clear hK1 hzb hs1 hu1 hR1 hown1 hzl HR
    go_wp2_with (go_at_call 81; refine (HCO.out _ HIS.out).mono ?_; rintro x w' ⟨rfl, hw⟩; rw [hw]; clear hw w')
    refine (readPresent_any k e he s r (p + (runsB zs).length) (ones zs) _ hm hon hl1 HR1.out).mono ?_
    rintro x w2 ⟨hK2, ⟨pres, v2, rfl, hpl, hpk, hs2, hu2, hl2, hR2, hown2⟩ | ⟨q, rfl, hno⟩⟩
    · have HK2 : Hid (Kp r w w2) := HK1.out.trans hK2
      have HPK : Hid (∀ x ∈ pres, VK k x) := hpk
      have HS2 : Hid (Starts (bytesOf s) (p + (runsB zs).length) (codedB k e pres)) := hs2
      have HU2 : Hid (∀ L : List Val, L.length = ones zs → (∀ x ∈ L, VK k x) → Starts (bytesOf s) (p + (runsB zs).length) (codedB k e L) → L = pres) := hu2
      have HR2 : Hid (w2.heap[r]? = some (rdr s (p + (runsB zs).length + (codedB k e pres).length))) := hR2
      have HPL : Hid (pres.length = ones zs) := hpl
      obtain ⟨iao, ib, ioff, icap, rfl, i1, i2, i3⟩ := ISl.of_owns (hK2.own HO1.out hrl)
      have HI3 : Hid (∀ j, j < zs.length → w2.cell? ⟨ib, ioff + j, none⟩ = some (.int .i64 (zs.getD j 0))) := i3
      obtain ⟨ao, b, off, cap, rfl, hvr⟩ := VSl.of_owns hown2
      have HVR : Hid (VRow w2 ao b off pres) := hvr
      have hsz2 := HK2.out.size
      have hle1 : p + (runsB zs).length + (codedB k e pres).length ≤ s.size := hl2
      clear hK2 hpk hs2 hu2 hR2 hpl hown2 i3 hvr HO1 HIS HK1 HR1 HCO hl2
      rw [HZL.out] at i1 i2
      have HI3' : Hid (∀ j, j < cn → w2.cell? ⟨ib, ioff + j, none⟩ = some (.int .i64 (zs.getD j 0))) := by
        have := HI3.out
        rw [HZL.out] at this
        exact this
      clear HI3
      rw [HZL.out]
      go_wp2_with (at_make; refine wpList_make_own _ rfl _ _ 30 rfl w2.heap.size 39 j0 _ 3 Try.underlying30 hj hy0 hy1 .i64 .i64 _ cn rfl rfl rfl (by rw [hy2]; omega) (by unfold maxLen; omega) (Nat.le_refl _) ?_; intro w3 hown3 hgrow3)
      have HB3 : Hid (Below w2.heap.size w2 w3) := (Below.refl _ _).grown hgrow3 (Nat.le_refl _) (by simp)
      clear hgrow3
      go_loopw [11, 12, 28] (fun lv nv i wr => ∃ (j nx : Nat) (l : List Val), j ≤ cn ∧ nx ≤ j ∧ i = .int .i64 (j : Int) ∧ nv = .int .i64 (nx : Int) ∧ lv = .slice (some ⟨w2.heap.size, 0, none⟩) j cn ∧ CSt k zs pres j nx l ∧ wr.ownsRow w2.heap.size 39 3 (.slice (some ⟨w2.heap.size, 0, none⟩) j cn) j (vcells l) ∧ Below w2.heap.size w2 wr) (fun _ _ i _ => cn - (intOf i).toNat)
      case atStart => exact ⟨0, 0, [], Nat.zero_le _, Nat.le_refl _, rfl, rfl, rfl, ⟨rfl, rfl, rfl, fun x hx => by simp at hx⟩, by simpa [vcells] using hown3, HB3.out⟩
      case round =>
        clear hown3 HB3
        obtain ⟨j, nx, l, hjc, hnj, rfl, rfl, rfl, hC, hown, hB⟩ := hrel
        have HB : Hid (Below w2.heap.size w2 wr) := hB
        have HC : Hid (CSt k zs pres j nx l) := hC
        have hsz := hB.size
        clear hB hC
        by_cases hlt : j < cn
        · have hjz : j < zs.length := by rw [HZL.out]; exact hlt
          obtain rfl := i1 (by omega)
          have hibl := i2 (by omega)
          have hck : wr.cell? ⟨ib, ioff + j, none⟩ = some (.int .i64 (zs.getD j 0)) := (HB.out.cell (p := ⟨ib, ioff + j, none⟩) hibl).trans (HI3'.out j hlt)
          by_cases hz : zs.getD j 0 = 0
          · have HC2 : Hid (CSt k zs pres (j + 1) nx (l ++ [nullV])) := HC.out.null HZB.out hjz hz
            rw [hz] at hck
            have HV : Hid (vcells l ++ [.bool true, .int .i64 0, .string ⟨#[]⟩] = vcells (l ++ [nullV])) := vcells_snoc l nullV
            clear hz hjz
            go_wp2_with (at_builtin; refine wpList_append_fits _ rfl _ _ 30 rfl w2.heap.size 39 j0 3 Try.underlying30 hj hy1 w2.heap.size j cn _ rfl (hown.alloc _) ⟨wr.heap.size, 0, none⟩ 1 1 [.bool true, .int .i64 0, .string ⟨#[]⟩] rfl rfl (by exact three_at _ _ _ _ _) (three_one nullV) (by omega) ?_; intro w4 hown4 hgrow4)
            have HB4 : Hid (Below w2.heap.size w2 w4) := (HB.out.alloc hsz _).grown hgrow4 (by simp; omega) (by intro g hg; simp at hg; omega)
            rw [HV.out] at hown4
            clear hown hgrow4 HB hck
            refine ⟨⟨j + 1, nx, l ++ [nullV], by omega, by omega, by go_num, rfl, rfl, HC2.out, hown4, HB4.out⟩, by simp [intOf]; omega⟩
          · have hnp := HC.out.lt HZB.out hjz hz HPL.out
            have hz1 : zs.getD j 0 = 1 := by
              have h3 := HZB.out _ (List.getElem_mem hjz)
              rw [← getD_get hjz] at h3
              omega
            have HC2 : Hid (CSt k zs pres (j + 1) (nx + 1) (l ++ [pres[nx]])) := HC.out.one HZB.out hjz hz hnp (HPK.out _ (List.getElem_mem hnp))
            rw [hz1] at hck
            have hr := HVR.out.below HB.out
            obtain rfl := hr.addr (by omega)
            have p0 := hr.c0 nx hnp
            have p1 := hr.c1 nx hnp
            have p2 := hr.c2 nx hnp
            have HV : Hid (vcells l ++ [.bool pres[nx].null, .int .i64 pres[nx].n, .string pres[nx].s] = vcells (l ++ [pres[nx]])) := vcells_snoc l _
            clear hz hz1 hjz hr
            generalize pres[nx] = y at *
            go_wp2_with (at_builtin; refine wpList_append_fits _ rfl _ _ 30 rfl w2.heap.size 39 j0 3 Try.underlying30 hj hy1 w2.heap.size j cn _ rfl (hown.alloc _) ⟨wr.heap.size, 0, none⟩ 1 1 [.bool y.null, .int .i64 y.n, .string y.s] rfl rfl (by exact three_at _ _ _ _ _) (three_one y) (by omega) ?_; intro w4 hown4 hgrow4)
            have HB4 : Hid (Below w2.heap.size w2 w4) := (HB.out.alloc hsz _).grown hgrow4 (by simp; omega) (by intro g hg; simp at hg; omega)
            rw [HV.out] at hown4
            clear hown hgrow4 HB hck p0 p1 p2
            refine ⟨⟨j + 1, nx + 1, l ++ [y], by omega, by omega, by go_num, by go_num, rfl, HC2.out, hown4, HB4.out⟩, by simp [intOf]; omega⟩
        · obtain rfl : j = cn := by omega
          have htk : zs.take j = zs := List.take_of_length_le (by rw [HZL.out]; omega)
          have c1 := HC.out.lv
          have c2 := HC.out.th
          have c3 := HC.out.nx_
          rw [htk] at c1 c3
          rw [c3, ← HPL.out, List.take_length] at c2
          have hll : l.length = j := by rw [← HZL.out, ← c1, List.length_map]
          obtain ⟨g1, g2⟩ := column_good (k := k) (e := e) (s := s) (p := p) (cn := j) (l := l) hll HC.out.ok (by rw [c1]; exact HS1.out) (by rw [c1]; exact HU1.out) (by rw [c1, c2]; exact HS2.out) (by rw [c1, c2]; exact HU2.out)
          have HG1 : Hid (Starts (bytesOf s) p (columnB k e l)) := g1
          have HG2 : Hid (∀ L : List Val, L.length = j → (∀ x ∈ L, VC k x) → Starts (bytesOf s) p (columnB k e L) → L = l) := g2
          have HLN : Hid (p + (columnB k e l).length = p + (runsB zs).length + (codedB k e pres).length) := by
            show _ = _
            unfold columnB
            rw [List.length_append, c1, c2, Nat.add_assoc]
          have HLL : Hid (l.length = j) := hll
          clear g1 g2 c1 c2 c3 htk hll
          go_wp2
          go_ret
          exact ⟨HK2.out.trans (Kp.of_below HB.out), .inl ⟨l, _, rfl, HLL.out, HC.out.ok, HG1.out, HG2.out, by rw [HLN.out]; exact hle1, by rw [HLN.out, HB.out.block r (by omega)]; exact HR2.out, by rw [HLL.out]; exact ownsRow_base hown hsz2⟩⟩
    · have HNO : Hid (∀ L : List Val, L.length = cn → (∀ x ∈ L, VC k x) → ¬ Starts (bytesOf s) p (columnB k e L)) := by
        intro L hL hok hs
        unfold columnB at hs
        rw [starts_append] at hs
        have e1 := HU1.out (L.map lev) (by rw [List.length_map]; exact hL) (lev_bits L) hs.1
        rw [e1] at hs
        exact hno (there L) (by rw [there_ones, e1]) (there_vk hok) hs.2
      have HK2 : Hid (Kp r w w2) := HK1.out.trans hK2
      clear hno hK2 HK1
      go_wp2
      exact ⟨rfl, HK2.out, .inr ⟨q, rfl, HNO.out⟩⟩
  · have HNO : Hid (∀ L : List Val, L.length = cn → (∀ x ∈ L, VC k x) → ¬ Starts (bytesOf s) p (columnB k e L)) := by
      intro L hL hok hs
      unfold columnB at hs
      rw [starts_append] at hs
      exact hno (L.map lev) (by rw [List.length_map]; exact hL) (lev_bits L) hs.1
    have HK1 : Hid (Kp r w w1) := hK1
    clear hno hK1
    go_wp2
    exact ⟨rfl, HK1.out, .inr ⟨q, rfl, HNO.out⟩⟩
end Go.Proofs.Ytjidbonhhpkljaa.Ec

/- Three new blocks, one behind the other. -/
set_option linter.unusedVariables false
namespace Go.Proofs.Ytjidbonhhpkljaa.Pk
open Go.RowKit Go.Proofs.Ytjidbonhhpkljaa.Pm

theorem three_0 (w : World) (a b c : Obj) : (((w.alloc a).alloc b).alloc c).heap[w.heap.size]? = some a := by
  rw [Below.heap_alloc _ _ _ (by simp; omega), Below.heap_alloc _ _ _ (by simp)]; exact heap_alloc_new w a
theorem three_1 (w : World) (a b c : Obj) : (((w.alloc a).alloc b).alloc c).heap[w.heap.size + 1]? = some b := by
  rw [Below.heap_alloc _ _ _ (by simp)]
  have := heap_alloc_new (w.alloc a) b
  rwa [show (w.alloc a).heap.size = w.heap.size + 1 from by simp] at this
theorem three_2 (w : World) (a b c : Obj) : (((w.alloc a).alloc b).alloc c).heap[w.heap.size + 1 + 1]? = some c := by
  have := heap_alloc_new ((w.alloc a).alloc b) c
  rwa [show ((w.alloc a).alloc b).heap.size = w.heap.size + 1 + 1 from by simp] at this
end Go.Proofs.Ytjidbonhhpkljaa.Pk

/- The contract of ReadWhole at values: what is read of all bytes, or nothing, by the recover at the call. -/
set_option linter.unusedVariables false
namespace Go.Proofs.Ytjidbonhhpkljaa.Ec
open Go.RowKit Go.Proofs.Ytjidbonhhpkljaa.Pk Go.Proofs.Ytjidbonhhpkljaa.Pm

theorem one_frozen {w : World} {g : Nat} {v : Value} {t : TypeId} (h : w.heap[g]? = some (.cells #[v] t (0, 0))) : w.cell? ⟨g, 0, none⟩ = some v ∧ w.frozen? ⟨g, 0, none⟩ = false := by
  constructor
  · simp [World.cell?, h]
  · simp [World.frozen?, h]
theorem one_set {w : World} {g : Nat} {v : Value} (u : Value) {t : TypeId} (h : w.heap[g]? = some (.cells #[v] t (0, 0))) : (w.setCell ⟨g, 0, none⟩ u).heap[g]? = some (.cells #[u] t (0, 0)) := by
  rw [heap_setCell_same w g 0 _ _ _ h]; rfl

/-- The deferred function, where the frame panics. -/
theorem catchV_panicking (pl pe : Addr) (vl ve : Value) (u : TypeId) (pv : Value) (older : List PanicEntry) (w : World) (hl : w.cell? pl = some vl) (hlf : w.frozen? pl = false)
    (he : (w.setCell pl (.slice none 0 0)).cell? pe = some ve) (hef : (w.setCell pl (.slice none 0 0)).frozen? pe = false) :
    CallsD Try.prog 110 #[.pointer (some pl), .pointer (some pe)] (.panicking ({ v := .iface u pv, recovered := false } :: older)) w fun e u' w' =>
      e = .returned (.tuple #[]) ∧ u' = .panicking ({ v := .iface u pv, recovered := true } :: older) ∧ w' = (w.setCell pl (.slice none 0 0)).setCell pe (.bool false) := by
  refine callsD_of_wpS Try.func110 rfl fun c₀ cs hu => ?_
  apply wpS_seq
  apply wpS_region
  simp [wpOpsS, go_sem, recoverD, hu, Try.ntmps110, Exit.thenS]
  refine wpS_cond (t := true) (by simp [Act.eval, Array.replicate]) ?_
  simp only [if_true]
  apply wpS_seq
  apply wpS_region
  simp [wpOpsS, go_sem, Exit.thenS]
  apply wpS_region
  simp [wpOpsS, go_sem, hl, hlf, he, hef, bodyPostS, results, Try.results110]

theorem catchV_idle (pl pe : Addr) (w : World) :
    CallsD Try.prog 110 #[.pointer (some pl), .pointer (some pe)] .returning w fun e u' w' => e = .returned (.tuple #[]) ∧ u' = .returning ∧ w' = w := by
  refine callsD_of_wpS Try.func110 rfl fun c₀ cs hu => ?_
  apply wpS_seq
  apply wpS_region
  simp [wpOpsS, go_sem, recoverD, hu, Try.ntmps110, Exit.thenS]
  refine wpS_cond (t := false) (by simp [Act.eval, Array.replicate]) ?_
  simp only [Bool.false_eq_true, if_false]
  refine wpS_of_wp (wp_skip ?_)
  cases c₀
  simp_all [bodyPostS, results, Try.results110]

theorem catchV_at {w w4 : World} {v : Value} {t1 t2 : TypeId} {v2 : Value} (q : Nat) (hL : w4.heap[w.heap.size]? = some (.cells #[v] t1 (0, 0))) (hE : w4.heap[w.heap.size + 1]? = some (.cells #[v2] t2 (0, 0))) :
    CallsD Try.prog 110 #[.pointer (some ⟨w.heap.size, 0, none⟩), .pointer (some ⟨w.heap.size + 1, 0, none⟩)] (.panicking (badAt q)) w4 fun e u' w' =>
      e = .returned (.tuple #[]) ∧ u' = .panicking [{ v := .iface 183 (.agg #[.int .i64 (q : Int)]), recovered := true }] ∧ w' = (w4.setCell ⟨w.heap.size, 0, none⟩ (.slice none 0 0)).setCell ⟨w.heap.size + 1, 0, none⟩ (.bool false) := by
  have a3 : (w4.setCell ⟨w.heap.size, 0, none⟩ (.slice none 0 0)).heap[w.heap.size + 1]? = some (.cells #[v2] t2 (0, 0)) := by
    rw [heap_setCell_other _ _ _ _ (by simp)]; exact hE
  exact catchV_panicking _ _ _ _ _ _ [] w4 (one_frozen hL).1 (one_frozen hL).2 (one_frozen a3).1 (one_frozen a3).2

theorem whole_bad {w w4 : World} {v v2 : Value} {t1 t2 : TypeId} (u1 u2 : Value) (hL : w4.heap[w.heap.size]? = some (.cells #[v] t1 (0, 0))) (hE : w4.heap[w.heap.size + 1]? = some (.cells #[v2] t2 (0, 0))) (hB : Below w.heap.size w w4) :
    let W := (w4.setCell ⟨w.heap.size, 0, none⟩ u1).setCell ⟨w.heap.size + 1, 0, none⟩ u2
    W.cell? ⟨w.heap.size, 0, none⟩ = some u1 ∧ W.cell? ⟨w.heap.size + 1, 0, none⟩ = some u2 ∧ Below w.heap.size w W := by
  have a1 := one_set u1 hL
  have a3 : (w4.setCell ⟨w.heap.size, 0, none⟩ u1).heap[w.heap.size + 1]? = some (.cells #[v2] t2 (0, 0)) := by
    rw [heap_setCell_other _ _ _ _ (by simp)]; exact hE
  refine ⟨?_, (one_frozen (one_set u2 a3)).1, ?_⟩
  · refine (one_frozen (t := t1) ?_).1
    rw [heap_setCell_other _ _ _ _ (by simp)]
    exact a1
  · exact (hB.setCell (Nat.le_refl _) _).setCell (Nat.le_succ _) _

set_option maxRecDepth 100000 in
set_option maxHeartbeats 2000000 in
theorem wholeV_any (c1 c2 c3 : Value) (s : ByteArray) (w : World) (hm : s.size ≤ maxLen) (el size : Nat) (Q : Nat → List Value → Nat → Prop) (N : Prop)
    (hcl : ∀ (W : World) (r : Nat), Below w.heap.size w W → r = w.heap.size + 1 + 1 → W.heap[r]? = some (rdr s 0) → Calls Try.prog 49 #[.pointer (some ⟨r, 0, none⟩), c1, c2, c3] W fun e w' => Kp r W w' ∧
      ((∃ v n xs q, e = .returned v ∧ w'.heap[r]? = some (rdr s q) ∧ q ≤ s.size ∧ w'.ownsRow W.heap.size el size v n xs ∧ Q n xs q) ∨ (∃ q, e = .panicked (badAt q) ∧ N))) :
    Calls Try.prog 78 #[.string s, .func (.func 49) #[] #[c1, c2, c3]] w fun e w' => Below w.heap.size w w' ∧
      ((∃ v n xs, e = .returned (.tuple #[v, .bool true]) ∧ w'.ownsRow w.heap.size el size v n xs ∧ Q n xs s.size) ∨ (e = .returned (.tuple #[.slice none 0 0, .bool false]) ∧ (N ∨ ∃ n xs q, Q n xs q ∧ q < s.size))) := by
  have HCL : Hid _ := hcl
  clear hcl
  have hmf : ∀ (fn : Fn) (first cap : Array Value) (w : World), (Instr.makeFunc fn first cap).run Try.prog w = .ok (.func fn first cap) w := fun _ _ _ _ => rfl
  go_enter_defers Try.func78, Try.ntmps78
  go_wp2_with (go_at_call 100; refine (newReader_any s _).mono ?_; rintro e w' ⟨rfl, rfl⟩)
  have hL : (((w.alloc (.cells #[.slice none 0 0] 30)).alloc (.cells #[.bool false] 4)).alloc (rdr s 0)).heap[w.heap.size]? = some (.cells #[.slice none 0 0] 30 (0, 0)) := three_0 _ _ _ _
  have hE : (((w.alloc (.cells #[.slice none 0 0] 30)).alloc (.cells #[.bool false] 4)).alloc (rdr s 0)).heap[w.heap.size + 1]? = some (.cells #[.bool false] 4 (0, 0)) := three_1 _ _ _ _
  have hR : (((w.alloc (.cells #[.slice none 0 0] 30)).alloc (.cells #[.bool false] 4)).alloc (rdr s 0)).heap[w.heap.size + 1 + 1]? = some (rdr s 0) := three_2 _ _ _ _
  have hS : (((w.alloc (.cells #[.slice none 0 0] 30)).alloc (.cells #[.bool false] 4)).alloc (rdr s 0)).heap.size = w.heap.size + 3 := by simp
  have hB : Below w.heap.size w (((w.alloc (.cells #[.slice none 0 0] 30)).alloc (.cells #[.bool false] 4)).alloc (rdr s 0)) := (((Below.refl _ _).alloc (Nat.le_refl _) _).alloc (by simp) _).alloc (by simp; omega) _
  generalize (((w.alloc (.cells #[.slice none 0 0] 30)).alloc (.cells #[.bool false] 4)).alloc (rdr s 0)) = W3 at *
  refine (HCL.out W3 (w.heap.size + 1 + 1) hB rfl hR).mono ?_
  rintro e w4 ⟨hK4, ⟨v, n, xs, q, rfl, hR4, hq, hown, hQ⟩ | ⟨q, rfl, hN⟩⟩
  · have hL4 : w4.heap[w.heap.size]? = some (.cells #[.slice none 0 0] 30 (0, 0)) := Kp.block hK4 hL (by omega)
    have hE4 : w4.heap[w.heap.size + 1]? = some (.cells #[.bool false] 4 (0, 0)) := Kp.block hK4 hE (by omega)
    have hB4 : Below w.heap.size w w4 := hB.trans ((hK4.below (by omega)).mono (by omega))
    have hne : v.ownBlock ≠ some w.heap.size ∧ v.ownBlock ≠ some (w.heap.size + 1) := ⟨fun e => by have := (hown.lt _ e).1; omega, fun e => by have := (hown.lt _ e).1; omega⟩
    obtain ⟨ao, cap, hv⟩ := own_shape hown
    subst hv
    have HO4 : Hid (w4.ownsRow w.heap.size el size (.slice ao n cap) n xs) := ownsRow_base hown (by omega)
    have HNE : Hid _ := hne
    have HQ : Hid (Q n xs q) := hQ
    obtain ⟨cl, fl⟩ := one_frozen hL4
    obtain ⟨ce, fe⟩ := one_frozen hE4
    have HL4 : Hid _ := hL4
    have HE4 : Hid _ := hE4
    have HB4 : Hid _ := hB4
    have HR4 : Hid (w4.heap[w.heap.size + 1 + 1]? = some (rdr s q)) := hR4
    clear hL hE hR hS hB hL4 hE4 hK4 hR4 hown hQ hB4 hne
    clear W3
    by_cases hend : q < s.size
    · go_wp2_with (go_at_call 111; refine (end_bad (w.heap.size + 1 + 1) q s _ hm hend (by rw [heap_setCell_other _ _ _ _ (by simp; omega)]; exact HR4.out)).mono ?_; rintro e w' ⟨rfl, m, rfl⟩)
      have hL5 : ((w4.setCell ⟨w.heap.size, 0, none⟩ (.slice ao n cap)).drewN m).heap[w.heap.size]? = some (.cells #[.slice ao n cap] 30 (0, 0)) := one_set _ HL4.out
      have hE5 : ((w4.setCell ⟨w.heap.size, 0, none⟩ (.slice ao n cap)).drewN m).heap[w.heap.size + 1]? = some (.cells #[.bool false] 4 (0, 0)) := by
        show (w4.setCell ⟨w.heap.size, 0, none⟩ (.slice ao n cap)).heap[w.heap.size + 1]? = _
        rw [heap_setCell_other _ _ _ _ (by simp)]; exact HE4.out
      have hB5 := below_drewN (HB4.out.setCell (p := ⟨w.heap.size, 0, none⟩) (Nat.le_refl _) (.slice ao n cap)) m
      generalize (w4.setCell ⟨w.heap.size, 0, none⟩ (.slice ao n cap)).drewN m = w5 at *
      obtain ⟨f1, f2, f3⟩ := whole_bad (.slice none 0 0) (.bool false) hL5 hE5 hB5
      refine leaves_cons (f := 110) (args := #[.pointer (some ⟨w.heap.size, 0, none⟩), .pointer (some ⟨w.heap.size + 1, 0, none⟩)]) (by simp) (by simp [go_sem]) ?_
      refine (catchV_at _ hL5 hE5).mono ?_
      rintro e u' w'' ⟨rfl, rfl, rfl⟩
      simp [Leaves, settle, results, Try.results78, go_sem, f1, f2]
      exact ⟨f3, .inr ⟨n, xs, q, HQ.out, hend⟩⟩
    · obtain rfl : q = s.size := by omega
      go_wp2_with (go_at_call 111; refine (end_ok (w.heap.size + 1 + 1) s.size s _ hm (by omega) (by rw [heap_setCell_other _ _ _ _ (by simp; omega)]; exact HR4.out)).mono ?_; rintro e w' ⟨rfl, m, rfl⟩)
      have hL5 : ((w4.setCell ⟨w.heap.size, 0, none⟩ (.slice ao n cap)).drewN m).heap[w.heap.size]? = some (.cells #[.slice ao n cap] 30 (0, 0)) := one_set _ HL4.out
      have hE5 : ((w4.setCell ⟨w.heap.size, 0, none⟩ (.slice ao n cap)).drewN m).heap[w.heap.size + 1]? = some (.cells #[.bool false] 4 (0, 0)) := by
        show (w4.setCell ⟨w.heap.size, 0, none⟩ (.slice ao n cap)).heap[w.heap.size + 1]? = _
        rw [heap_setCell_other _ _ _ _ (by simp)]; exact HE4.out
      have hB5 := below_drewN (HB4.out.setCell (p := ⟨w.heap.size, 0, none⟩) (Nat.le_refl _) (.slice ao n cap)) m
      have hO5 : ((w4.setCell ⟨w.heap.size, 0, none⟩ (.slice ao n cap)).drewN m).ownsRow w.heap.size el size (.slice ao n cap) n xs := ownsRow_drewN (ownsRow_setCell_other HO4.out HNE.out.1 _) m
      have hO6 : (((w4.setCell ⟨w.heap.size, 0, none⟩ (.slice ao n cap)).drewN m).setCell ⟨w.heap.size, 0, none⟩ (.slice ao n cap)).ownsRow w.heap.size el size (.slice ao n cap) n xs := ownsRow_setCell_other hO5 HNE.out.1 _
      have hO7 : ((((w4.setCell ⟨w.heap.size, 0, none⟩ (.slice ao n cap)).drewN m).setCell ⟨w.heap.size, 0, none⟩ (.slice ao n cap)).setCell ⟨w.heap.size + 1, 0, none⟩ (.bool true)).ownsRow w.heap.size el size (.slice ao n cap) n xs := ownsRow_setCell_other hO6 HNE.out.2 _
      obtain ⟨f1, f2, f3⟩ := whole_bad (.slice ao n cap) (.bool true) hL5 hE5 hB5
      generalize (((w4.setCell ⟨w.heap.size, 0, none⟩ (.slice ao n cap)).drewN m).setCell ⟨w.heap.size, 0, none⟩ (.slice ao n cap)).setCell ⟨w.heap.size + 1, 0, none⟩ (.bool true) = Wf at *
      refine leaves_cons (f := 110) (args := #[.pointer (some ⟨w.heap.size, 0, none⟩), .pointer (some ⟨w.heap.size + 1, 0, none⟩)]) (by simp) (by simp [go_sem]) ?_
      refine (catchV_idle ⟨w.heap.size, 0, none⟩ ⟨w.heap.size + 1, 0, none⟩ _).mono ?_
      rintro e u' w'' ⟨rfl, rfl, rfl⟩
      simp [Leaves, settle, results, Try.results78, go_sem, f1, f2]
      exact ⟨f3, n, xs, hO7, HQ.out⟩
  · have hL4 : w4.heap[w.heap.size]? = some (.cells #[.slice none 0 0] 30 (0, 0)) := Kp.block hK4 hL (by omega)
    have hE4 : w4.heap[w.heap.size + 1]? = some (.cells #[.bool false] 4 (0, 0)) := Kp.block hK4 hE (by omega)
    have hB4 : Below w.heap.size w w4 := hB.trans ((hK4.below (by omega)).mono (by omega))
    clear hL hE hR hS hB hK4
    clear W3
    obtain ⟨f1, f2, f3⟩ := whole_bad (.slice none 0 0) (.bool false) hL4 hE4 hB4
    refine leaves_cons (f := 110) (args := #[.pointer (some ⟨w.heap.size, 0, none⟩), .pointer (some ⟨w.heap.size + 1, 0, none⟩)]) (by simp) (by simp [go_sem]) ?_
    refine (catchV_at _ hL4 hE4).mono ?_
    rintro e u' w'' ⟨rfl, rfl, rfl⟩
    simp [Leaves, settle, results, Try.results78, go_sem, f1, f2]
    exact ⟨f3, .inl hN⟩
end Go.Proofs.Ytjidbonhhpkljaa.Ec

/- The contract of the code's Decode. -/
set_option linter.unusedVariables false
namespace Go.Proofs.Ytjidbonhhpkljaa.Ec
open Go.RowKit Go.Proofs.Ytjidbonhhpkljaa.Pk Go.Proofs.Ytjidbonhhpkljaa.Pm

set_option maxRecDepth 100000 in
set_option maxHeartbeats 1000000 in
theorem decodeC_any (k e : Int) (he : hasEncB k e = true) (s : ByteArray) (r cn x y z : Nat) (w : World) (hm : s.size ≤ maxLen) (hcn : cn ≤ 100) (h : w.heap[r]? = some (rdr s 0))
    (hx : w.cell? ⟨x, 0, none⟩ = some (.int .i64 k)) (hy : w.cell? ⟨y, 0, none⟩ = some (.int .i64 e)) (hz : w.cell? ⟨z, 0, none⟩ = some (.int .i64 cn)) :
    Calls Try.prog 49 #[.pointer (some ⟨r, 0, none⟩), .pointer (some ⟨x, 0, none⟩), .pointer (some ⟨y, 0, none⟩), .pointer (some ⟨z, 0, none⟩)] w fun f w' => Kp r w w' ∧
      ((∃ v n xs q, f = .returned v ∧ w'.heap[r]? = some (rdr s q) ∧ q ≤ s.size ∧ w'.ownsRow w.heap.size 39 3 v n xs ∧
        (∃ l : List Val, n = cn ∧ l.length = cn ∧ xs = vcells l ∧ q = (columnB k e l).length ∧ (∀ x ∈ l, VC k x) ∧ Starts (bytesOf s) 0 (columnB k e l) ∧ ∀ L : List Val, L.length = cn → (∀ x ∈ L, VC k x) → Starts (bytesOf s) 0 (columnB k e L) → L = l)) ∨
       (∃ q, f = .panicked (badAt q) ∧ ∀ L : List Val, L.length = cn → (∀ x ∈ L, VC k x) → ¬ Starts (bytesOf s) 0 (columnB k e L))) := by
  have HR : Hid (w.heap[r]? = some (rdr s 0)) := h
  clear h
  go_enter Try.func49, Try.ntmps49
  go_wp2_with fail
  refine (readColumn_any k e he s r 0 cn _ hm hcn (Nat.zero_le _) HR.out).mono ?_
  rintro f w1 ⟨hK, ⟨l, v, rfl, hl, hok, hs, hu, hle, hR, hown⟩ | ⟨q, rfl, hno⟩⟩
  · have HK : Hid (Kp r w w1) := hK
    have HL : Hid (l.length = cn) := hl
    have HOK : Hid (∀ x ∈ l, VC k x) := hok
    have HS : Hid (Starts (bytesOf s) 0 (columnB k e l)) := hs
    have HU : Hid (∀ L : List Val, L.length = cn → (∀ x ∈ L, VC k x) → Starts (bytesOf s) 0 (columnB k e L) → L = l) := hu
    have HR1 : Hid (w1.heap[r]? = some (rdr s (0 + (columnB k e l).length))) := hR
    have HO : Hid (w1.ownsRow w.heap.size 39 3 v l.length (vcells l)) := hown
    clear hK hl hok hs hu hR hown hx hy hz
    go_wp2
    go_ret
    refine ⟨HK.out, .inl ⟨v, cn, vcells l, (columnB k e l).length, rfl, by simpa using HR1.out, by omega, by rw [← HL.out]; exact HO.out, l, rfl, HL.out, rfl, rfl, HOK.out, HS.out, HU.out⟩⟩
  · have HK : Hid (Kp r w w1) := hK
    have HNO : Hid _ := hno
    clear hK hno hx hy hz
    go_wp2
    exact ⟨rfl, HK.out, .inr ⟨q, rfl, HNO.out⟩⟩

set_option maxRecDepth 100000 in
set_option maxHeartbeats 1000000 in
theorem readWholeV_any (c1 c2 c3 : Value) (s : ByteArray) (w : World) (hm : s.size ≤ maxLen) (el size : Nat) (Q : Nat → List Value → Nat → Prop) (N : Prop)
    (hcl : ∀ (W : World) (r : Nat), Below w.heap.size w W → r = w.heap.size + 1 + 1 → W.heap[r]? = some (rdr s 0) → Calls Try.prog 49 #[.pointer (some ⟨r, 0, none⟩), c1, c2, c3] W fun e w' => Kp r W w' ∧
      ((∃ v n xs q, e = .returned v ∧ w'.heap[r]? = some (rdr s q) ∧ q ≤ s.size ∧ w'.ownsRow W.heap.size el size v n xs ∧ Q n xs q) ∨ (∃ q, e = .panicked (badAt q) ∧ N))) :
    Calls Try.prog 48 #[.string s, .func (.func 49) #[] #[c1, c2, c3]] w fun e w' => Below w.heap.size w w' ∧
      ((∃ v n xs, e = .returned (.tuple #[v, .int .i64 0]) ∧ w'.ownsRow w.heap.size el size v n xs ∧ Q n xs s.size) ∨ (e = .returned (.tuple #[.slice none 0 0, .int .i64 3]) ∧ (N ∨ ∃ n xs q, Q n xs q ∧ q < s.size))) := by
  have HCL : Hid _ := hcl
  clear hcl
  go_enter Try.func48, Try.ntmps48
  go_wp2_with fail
  refine (wholeV_any c1 c2 c3 s w hm el size Q N HCL.out).mono ?_
  rintro e w1 ⟨hB, ⟨v, n, xs, rfl, hown, hQ⟩ | ⟨rfl, hN⟩⟩
  · have HB : Hid _ := hB
    have HO : Hid (w1.ownsRow w.heap.size el size v n xs) := hown
    have HQ : Hid (Q n xs s.size) := hQ
    clear hB hown hQ
    go_wp2
    go_ret2
    exact ⟨HB.out, .inl ⟨v, n, xs, rfl, HO.out, HQ.out⟩⟩
  · have HB : Hid _ := hB
    have HN : Hid _ := hN
    clear hB hN
    go_wp2
    go_ret2
    exact ⟨HB.out, .inr ⟨rfl, HN.out⟩⟩

/-- What is decoded, and that there is nothing else. -/
structure DecOk (s : ByteArray) (k e : Int) (cn : Nat) (l : List Val) : Prop where
  len : l.length = cn
  ok : ∀ x ∈ l, VC k x
  eq : columnB k e l = bytesOf s
  uni : ∀ L : List Val, L.length = cn → (∀ x ∈ L, VC k x) → Starts (bytesOf s) 0 (columnB k e L) → L = l
def DecNo (s : ByteArray) (k e : Int) (cn : Nat) : Prop := ∀ L : List Val, L.length = cn → (∀ x ∈ L, VC k x) → columnB k e L ≠ bytesOf s

theorem col_cases (cn k e : Int) : colE cn k e ≠ 0 ∨ (colE cn k e = 0 ∧ hasEncB k e = true ∧ ∃ c : Nat, cn = (c : Int) ∧ c ≤ 100) := by
  unfold colE
  by_cases h1 : cn < 0 ∨ 100 < cn
  · left; rw [if_pos h1]; omega
  · rw [if_neg h1]
    cases he : hasEncB k e with
    | false => left; simp
    | true => right; exact ⟨by simp, rfl, cn.toNat, by omega, by omega⟩

theorem boxes3 (w : World) (a b c : Obj) : (((w.alloc a).alloc b).alloc c).heap.size = w.heap.size + 3 := by simp

set_option maxRecDepth 100000 in
set_option maxHeartbeats 2000000 in
theorem cDecode_any (s : ByteArray) (k e cn : Int) (w : World) (hm : s.size ≤ maxLen) :
    Calls Try.prog 23 #[.string s, .int .i64 k, .int .i64 e, .int .i64 cn] w fun f w' => Below w.heap.size w w' ∧
      ((colE cn k e ≠ 0 ∧ f = .returned (.tuple #[.slice none 0 0, .int .i64 (colE cn k e)])) ∨
       (∃ c : Nat, cn = (c : Int) ∧ c ≤ 100 ∧ colE cn k e = 0 ∧ hasEncB k e = true ∧ ((∃ v l, f = .returned (.tuple #[v, .int .i64 0]) ∧ w'.ownsRow w.heap.size 39 3 v l.length (vcells l) ∧ DecOk s k e c l) ∨ (f = .returned (.tuple #[.slice none 0 0, .int .i64 3]) ∧ DecNo s k e c)))) := by
  have hB : Below w.heap.size w (((w.alloc (.cells #[.int .i64 k] 3)).alloc (.cells #[.int .i64 e] 3)).alloc (.cells #[.int .i64 cn] 3)) := (((Below.refl _ _).alloc (Nat.le_refl _) _).alloc (by simp) _).alloc (by simp; omega) _
  have HBH : Hid _ := hB
  have H := checkColumn_any cn k e
  have hmf : ∀ (fn : Fn) (first cap : Array Value) (w : World), (Instr.makeFunc fn first cap).run Try.prog w = .ok (.func fn first cap) w := fun _ _ _ _ => rfl
  clear hB
  rcases col_cases cn k e with hne | ⟨h0, henc, c, rfl, hc⟩
  · generalize colE cn k e = E at *
    have hEn : (E != 0) = true := by simpa using hne
    go_enter Try.func23, Try.ntmps23
    go_wp2_with (go_at_call 43; refine (H _).mono ?_; rintro r w' ⟨rfl, rfl⟩)
    go_ret2
    exact ⟨HBH.out, .inl ⟨hne, rfl⟩⟩
  · rw [h0] at H
    have c0 := (one_frozen (three_0 w (.cells #[.int .i64 k] 3 (0, 0)) (.cells #[.int .i64 e] 3 (0, 0)) (.cells #[.int .i64 (c : Int)] 3 (0, 0)))).1
    have c1 := (one_frozen (three_1 w (.cells #[.int .i64 k] 3 (0, 0)) (.cells #[.int .i64 e] 3 (0, 0)) (.cells #[.int .i64 (c : Int)] 3 (0, 0)))).1
    have c2 := (one_frozen (three_2 w (.cells #[.int .i64 k] 3 (0, 0)) (.cells #[.int .i64 e] 3 (0, 0)) (.cells #[.int .i64 (c : Int)] 3 (0, 0)))).1
    have hsz := boxes3 w (.cells #[.int .i64 k] 3) (.cells #[.int .i64 e] 3) (.cells #[.int .i64 (c : Int)] 3)
    have C0 : Hid _ := c0
    have C1 : Hid _ := c1
    have C2 : Hid _ := c2
    have HSZ : Hid _ := hsz
    have HE0 : Hid (colE (c : Int) k e = 0) := h0
    have HENC : Hid (hasEncB k e = true) := henc
    clear c0 c1 c2 hsz h0 henc
    go_enter Try.func23, Try.ntmps23
    go_wp2_with (go_at_call 43; refine (H _).mono ?_; rintro r w' ⟨rfl, rfl⟩)
    generalize (((w.alloc (.cells #[.int .i64 k] 3)).alloc (.cells #[.int .i64 e] 3)).alloc (.cells #[.int .i64 (c : Int)] 3)) = W at *
    have hsz := HSZ.out
    refine (readWholeV_any (.pointer (some ⟨w.heap.size, 0, none⟩)) (.pointer (some ⟨w.heap.size + 1, 0, none⟩)) (.pointer (some ⟨w.heap.size + 1 + 1, 0, none⟩)) s W hm 39 3
      (fun n xs q => ∃ l : List Val, n = c ∧ l.length = c ∧ xs = vcells l ∧ q = (columnB k e l).length ∧ (∀ x ∈ l, VC k x) ∧ Starts (bytesOf s) 0 (columnB k e l) ∧ ∀ L : List Val, L.length = c → (∀ x ∈ L, VC k x) → Starts (bytesOf s) 0 (columnB k e L) → L = l)
      (∀ L : List Val, L.length = c → (∀ x ∈ L, VC k x) → ¬ Starts (bytesOf s) 0 (columnB k e L))
      (fun W2 r hb hr hR => decodeC_any k e HENC.out s r c _ _ _ W2 hm hc hR ((hb.cell (p := ⟨w.heap.size, 0, none⟩) (by show w.heap.size < _; omega)).trans C0.out) ((hb.cell (p := ⟨w.heap.size + 1, 0, none⟩) (by show w.heap.size + 1 < _; omega)).trans C1.out) ((hb.cell (p := ⟨w.heap.size + 1 + 1, 0, none⟩) (by show w.heap.size + 1 + 1 < _; omega)).trans C2.out))).mono ?_
    rintro f w1 ⟨hb, ⟨v, n, xs, rfl, hown, l, rfl, hl, rfl, hq, hok, hs, hu⟩ | ⟨rfl, hN⟩⟩
    · have HB1 : Hid (Below w.heap.size w w1) := HBH.out.trans (hb.mono (by omega))
      have HO : Hid (w1.ownsRow w.heap.size 39 3 v l.length (vcells l)) := by rw [hl]; exact ownsRow_base hown (by omega)
      have HD : Hid (DecOk s k e n l) := ⟨hl, hok, starts_whole hs (by rw [bytesOf_length]; omega), hu⟩
      clear hb hown hq hok hs hu hl
      go_wp2
      go_ret2
      exact ⟨HB1.out, .inr ⟨n, rfl, hc, HE0.out, HENC.out, .inl ⟨v, l, rfl, HO.out, HD.out⟩⟩⟩
    · have HB1 : Hid (Below w.heap.size w w1) := HBH.out.trans (hb.mono (by omega))
      have HD : Hid (DecNo s k e c) := by
        intro L hL hok heq
        rcases hN with hN | ⟨n, xs, q, ⟨l, rfl, hl, rfl, hq, hok2, hs, hu⟩, hlt⟩
        · exact hN L hL hok (starts_of_eq heq)
        · have e1 := hu L hL hok (starts_of_eq heq)
          subst e1
          rw [heq, bytesOf_length] at hq
          omega
      clear hb hN
      go_wp2
      go_ret2
      exact ⟨HB1.out, .inr ⟨c, rfl, hc, HE0.out, HENC.out, .inr ⟨rfl, HD.out⟩⟩⟩
end Go.Proofs.Ytjidbonhhpkljaa.Ec

/- What Back needs: bytes of columns are bytes; the contracts of pick, clean and encodings. -/
set_option linter.unusedVariables false
namespace Go.Proofs.Ytjidbonhhpkljaa.Ec
open Go.RowKit Go.Proofs.Ytjidbonhhpkljaa.Pk Go.Proofs.Ytjidbonhhpkljaa.Pm

theorem vint_lt (n : Nat) : ∀ x ∈ vint n, x < 256 := vintF_lt 10 n
theorem runsF_lt (f : Nat) (l : List Int) : ∀ x ∈ runsF f l, x < 256 := by
  induction f generalizing l with
  | zero => simp [runsF]
  | succ f ih =>
    cases l with
    | nil => simp [runsF]
    | cons y r =>
      intro x hx
      simp only [runsF] at hx
      rcases List.mem_append.1 hx with h | h
      · exact vint_lt _ x h
      · rcases List.mem_append.1 h with h | h
        · simp at h; rw [h]; exact byteOf_lt _
        · exact ih _ x h
theorem plainB_lt (k : Int) (v : Val) : ∀ x ∈ plainB k v, x < 256 := by
  intro x hx
  unfold plainB at hx
  split at hx
  · exact vint_lt _ x hx
  · split at hx
    · simp at hx; rw [hx]; exact byteOf_lt _
    · rcases List.mem_append.1 hx with h | h
      · exact vint_lt _ x h
      · exact bytesOf_lt _ x h
theorem plainsB_lt (k : Int) (l : List Val) : ∀ x ∈ plainsB k l, x < 256 := by
  intro x hx
  unfold plainsB at hx
  obtain ⟨v, _, hv⟩ := List.mem_flatMap.1 hx
  exact plainB_lt k v x hv
theorem deltaF_lt (a : Int) (l : List Val) : ∀ x ∈ deltaF a l, x < 256 := by
  induction l generalizing a with
  | nil => simp [deltaF]
  | cons y r ih =>
    intro x hx
    simp only [deltaF] at hx
    rcases List.mem_append.1 hx with h | h
    · exact vint_lt _ x h
    · exact ih _ x h
theorem columnB_lt (k e : Int) (l : List Val) : ∀ x ∈ columnB k e l, x < 256 := by
  intro x hx
  unfold columnB at hx
  rcases List.mem_append.1 hx with h | h
  · exact runsF_lt _ _ x h
  · unfold codedB at h
    split at h
    · exact deltaF_lt _ _ x h
    · split at h
      · unfold dictB at h
        rcases List.mem_append.1 h with h | h
        · exact vint_lt _ x h
        · rcases List.mem_append.1 h with h | h
          · exact plainsB_lt _ _ x h
          · exact packBytes_lt _ _ x h
      · split at h
        · exact runsF_lt _ _ x h
        · exact plainsB_lt _ _ x h

/-- What Encode gives is decoded; what is longer or shorter is not. -/
theorem dec_there {k e : Int} {l : List Val} (hok : ∀ x ∈ l, VC k x) : ¬ DecNo (strOf (columnB k e l)) k e l.length := fun h => h l rfl hok (by rw [bytesOf_strOf _ (columnB_lt k e l)])
theorem dec_same {k e : Int} {l l' : List Val} (hok : ∀ x ∈ l, VC k x) (h : DecOk (strOf (columnB k e l)) k e l.length l') : l' = l :=
  (h.uni l rfl hok (starts_of_eq (by rw [bytesOf_strOf _ (columnB_lt k e l)]))).symm
theorem dec_longer {k e : Int} {l l' : List Val} (hok : ∀ x ∈ l, VC k x) : ¬ DecOk (strOf (columnB k e l) ++ strOf [0]) k e l.length l' := by
  intro h
  have hb : bytesOf (strOf (columnB k e l) ++ strOf [0]) = columnB k e l ++ [0] := by
    rw [← strOf_append, bytesOf_strOf]
    intro x hx
    rcases List.mem_append.1 hx with h1 | h1
    · exact columnB_lt k e l x h1
    · simp at h1; omega
  have h1 := h.uni l rfl hok (by rw [hb]; unfold Starts; rw [List.drop_zero]; exact List.prefix_append _ _)
  subst h1
  have h2 := h.eq
  rw [hb] at h2
  have := congrArg List.length h2
  simp at this
theorem dec_shorter {k e : Int} {l l' : List Val} {s : ByteArray} (hok : ∀ x ∈ l, VC k x) (hs : bytesOf s = (columnB k e l).take ((columnB k e l).length - 1)) (hne : columnB k e l ≠ []) (h : DecOk (strOf (columnB k e l)) k e l.length l) : ¬ DecOk s k e l.length l' := by
  intro h'
  have h1 := h.uni l' h'.len h'.ok (by
    rw [bytesOf_strOf _ (columnB_lt k e l), h'.eq, hs]
    unfold Starts
    rw [List.drop_zero]
    exact List.take_prefix _ _)
  subst h1
  have h2 := h'.eq
  rw [hs] at h2
  have h3 := congrArg List.length h2
  rw [List.length_take] at h3
  have h4 : 0 < (columnB k e l').length := List.length_pos_iff.2 hne
  omega

theorem tmod_pos (a n : Int) (ha : 0 ≤ a) (hn : 0 < n) : 0 ≤ a.tmod n ∧ a.tmod n < n := by
  rw [Int.tmod_eq_emod_of_nonneg ha]
  exact ⟨Int.emod_nonneg _ (by omega), Int.emod_lt_of_pos _ hn⟩
theorem tmod_neg (a n : Int) (ha : a ≤ 0) (hn : 0 < n) : 0 ≤ -(a.tmod n) ∧ -(a.tmod n) < n := by
  have := tmod_pos (-a) n (by omega) hn
  rwa [Int.neg_tmod] at this

set_option maxRecDepth 100000 in
set_option maxHeartbeats 1000000 in
theorem pick_any (c n : Int) (w : World) (hn : n = 2 ∨ n = 3) (h0 : -9223372036854775808 ≤ c) (h1 : c ≤ 9223372036854775807) : Calls Try.prog 20 #[.int .i64 c, .int .i64 n] w fun e w' => w' = w ∧ ∃ r, e = .returned (.int .i64 r) ∧ 0 ≤ r ∧ r < n := by
  by_cases hc : c < 0
  · have e1 : wrap64 (c + 1) = c + 1 := by unfold wrap64; omega
    have e2 : wrap64 (-(c + 1)) = -(c + 1) := by unfold wrap64; omega
    rcases hn with rfl | rfl
    · go_enter Try.func20, Try.ntmps20
      go_wp2
      go_ret
      exact ⟨rfl, _, rfl, tmod_neg (c + 1) 2 (by omega) (by omega)⟩
    · go_enter Try.func20, Try.ntmps20
      go_wp2
      go_ret
      exact ⟨rfl, _, rfl, tmod_neg (c + 1) 3 (by omega) (by omega)⟩
  · rcases hn with rfl | rfl
    · go_enter Try.func20, Try.ntmps20
      go_wp2
      go_ret
      exact ⟨rfl, _, rfl, by omega, by omega⟩
    · go_enter Try.func20, Try.ntmps20
      go_wp2
      go_ret
      exact ⟨rfl, _, rfl, by omega, by omega⟩

/-- A box that is written anew, above all that was there. -/
theorem box_below {w W w1 : World} {g : Nat} {a b c : Value} (a' b' c' : Value) {t : TypeId} (h : w1.heap[g]? = some (.cells #[a, b, c] t (0, 0))) (hb : Below w.heap.size w w1) (hg : w.heap.size ≤ g) :
    let W := ((w1.setCell ⟨g, 0, none⟩ a').setCell ⟨g, 1, none⟩ b').setCell ⟨g, 2, none⟩ c'
    W.cell? ⟨g, 0, none⟩ = some a' ∧ W.cell? ⟨g, 1, none⟩ = some b' ∧ W.cell? ⟨g, 2, none⟩ = some c' ∧ Below w.heap.size w W := by
  have h1 : (w1.setCell ⟨g, 0, none⟩ a').heap[g]? = some (.cells #[a', b, c] t (0, 0)) := by rw [heap_setCell_same w1 g 0 _ _ _ h]; rfl
  have h2 : ((w1.setCell ⟨g, 0, none⟩ a').setCell ⟨g, 1, none⟩ b').heap[g]? = some (.cells #[a', b', c] t (0, 0)) := by rw [heap_setCell_same _ g 1 _ _ _ h1]; rfl
  have h3 : (((w1.setCell ⟨g, 0, none⟩ a').setCell ⟨g, 1, none⟩ b').setCell ⟨g, 2, none⟩ c').heap[g]? = some (.cells #[a', b', c'] t (0, 0)) := by rw [heap_setCell_same _ g 2 _ _ _ h2]; rfl
  obtain ⟨c0, c1, c2, _⟩ := box_cells h3
  exact ⟨c0, c1, c2, ((hb.setCell hg _).setCell hg _).setCell hg _⟩

theorem two_boxes (w : World) (a b : Obj) : ((w.alloc a).alloc b).heap[w.heap.size + 1]? = some b := by
  have := heap_alloc_new (w.alloc a) b
  rwa [show (w.alloc a).heap.size = w.heap.size + 1 from by simp] at this
theorem two_first (w : World) (a b : Obj) : ((w.alloc a).alloc b).heap[w.heap.size]? = some a := by
  rw [Below.heap_alloc _ _ _ (by simp)]; exact heap_alloc_new w a

set_option maxRecDepth 100000 in
set_option maxHeartbeats 2000000 in
theorem clean_any (x : Val) (k : Int) (w : World) (hk : k = 1 ∨ k = 2 ∨ k = 3) (hx : VIn x) (hs : x.s.size ≤ maxLen) :
    Calls Try.prog 21 #[.agg #[.bool x.null, .int .i64 x.n, .string x.s], .int .i64 k] w fun e w' => Below w.heap.size w w' ∧ ∃ y : Val, e = .returned (.agg #[.bool y.null, .int .i64 y.n, .string y.s]) ∧ VC k y := by
  have HB : Hid (∀ a b : Obj, Below w.heap.size w ((w.alloc a).alloc b)) := fun a b => ((Below.refl _ _).alloc (Nat.le_refl _) _).alloc (by simp) _
  have hlo := hx.lo
  have hhi := hx.hi
  clear hx
  cases hnull : x.null with
  | true =>
    go_enter Try.func21, Try.ntmps21
    go_wp2
    simp [bodyPost, results, Try.results21, go_sem]
    exact ⟨HB.out _ _, ⟨true, 0, ⟨#[]⟩⟩, ⟨rfl, rfl, rfl⟩, .inl ⟨rfl, rfl, rfl⟩⟩
  | false =>
    rcases hk with rfl | rfl | rfl
    · go_enter Try.func21, Try.ntmps21
      go_wp2
      simp [bodyPost, results, Try.results21, go_sem]
      exact ⟨HB.out _ _, ⟨false, x.n, ⟨#[]⟩⟩, ⟨rfl, rfl, rfl⟩, .inr ⟨rfl, hlo, hhi, fun _ => rfl, fun h => by omega, fun h => by omega⟩⟩
    · have HP : Hid (∀ w, Calls Try.prog 20 #[.int .i64 x.n, .int .i64 2] w fun e w' => w' = w ∧ ∃ r, e = .returned (.int .i64 r) ∧ 0 ≤ r ∧ r < 2) := fun w => pick_any x.n 2 w (.inl rfl) hlo hhi
      go_enter Try.func21, Try.ntmps21
      go_wp2_with (go_at_call 20; refine (HP.out _).mono ?_; rintro e w' ⟨hw, r, rfl, hr0, hr1⟩; rw [hw]; clear hw w')
      simp [bodyPost, results, Try.results21, go_sem]
      exact ⟨HB.out _ _, ⟨false, r, ⟨#[]⟩⟩, ⟨rfl, rfl, rfl⟩, .inr ⟨rfl, by show _ ≤ r; omega, by show r ≤ _; omega, fun h => by omega, fun _ => ⟨by show r = 0 ∨ r = 1; omega, rfl⟩, fun h => by omega⟩⟩
    · unfold maxLen at hs
      by_cases hbig : 32 < x.s.size
      · have hxe : (x.s.extract 0 32).size = 32 := by rw [ByteArray.size_extract]; omega
        go_enter Try.func21, Try.ntmps21
        go_wp2
        simp [bodyPost, results, Try.results21, go_sem]
        exact ⟨HB.out _ _, ⟨false, 0, x.s.extract 0 32⟩, ⟨rfl, rfl, rfl⟩, .inr ⟨rfl, by show _ ≤ (0 : Int); omega, by show (0 : Int) ≤ _; omega, fun h => by omega, fun h => by omega, fun _ => ⟨rfl, by show (x.s.extract 0 32).size ≤ 32; omega⟩⟩⟩
      · go_enter Try.func21, Try.ntmps21
        go_wp2
        simp [bodyPost, results, Try.results21, go_sem]
        exact ⟨HB.out _ _, ⟨false, 0, x.s⟩, ⟨rfl, rfl, rfl⟩, .inr ⟨rfl, by show _ ≤ (0 : Int); omega, by show (0 : Int) ≤ _; omega, fun h => by omega, fun h => by omega, fun _ => ⟨rfl, by show x.s.size ≤ 32; omega⟩⟩⟩

theorem rows_at (w : World) (l : List Int) (t : TypeId) : ∀ j, j < l.length → (w.alloc (.cells (l.map (fun z => Value.int .i64 z)).toArray t)).cell? ⟨w.heap.size, 0 + j, none⟩ = some (.int .i64 (l.getD j 0)) := by
  intro j hj
  have : (w.alloc (.cells (l.map (fun z => Value.int .i64 z)).toArray t)).heap[w.heap.size]? = some (.cells (l.map (fun z => Value.int .i64 z)).toArray t (0, 0)) := heap_alloc_new w _
  simp only [World.cell?]
  rw [this]
  simp [hj, List.getD]

/-- The encodings of a kind. -/
def encsOf (k : Int) : List Int := if k = 1 then [0, 1, 2] else if k = 2 then [0, 2, 3] else [0, 2]
theorem encs_ok (k : Int) (hk : k = 1 ∨ k = 2 ∨ k = 3) : ∀ e ∈ encsOf k, hasEncB k e = true := by
  rcases hk with rfl | rfl | rfl <;> decide
theorem encs_len (k : Int) : (encsOf k).length ≤ 3 := by
  unfold encsOf
  split
  · decide
  · split <;> decide

set_option maxRecDepth 100000 in
set_option maxHeartbeats 1000000 in
theorem encodings_any (k : Int) (w : World) (hk : k = 1 ∨ k = 2 ∨ k = 3) : Calls Try.prog 22 #[.int .i64 k] w fun e w' => Below w.heap.size w w' ∧ w.heap.size < w'.heap.size ∧ e = .returned (.slice (some ⟨w.heap.size, 0, none⟩) (encsOf k).length (encsOf k).length) ∧ ∀ j, j < (encsOf k).length → w'.cell? ⟨w.heap.size, 0 + j, none⟩ = some (.int .i64 ((encsOf k).getD j 0)) := by
  rcases hk with rfl | rfl | rfl
  · have H := rows_at w [0, 1, 2] 3
    go_enter Try.func22, Try.ntmps22
    go_wp2
    go_ret
    exact ⟨(Below.refl _ _).alloc (Nat.le_refl _) _, by simp, rfl, H⟩
  · have H := rows_at w [0, 2, 3] 3
    go_enter Try.func22, Try.ntmps22
    go_wp2
    go_ret
    exact ⟨(Below.refl _ _).alloc (Nat.le_refl _) _, by simp, rfl, H⟩
  · have H := rows_at w [0, 2] 3
    go_enter Try.func22, Try.ntmps22
    go_wp2
    go_ret
    exact ⟨(Below.refl _ _).alloc (Nat.le_refl _) _, by simp, rfl, H⟩
end Go.Proofs.Ytjidbonhhpkljaa.Ec

/- Files as plain data: what the bands of a table that may be are. -/
set_option linter.unusedVariables false
namespace Go.Proofs.Ytjidbonhhpkljaa.Ec
open Go.RowKit Go.Proofs.Ytjidbonhhpkljaa.Pk Go.Proofs.Ytjidbonhhpkljaa.Pm

theorem names_of_ok {cs : List Col} (h : ColsOk cs) : ∀ c ∈ cs, c.name.size ≤ 16 := by
  intro c hc
  obtain ⟨i, hi, rfl⟩ := List.getElem_of_mem hc
  have := (h.2.2 i hi).1
  simp [colOk] at this
  omega
theorem bstep_ok {P : Val → Prop} {b : Bnd} {v : Val} (h1 : P b.least) (h2 : P b.most) (hv : P v) : P (bstep b v).least ∧ P (bstep b v).most := by
  unfold bstep
  split
  · exact ⟨h1, h2⟩
  · dsimp only
    constructor <;> split <;> assumption
theorem boundsP_ok {P : Val → Prop} (h0 : P ⟨false, 0, ⟨#[]⟩⟩) (l : List Val) (h : ∀ x ∈ l, P x) : P (boundsP l).least ∧ P (boundsP l).most := by
  have : ∀ (l : List Val) (b : Bnd), P b.least → P b.most → (∀ x ∈ l, P x) → P (l.foldl bstep b).least ∧ P (l.foldl bstep b).most := by
    intro l
    induction l with
    | nil => intro b h1 h2 _; exact ⟨h1, h2⟩
    | cons x r ih =>
      intro b h1 h2 h
      rw [List.foldl_cons]
      have hs := bstep_ok h1 h2 (h x (by simp))
      exact ih _ hs.1 hs.2 (fun y hy => h y (by simp [hy]))
  exact this l noBnd h0 h0 h
theorem vok_zero : VOk ⟨false, 0, ⟨#[]⟩⟩ := ⟨by decide, by decide, by decide⟩

theorem runsB_pos {l : List Int} (h : 0 < l.length) : 0 < (runsB l).length := by
  cases l with
  | nil => simp at h
  | cons x r =>
    unfold runsB runsF
    simp
    omega
theorem columnB_pos {k e : Int} {l : List Val} (h : 0 < l.length) : 0 < (columnB k e l).length := by
  unfold columnB
  rw [List.length_append]
  have := runsB_pos (l := l.map lev) (by simpa using h)
  omega
theorem columnB_le {k e : Int} {l : List Val} (h : ∀ x ∈ l, VOk x) (hl : l.length ≤ 100) : (columnB k e l).length ≤ 110000 := by
  unfold columnB
  rw [List.length_append]
  have h1 := runsB_length (l.map lev) (by simpa using hl)
  have h2 := codedB_length k e (there l) (fun x hx => h x (there_mem hx)) (by have := there_length l; omega)
  omega

/-- What is known of a table that may be, with values of 64 bits. -/
structure Tbl (cs : List Col) (rows : List (List Val)) (es : List Int) (bd : Nat) : Prop where
  table : TableOk cs rows
  encs : EncsOk cs es
  lo : 1 ≤ bd
  hi : bd ≤ 100
  vals : ∀ r ∈ rows, ∀ x ∈ r, VIn x
theorem Tbl.len {cs : List Col} {rows : List (List Val)} {es : List Int} {bd : Nat} (h : Tbl cs rows es bd) : ∀ r ∈ rows, r.length = cs.length := by
  intro r hr
  obtain ⟨i, hi, rfl⟩ := List.getElem_of_mem hr
  exact (h.table.2.2 i hi).1
theorem cutR_mem {rows : List (List Val)} {bd j : Nat} {r : List Val} (h : r ∈ cutR rows bd j) : r ∈ rows := List.mem_of_mem_drop (List.mem_of_mem_take h)
/-- The values of a column of a band. -/
theorem Tbl.col {cs : List Col} {rows : List (List Val)} {es : List Int} {bd : Nat} (h : Tbl cs rows es bd) (j p : Nat) (hp : p < cs.length) : ∀ x ∈ colVals (cutR rows bd j) p, mayB x cs[p].kind = true ∧ VOk x := by
  intro x hx
  unfold colVals at hx
  obtain ⟨r, hr, rfl⟩ := List.mem_map.1 hx
  have hr2 := cutR_mem hr
  obtain ⟨i, hi, hri⟩ := List.getElem_of_mem hr2
  have hrow := h.table.2.2 i hi
  rw [hri] at hrow
  have hpl : p < r.length := by rw [hrow.1]; exact hp
  have hm := hrow.2 p hpl hp
  rw [List.getD_eq_getElem?_getD, List.getElem?_eq_getElem hpl]
  exact ⟨hm, vok_of_may (h.vals r hr2 _ (List.getElem_mem hpl)) hm⟩
theorem Tbl.cut {cs : List Col} {rows : List (List Val)} {es : List Int} {bd : Nat} (h : Tbl cs rows es bd) (j p : Nat) : (colVals (cutR rows bd j) p).length ≤ 100 := by
  rw [colVals_length, cutR_length]
  have := h.hi
  omega
theorem Tbl.elen {cs : List Col} {rows : List (List Val)} {es : List Int} {bd : Nat} (h : Tbl cs rows es bd) : es.length = cs.length := h.encs.1.symm
/-- The chunk, as the document has it. -/
theorem Tbl.chk {cs : List Col} {rows : List (List Val)} {es : List Int} {bd : Nat} (h : Tbl cs rows es bd) (bo : Bool) (j p : Nat) (hp : p < cs.length) :
    chkP (cutR rows bd j) cs es bo p = ⟨strOf (columnB cs[p].kind (es.getD p 0) (colVals (cutR rows bd j) p)), if bo then boundsP (colVals (cutR rows bd j) p) else noBnd⟩ := by
  rw [chkP_at hp (by rw [h.elen]; exact hp)]
  have hc := h.col j p hp
  rw [enc_ok (by have := h.cut j p; omega) (h.encs.2 p hp) (fun i hi => (hc _ (List.getElem_mem hi)).1)]
theorem Tbl.chunks {cs : List Col} {rows : List (List Val)} {es : List Int} {bd : Nat} (h : Tbl cs rows es bd) (bo : Bool) (j : Nat) : ∀ c ∈ chksP (cutR rows bd j) cs es bo cs.length, c.text.size ≤ 110000 ∧ VOk c.bnd.least ∧ VOk c.bnd.most ∧ (j * bd < rows.length → 0 < c.text.size) := by
  intro c hc
  unfold chksP at hc
  obtain ⟨p, hp, rfl⟩ := List.mem_map.1 hc
  have hp := List.mem_range.1 hp
  rw [h.chk bo j p hp]
  have hv : ∀ x ∈ colVals (cutR rows bd j) p, VOk x := fun x hx => (h.col j p hp x hx).2
  have hb := boundsP_ok vok_zero _ hv
  have hb2 : VOk (if bo = true then boundsP (colVals (cutR rows bd j) p) else noBnd).least ∧ VOk (if bo = true then boundsP (colVals (cutR rows bd j) p) else noBnd).most := by
    cases bo
    · exact ⟨vok_zero, vok_zero⟩
    · exact hb
  refine ⟨?_, hb2.1, hb2.2, fun hj => ?_⟩
  · show (strOf _).size ≤ _
    rw [strOf_size]
    exact columnB_le hv (h.cut j p)
  · show 0 < (strOf _).size
    rw [strOf_size]
    refine columnB_pos ?_
    rw [colVals_length, cutR_length]
    have := h.lo
    omega
theorem Tbl.band {cs : List Col} {rows : List (List Val)} {es : List Int} {bd : Nat} (h : Tbl cs rows es bd) (bo : Bool) (j : Nat) : BdOk cs.length (bandP (cutR rows bd j) cs es bo) := by
  have hc := h.chunks bo j
  refine ⟨?_, chksP_length _ _ _ _ _, fun c hx => ?_, fun c hx => (hc c hx).2.1, fun c hx => (hc c hx).2.2.1⟩
  · show (cutR rows bd j).length < _
    rw [cutR_length]
    have := h.hi
    omega
  · have := (hc c hx).1
    omega
theorem Tbl.nb {cs : List Col} {rows : List (List Val)} {es : List Int} {bd : Nat} (h : Tbl cs rows es bd) : bandN rows.length bd ≤ 2000 := by
  have h1 := h.table.2.1
  have h2 := h.lo
  unfold bandN
  have := Nat.div_le_self (rows.length + bd - 1) bd
  rcases Nat.lt_or_ge bd 2 with h3 | h3
  · have : bd = 1 := by omega
    subst this
    simp
    omega
  · have h4 := Nat.div_mul_le_self (rows.length + bd - 1) bd
    have h5 : (rows.length + bd - 1) / bd * 2 ≤ (rows.length + bd - 1) / bd * bd := Nat.mul_le_mul_left _ h3
    have := h.hi
    omega
theorem Tbl.bands {cs : List Col} {rows : List (List Val)} {es : List Int} {bd : Nat} (h : Tbl cs rows es bd) (bo : Bool) (n : Nat) : ∀ b ∈ bandsP rows cs es bo bd n, BdOk cs.length b := by
  intro b hb
  unfold bandsP at hb
  obtain ⟨j, -, rfl⟩ := List.mem_map.1 hb
  exact h.band bo j
theorem Tbl.pos {cs : List Col} {rows : List (List Val)} {es : List Int} {bd : Nat} (h : Tbl cs rows es bd) (bo : Bool) : ∀ b ∈ bandsP rows cs es bo bd (bandN rows.length bd), ∀ c ∈ b.chunks, 0 < c.text.size := by
  intro b hb c hc
  unfold bandsP at hb
  obtain ⟨j, hj, rfl⟩ := List.mem_map.1 hb
  exact (h.chunks bo j c hc).2.2.2 ((bandN_lt h.lo j).2 (List.mem_range.1 hj))
theorem Tbl.body {cs : List Col} {rows : List (List Val)} {es : List Int} {bd : Nat} (h : Tbl cs rows es bd) (bo : Bool) : (bodyB (bandsP rows cs es bo bd (bandN rows.length bd))).length ≤ 10000000000 := by
  have h1 := flat_le (fun b : Bd => textB b.chunks) 880000 (bandsP rows cs es bo bd (bandN rows.length bd)) (fun b hb => by
    unfold bandsP at hb
    obtain ⟨j, -, rfl⟩ := List.mem_map.1 hb
    have h2 := flat_le (fun c : Chk => bytesOf c.text) 110000 (chksP (cutR rows bd j) cs es bo cs.length) (fun c hc => by rw [bytesOf_length]; exact (h.chunks bo j c hc).1)
    have h3 := h.table.1.2.1
    rw [chksP_length] at h2
    show (List.flatMap _ _).length ≤ _
    have : (bandP (cutR rows bd j) cs es bo).chunks = chksP (cutR rows bd j) cs es bo cs.length := rfl
    rw [this]
    omega)
  have h4 := h.nb
  rw [bandsP_length] at h1
  show (List.flatMap _ _).length ≤ _
  omega

/-- The bytes of a file. -/
def wfile (cs : List Col) (rows : List (List Val)) (es : List Int) (bo : Bool) (bd : Nat) : List Nat := fileB cs es (bandsP rows cs es bo bd (bandN rows.length bd))
/-- What Write answers. -/
def WRes (cs : List Col) (rows : List (List Val)) (bd : Int) (es : List Int) (bo : Bool) (s : ByteArray) (n : Int) : Prop :=
  (¬ TableOk cs rows ∧ s = ⟨#[]⟩ ∧ n = 1) ∨ (TableOk cs rows ∧ ¬ OptsOk bd es cs ∧ s = ⟨#[]⟩ ∧ n = 2) ∨
  (TableOk cs rows ∧ OptsOk bd es cs ∧ 65536 < (wfile cs rows es bo bd.toNat).length ∧ s = ⟨#[]⟩ ∧ n = 6) ∨
  (TableOk cs rows ∧ OptsOk bd es cs ∧ ¬ 65536 < (wfile cs rows es bo bd.toNat).length ∧ s = strOf (wfile cs rows es bo bd.toNat) ∧ n = 0)
theorem WRes.uni {cs : List Col} {rows : List (List Val)} {bd : Int} {es : List Int} {bo : Bool} {s s' : ByteArray} {n n' : Int} (h : WRes cs rows bd es bo s n) (h' : WRes cs rows bd es bo s' n') : s = s' ∧ n = n' := by
  rcases h with ⟨a, rfl, rfl⟩ | ⟨a, b, rfl, rfl⟩ | ⟨a, b, c, rfl, rfl⟩ | ⟨a, b, c, rfl, rfl⟩ <;> rcases h' with ⟨a', rfl, rfl⟩ | ⟨a', b', rfl, rfl⟩ | ⟨a', b', c', rfl, rfl⟩ | ⟨a', b', c', rfl, rfl⟩ <;>
    first | exact ⟨rfl, rfl⟩ | exact absurd a' a | exact absurd a a' | exact absurd b' b | exact absurd b b' | exact absurd c' c | exact absurd c c'
end Go.Proofs.Ytjidbonhhpkljaa.Ec
