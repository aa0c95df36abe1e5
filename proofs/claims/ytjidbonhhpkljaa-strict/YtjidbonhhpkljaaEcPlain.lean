/- Single values as Plain: as a plain function, and the contracts on both sides. -/
import Derived.Test.YtjidbonhhpkljaaEcRunsR
import Derived.Lib.AppendStr
set_option linter.unusedVariables false
namespace Go.Proofs.Ytjidbonhhpkljaa.Ec
open Go.RowKit Go.Proofs.Ytjidbonhhpkljaa.Pk Go.Proofs.Ytjidbonhhpkljaa.Pm

theorem strOf_bytesOf (s : ByteArray) : strOf (bytesOf s) = s := by
  unfold strOf bytesOf strOfNums
  apply ByteArray.ext
  apply Array.ext'
  have h : ∀ x : UInt8, ((fun n : Int => UInt8.ofNat n.toNat) ∘ (fun n : Nat => (n : Int)) ∘ UInt8.toNat) x = x := fun x => by simp
  simp
  rw [List.map_congr_left (fun x _ => h x)]
  simp
theorem bytesOf_length (s : ByteArray) : (bytesOf s).length = s.size := by
  unfold bytesOf
  simp
theorem strCells_bytes (s : ByteArray) : Lib.strCells s = bcells (bytesOf s) := by
  unfold Lib.strCells bcells bytesOf
  simp
theorem bytesOf_lt (s : ByteArray) : ∀ x ∈ bytesOf s, x < 256 := by
  intro x hx
  unfold bytesOf at hx
  obtain ⟨y, _, rfl⟩ := List.mem_map.1 hx
  exact y.toNat_lt

/-- 'append(b, s...)', s a string: the row lies where it lay, or in new memory. -/
theorem run_append_str_keep {P : Program} (w : World) (base : Nat) (t u ty e : TypeId) (i : TypeInfo) (ht : P.underlying t = some (.slice e)) (hu : P.underlying u = some .string) (hi : P.info? e = some i) (hz : i.zero = some (.int .u8 0))
    (hsize : i.size = 1) (hby : i.bytes = 1) (v : Value) (n : Nat) (xs : List Value) (hown : w.ownsRow base e 1 v n xs) (s : ByteArray)
    (h63 : n + s.size ≤ maxLen) (hbytes : n + s.size ≤ 140737488355328) (hbase : base ≤ w.heap.size) :
    ∃ v' w', (Builtin.append_ #[t, u] ty #[v, .string s]).run P w = .ok v' w' ∧ w'.ownsRow base e 1 v' (n + s.size) (xs ++ Lib.strCells s) ∧ Grew w w' v v' := by
  obtain ⟨v', w', hr, ho, hg, hn⟩ := Lib.run_append_own_string (P := P) w base t u ty e i ht hu hi hz hsize hby v n xs hown s h63 hbytes hbase
  refine ⟨v', w', hr, ho, hg, ?_⟩
  unfold maxLen at h63
  rcases hown.2 with ⟨rfl, rfl⟩ | ⟨g, cap, cur, rfl, hbg, hgb, hnc, hcm, hcs, htake⟩
  · by_cases hs : s.size = 0
    · rw [hn.2 ⟨rfl, hs⟩]
      exact fun _ h => .inl h
    · have h2 := Lib.run_append_own_string (P := P) w w.heap.size t u ty e i ht hu hi hz hsize hby _ 0 xs ⟨hown.1, .inl ⟨rfl, rfl⟩⟩ s h63 hbytes (Nat.le_refl _)
      obtain ⟨v2, w2, hr2, ho2, -, -⟩ := h2
      rw [hr] at hr2
      cases hr2
      exact fun k hk => .inr (ho2.lt k hk).1
  · by_cases hroom : n + s.size ≤ cap
    · by_cases hc0 : 0 < cap
      · obtain ⟨w2, hr2, -, -⟩ : ∃ w2, (Builtin.append_ #[t, u] ty #[.slice (some ⟨g, 0, none⟩) n cap, .string s]).run P w = .ok (.slice (some ⟨g, 0, none⟩) (n + s.size) cap) w2 ∧ True ∧ True := by
          have hcs' : cur.size = cap := by simpa using hcs
          exact ⟨_, Lib.run_append_room_string (P := P) w t u ty e i ht hu hi hsize g n cap cur hgb s hroom (by omega), trivial, trivial⟩
        rw [hr] at hr2
        cases hr2
        exact fun k hk => .inl hk
      · have hcs' : cur.size = cap := by simpa using hcs
        have hr2 := Lib.run_append_room_string (P := P) w t u ty e i ht hu hi hsize g n cap cur hgb s hroom (by omega)
        rw [hr] at hr2
        cases hr2
        exact fun k hk => .inl hk
    · have hxl : xs.length = n := by simpa using hown.1
      have hr2 := Lib.run_append_grow_string (P := P) w t u ty e i (.int .u8 0) ht hu hi hz ⟨g, 0, none⟩ n cap xs (by rw [hsize]; simpa using hxl) (hown.cells (g := g) rfl) s (by omega) (by omega) (by rw [hby]; exact growslice_fits (by omega) (by omega))
      rw [hr] at hr2
      cases hr2
      intro k hk
      simp [Value.ownBlock] at hk
      exact .inr (by omega)

theorem wpList_append_str_keep {P : Program} (w : World) {ops : Array Oper} {rest : List Oper} {o : Oper} {a : Act} {Q : Exit → Act → World → Prop} (hgd : o.guard = none) (sl x : Operand) (t u : TypeId)
    (ho : o.op = .call { callee := .builtin .append, args := #[sl, x], argTypes := #[t, u] })
    (base : Nat) (e : TypeId) (i : TypeInfo) (ht : P.underlying t = some (.slice e)) (hu : P.underlying u = some .string) (hi : P.info? e = some i) (hz : i.zero = some (.int .u8 0))
    (hsize : i.size = 1) (hby : i.bytes = 1) (v : Value) (n : Nat) (xs : List Value) (hs : a.eval sl = v) (hown : w.ownsRow base e 1 v n xs) (s : ByteArray) (hx : a.eval x = .string s)
    (h63 : n + s.size ≤ maxLen) (hbytes : n + s.size ≤ 140737488355328) (hbase : base ≤ w.heap.size)
    (h : ∀ v' w', w'.ownsRow base e 1 v' (n + s.size) (xs ++ Lib.strCells s) → Grew w w' v v' → wpList P ops Q rest (a.put o.dst v') w') : wpList P ops Q (o :: rest) a w := by
  refine wpList_plain hgd fun K hK => ?_
  obtain ⟨v', w', hr, h2, h3⟩ := run_append_str_keep (P := P) w base t u o.type e i ht hu hi hz hsize hby v n xs hown s h63 hbytes hbase
  unfold Oper.wp execOp
  simp only [ho, resolve, invoke, builtin, Sem.run_bind, Sem.run_pure, Result.andThen_ok, List.map_toArray, List.map_cons, List.map_nil, hs, hx, hr]
  exact hK _ _ (h v' w' h2 h3)

/-- A value as Plain. -/
def plainB (k : Int) (v : Val) : List Nat := if k = 1 then vint (zz v.n) else if k = 2 then [byteOf v.n] else vint v.s.size ++ bytesOf v.s

theorem plainB_length (k : Int) (v : Val) (h : v.s.size ≤ 32) : (plainB k v).length ≤ 42 := by
  have h1 := vintF_length 10 (zz v.n)
  have h2 := vintF_length 10 v.s.size
  unfold plainB
  split
  · unfold vint; omega
  · split
    · simp
    · rw [List.length_append, bytesOf_length]; unfold vint; omega

/-- What is asked of a value ahead of being written. -/
structure VOk (v : Val) : Prop where
  lo : -9223372036854775808 ≤ v.n
  hi : v.n ≤ 9223372036854775807
  sz : v.s.size ≤ 32

theorem Grew.box {w w1 : World} {v v1 : Value} {o : Obj} (h : Grew (w.alloc o) w1 v v1) : Grew w w1 v v1 := ((Grew.refl w v).alloc o).trans h
theorem below_box {w w1 : World} {o : Obj} (h : Below (w.alloc o).heap.size (w.alloc o) w1) : Below w.heap.size w w1 :=
  ((Below.refl _ _).alloc (Nat.le_refl _) o).trans (h.mono (by simp))

theorem box_two {w w1 : World} {a b c : Value} {t : TypeId} (h : Below ((w.alloc (.cells #[a, b, c] t)).drew).heap.size (w.alloc (.cells #[a, b, c] t)).drew w1) : w1.cell? ⟨w.heap.size, 2, none⟩ = some c :=
  (h.cell (p := ⟨w.heap.size, 2, none⟩) (by simp)).trans (by simp)

set_option maxRecDepth 100000 in
set_option maxHeartbeats 2000000 in
theorem plain_any (v : Val) (k : Int) (w : World) (hk : k = 1 ∨ k = 2 ∨ k = 3) (hv : VOk v) :
    Calls Try.prog 88 #[.agg #[.bool v.null, .int .i64 v.n, .string v.s], .int .i64 k] w fun e w' => e = .returned (.string (strOf (plainB k v))) ∧ Below w.heap.size w w' := by
  obtain ⟨h0, h1, h2⟩ := hv
  rcases hk with rfl | rfl | rfl
  · rw [show plainB 1 v = vint (zz v.n) from by simp [plainB]]
    have HZ := zigzag_any v.n h0 h1
    have HV := fun W => varint_any (zz v.n) W (zz_lt _ h0 h1)
    go_enter Try.func88, Try.ntmps88
    go_wp2_with first
      | (go_at_call 103; refine (HZ _).mono ?_; rintro e w1 ⟨rfl, rfl⟩)
      | (go_at_call 87; refine (HV _).mono ?_; rintro e w1 ⟨rfl, hb1⟩)
    go_ret
    exact ⟨rfl, below_box hb1⟩
  · rw [show plainB 2 v = [byteOf v.n] from by simp [plainB]]
    have hwb : IntKind.u8.wrap v.n = v.n % 256 := by simp [IntKind.wrap, IntKind.bits, IntKind.signed]
    rw [byteOf_int] at hwb
    have hcv : ∀ (W : World) (g : Nat), W.cell? ⟨g, 0, none⟩ = some (.int .u8 (byteOf v.n : Int)) → (convert 44 9 (.slice (some ⟨g, 0, none⟩) 1 1)).run Try.prog W = .ok (.string (strOf [byteOf v.n])) W := fun W g h => conv_one h
    go_enter Try.func88, Try.ntmps88
    go_wp2
    go_ret
    exact ⟨rfl, ((Below.refl _ _).alloc (Nat.le_refl _) _).alloc (by simp) _⟩
  · rw [show plainB 3 v = vint v.s.size ++ bytesOf v.s from by simp [plainB], strOf_append, strOf_bytesOf]
    have HV := fun W => varint_any v.s.size W (by omega)
    have hl := vintF_length 10 v.s.size
    have hsz : ¬ 9223372036854775807 < (strOf (vint v.s.size)).size + v.s.size := by rw [Pk.strOf_size]; unfold vint; omega
    go_enter Try.func88, Try.ntmps88
    go_wp2_with fail
    have hwz : IntKind.u64.wrap (v.s.size : Int) = (v.s.size : Int) := by rw [wrap_u64]; omega
    go_region_with (go_at_call 87; refine (HV _).mono ?_; rintro e w1 ⟨rfl, hb1⟩; have hk1 := box_two hb1)
    all_goals
      go_wp2
      go_ret
      exact ⟨rfl, below_one hb1⟩

theorem box_kept {w w1 : World} {u u1 a b c : Value} {t : TypeId} (hub : u.ownBlock ≠ some w.heap.size) (h : Grew (w.alloc (.cells #[a, b, c] t)) w1 u u1) : w1.cell? ⟨w.heap.size, 2, none⟩ = some c :=
  h.by_.cell (a := ⟨w.heap.size, 2, none⟩) (v := c) (by simp) (fun h => hub h.symm)

set_option maxRecDepth 100000 in
set_option maxHeartbeats 2000000 in
theorem appendPlain1_any (u : Value) (pre : List Nat) (v : Val) (k : Int) (base : Nat) (w : World) (hk : k = 1 ∨ k = 2 ∨ k = 3) (hv : VOk v) (hl : pre.length ≤ 4000000) (hb : base ≤ w.heap.size)
    (hown : w.ownsRow base 5 1 u pre.length (bcells pre)) :
    Calls Try.prog 106 #[u, .agg #[.bool v.null, .int .i64 v.n, .string v.s], .int .i64 k] w fun e w' => ∃ u', e = .returned u' ∧ w'.ownsRow base 5 1 u' (pre ++ plainB k v).length (bcells (pre ++ plainB k v)) ∧ Grew w w' u u' := by
  obtain ⟨i0, hi, hz0, hz1, hz2⟩ := info_parts Try.info5
  obtain ⟨h0, h1, h2⟩ := hv
  rcases hk with rfl | rfl | rfl
  · rw [show plainB 1 v = vint (zz v.n) from by simp [plainB]]
    have HZ := czigzag_any v.n h0 h1
    have HA : Hid (∀ o, Calls Try.prog 136 #[u, .int .u64 (zz v.n)] (w.alloc o) fun e w' => ∃ v', e = .returned v' ∧ w'.ownsRow base 5 1 v' (pre ++ vint (zz v.n)).length (bcells (pre ++ vint (zz v.n))) ∧ Grew (w.alloc o) w' u v') := fun o =>
      appendVarint_any u pre (zz v.n) base (w.alloc o) (zz_lt _ h0 h1) (by omega) (by simp; omega) (hown.alloc o)
    clear hown
    go_enter Try.func106, Try.ntmps106
    go_wp2_with first
      | (go_at_call 137; refine (HZ _).mono ?_; rintro e w1 ⟨rfl, rfl⟩)
      | (go_at_call 136; refine (HA.out _).mono ?_; rintro e w1 ⟨v1, rfl, hw1, hg1⟩)
    go_ret
    exact ⟨_, rfl, hw1, hg1.box⟩
  · rw [show plainB 2 v = [byteOf v.n] from by simp [plainB]]
    have hwb : IntKind.u8.wrap v.n = v.n % 256 := by simp [IntKind.wrap, IntKind.bits, IntKind.signed]
    rw [byteOf_int] at hwb
    generalize byteOf v.n = y at *
    go_enter Try.func106, Try.ntmps106
    go_wp2_with (at_builtin; refine wpList_append_keep _ rfl _ _ 44 rfl base 5 i0 (.int .u8 0) 1 1 Try.underlying44 hi hz0 hz1 hz2 rfl (by decide) _ pre.length _ rfl ((hown.alloc _).alloc _) ⟨w.heap.size + 1, 0, none⟩ 1 1 [.int .u8 (y : Int)] rfl (by decide) rfl (by simpa using one_at (w.alloc _) _ _) (one_oneB _) (by unfold maxLen; omega) (by omega) (by simp; omega) ?_; intro v2 w2 hown2 hgr2)
    go_ret
    have hg3 : Grew w w2 u v2 := Grew.box (Grew.append hgr2)
    rw [bcells_snoc] at hown2
    exact ⟨_, rfl, by simpa using hown2, hg3⟩
  · rw [show plainB 3 v = vint v.s.size ++ bytesOf v.s from by simp [plainB], ← List.append_assoc]
    have hvl := vintF_length 10 v.s.size
    have hub : u.ownBlock ≠ some w.heap.size := fun h => by have := (hown.lt _ h).2; omega
    have HA : Hid (∀ o, Calls Try.prog 105 #[u, .int .i64 (v.s.size : Int)] (w.alloc o) fun e w' => ∃ v', e = .returned v' ∧ w'.ownsRow base 5 1 v' (pre ++ vint v.s.size).length (bcells (pre ++ vint v.s.size)) ∧ Grew (w.alloc o) w' u v') := fun o =>
      appendNumber_any u pre v.s.size base (w.alloc o) (by omega) (by omega) (by simp; omega) (hown.alloc o)
    have hql : (pre ++ vint v.s.size).length ≤ 4000010 := by rw [List.length_append]; unfold vint; omega
    generalize pre ++ vint v.s.size = pv at *
    have hbl := bytesOf_length v.s
    have hsc := strCells_bytes v.s
    generalize bytesOf v.s = ys at *
    clear hown
    go_enter Try.func106, Try.ntmps106
    go_wp2_with first
      | (go_at_call 105; refine (HA.out _).mono ?_; rintro e w1 ⟨v1, rfl, hw1, hg1⟩; have hk1 := box_kept hub hg1; have hz1' := hg1.by_.size)
      | (at_builtin; refine wpList_append_str_keep _ rfl _ _ 44 9 rfl base 5 i0 Try.underlying44 Try.underlying9 hi hz0 hz1 hz2 _ pv.length _ rfl hw1 v.s rfl ?_ ?_ ?_ ?_; (unfold maxLen; omega); omega; (simp at hz1'; omega); intro v2 w2 hown2 hgr2)
    go_ret
    rw [hsc] at hown2
    refine ⟨_, rfl, ?_, (hg1.box).trans hgr2⟩
    rw [← hbl] at hown2
    simpa [bcells] using hown2
end Go.Proofs.Ytjidbonhhpkljaa.Ec
