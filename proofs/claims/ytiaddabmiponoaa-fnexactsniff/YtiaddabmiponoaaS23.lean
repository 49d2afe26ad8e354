import Derived.Test.YtiaddabmiponoaaS22
namespace Go.Proofs.Ytiaddabmiponoaa
open Go.RowKit
set_option linter.unusedVariables false
theorem rowF.setCell {w : World} {x N : Nat} (h : rowF w x N) (p : Addr) (v : Value) : rowF (w.setCell p v) x N := fun t ht => by
  obtain ⟨⟨u, hu⟩, hf⟩ := h t ht
  refine ⟨?_, by rw [World.frozen?_setCell]; exact hf⟩
  by_cases e : (⟨x, t, none⟩ : Addr) = p
  · subst e
    exact ⟨v, World.cell?_setCell_same _ _ _ hu⟩
  · exact ⟨u, by rw [World.cell?_setCell_other _ _ _ _ (fun hh => e hh.symm)]; exact hu⟩
theorem rowF.setRow {x N : Nat} (g : Nat) : ∀ (vs : List Value) (w : World) (p : Nat), rowF w x N → rowF (setRow w g p vs) x N := by
  intro vs
  induction vs with
  | nil => intro w p h; exact h
  | cons v vs ih => intro w p h; exact ih _ (p + 1) (h.setCell _ v)
theorem rowF.le {w : World} {x N M : Nat} (h : rowF w x N) (hM : M ≤ N) : rowF w x M := fun t ht => h t (by omega)
/-- marks of bytes from C on -/
def mkB (W : World) (b m C : Nat) : Prop := ∀ t, t < m → W.cell? ⟨b, t, none⟩ = some (.int .u8 (((C + t) % 256 : Nat) : Int))
set_option maxHeartbeats 2000000 in
theorem markByteS_any (w : World) (b m cap C : Nat) (hr : rowF w b m) (hcp : m ≤ cap) (hm : m ≤ 1048576) (hC : C ≤ 10000000000000000) :
    Calls Try.prog 16 #[.slice (some ⟨b, 0, none⟩) m cap, .int .i64 (C : Int)] w fun o w' => o = .returned (.int .i64 ((C + m : Nat) : Int)) ∧ mkB w' b m C ∧ (∀ x N, rowF w x N → rowF w' x N) ∧ (∀ x, x ≠ b → w'.heap[x]? = w.heap[x]?) ∧ w'.heap.size = w.heap.size ∧ Below b w w' := by
  have HR : Hid (rowF w b m) := hr
  clear hr
  go_enter Try.func16, Try.ntmps16
  go_wp2
  go_loopw [1, 5] (fun kk i wr => ∃ k : Nat, k ≤ m ∧ i = .int .i64 (k : Int) ∧ kk = .int .i64 ((C + k : Nat) : Int) ∧ mkB wr b k C ∧ (∀ x N, rowF w x N → rowF wr x N) ∧ (∀ x, x ≠ b → wr.heap[x]? = w.heap[x]?) ∧ wr.heap.size = w.heap.size ∧ Below b w wr) (fun _ i _ => m - (intOf i).toNat)
  case atStart => exact ⟨0, Nat.zero_le _, rfl, by go_num, fun j hj => absurd hj (Nat.not_lt_zero _), fun _ _ h => h, fun _ _ => rfl, rfl, Below.refl _ _⟩
  case round =>
    obtain ⟨k, hk, rfl, rfl, hdone, hrow, hoth, hsz, hb⟩ := hrel
    by_cases hlt : k < m
    · obtain ⟨⟨v0, z0⟩, f0⟩ := (hrow b m HR.out) k hlt
      have HD : Hid (mkB wr b k C ∧ (∀ x N, rowF w x N → rowF wr x N) ∧ (∀ x, x ≠ b → wr.heap[x]? = w.heap[x]?) ∧ wr.heap.size = w.heap.size ∧ Below b w wr) := ⟨hdone, hrow, hoth, hsz, hb⟩
      clear hdone hrow hoth hsz hb
      generalize hD : C + k = D at *
      have HD2 : Hid (C + k = D) := hD
      have hD1 : D ≤ 20000000000000000 := by omega
      clear hD
      go_wp2
      obtain ⟨r1, r2, r3, r4, r5⟩ := HD.out
      have hD := HD2.out
      refine ⟨⟨k + 1, by omega, by go_num, by rw [show C + (k + 1) = D + 1 by omega]; go_num, fun t ht => ?_, fun x N h => (r2 x N h).setCell _ _, fun x hx => (heap_setCell_other _ _ x _ hx).trans (r3 x hx), by simpa using r4, r5.setCell (Nat.le_refl _) _⟩, by simp [intOf]; omega⟩
      by_cases e : t = k
      · subst e
        rw [World.cell?_setCell_same _ _ _ z0, hD]
        congr 2
      · rw [World.cell?_setCell_other _ _ _ _ (by intro hh; exact e (by simpa using hh.symm))]
        exact r1 t (by omega)
    · have hkn : k = m := by omega
      subst hkn
      go_wp2
      go_ret
      exact ⟨rfl, hdone, hrow, hoth, hsz, hb⟩
theorem markByte_none (w : World) (cap C : Nat) : Calls Try.prog 16 #[.slice none 0 cap, .int .i64 (C : Int)] w fun o w' => o = .returned (.int .i64 (C : Int)) ∧ w' = w := by
  go_enter Try.func16, Try.ntmps16
  go_wp2
  go_loopw [1, 5] (fun kk i wr => i = .int .i64 0 ∧ kk = .int .i64 (C : Int) ∧ wr = w) (fun _ _ _ => 0)
  case atStart => exact ⟨rfl, rfl, rfl⟩
  case round =>
    obtain ⟨rfl, rfl, rfl⟩ := hrel
    go_wp2
    go_ret
    exact ⟨rfl, rfl⟩
theorem heldByte_none (w : World) (cap C : Nat) : Calls Try.prog 17 #[.slice none 0 cap, .int .i64 (C : Int)] w fun o w' => o = .returned (.int .i64 (C : Int)) ∧ w' = w := by
  go_enter Try.func17, Try.ntmps17
  go_wp2
  go_loopw [1, 5] (fun kk i wr => i = .int .i64 0 ∧ kk = .int .i64 (C : Int) ∧ wr = w) (fun _ _ _ => 0)
  case atStart => exact ⟨rfl, rfl, rfl⟩
  case round =>
    obtain ⟨rfl, rfl, rfl⟩ := hrel
    go_wp2
    go_ret
    exact ⟨rfl, rfl⟩
set_option maxHeartbeats 2000000 in
theorem heldByteS_any (w : World) (b m cap C : Nat) (hr : mkB w b m C) (hcp : m ≤ cap) (hm : m ≤ 1048576) (hC : C ≤ 10000000000000000) :
    Calls Try.prog 17 #[.slice (some ⟨b, 0, none⟩) m cap, .int .i64 (C : Int)] w fun o w' => o = .returned (.int .i64 ((C + m : Nat) : Int)) ∧ w' = w := by
  have HR : Hid (mkB w b m C) := hr
  clear hr
  go_enter Try.func17, Try.ntmps17
  go_wp2
  go_loopw [1, 5] (fun kk i wr => ∃ k : Nat, k ≤ m ∧ i = .int .i64 (k : Int) ∧ kk = .int .i64 ((C + k : Nat) : Int) ∧ wr = w) (fun _ i _ => m - (intOf i).toNat)
  case atStart => exact ⟨0, Nat.zero_le _, rfl, by go_num, rfl⟩
  case round =>
    obtain ⟨k, hk, rfl, rfl, rfl⟩ := hrel
    by_cases hlt : k < m
    · have z0 := HR.out k hlt
      generalize hD : C + k = D at *
      have HD2 : Hid (C + k = D) := hD
      have hD1 : D ≤ 20000000000000000 := by omega
      clear hD
      go_wp2
      refine ⟨⟨k + 1, by omega, by go_num, by rw [show C + (k + 1) = D + 1 by have := HD2.out; omega]; go_num, trivial⟩, by simp [intOf]; omega⟩
    · have hkn : k = m := by omega
      subst hkn
      go_wp2
      go_ret
      exact ⟨rfl, rfl⟩
theorem results_cell {fn : Func} {x : Tmp} {T : TypeId} (h : fn.results = #[.cell x T]) (tmps : Array Value) (w : World) (b : Nat) (V : Value) (h2 : tmps.getD x undef = .pointer (some ⟨b, 0, none⟩)) (hL : (loadVar T ⟨b, 0, none⟩).run Try.prog w = .ok V w) : (results fn tmps).run Try.prog w = .ok V w := by
  simp only [Array.getD_eq_getD_getElem?] at h2
  simp [results, h, h2, asAddr, hL]
theorem results_cell_tmp {fn : Func} {x y : Tmp} {T : TypeId} (h : fn.results = #[.cell x T, .tmp y]) (tmps : Array Value) (w : World) (b : Nat) (V : Value) (h2 : tmps.getD x undef = .pointer (some ⟨b, 0, none⟩)) (hL : (loadVar T ⟨b, 0, none⟩).run Try.prog w = .ok V w) : (results fn tmps).run Try.prog w = .ok (.tuple #[V, tmps.getD y undef]) w := by
  simp only [Array.getD_eq_getD_getElem?] at h2
  simp [results, h, h2, asAddr, hL]
/-- block b is a variable that holds the cells l -/
def blk (w : World) (b : Nat) (l : List Value) (T : TypeId) : Prop := w.heap[b]? = some (.cells l.toArray T (0, 0))
theorem blk.new (w : World) (l : List Value) (T : TypeId) : blk (w.alloc (.cells l.toArray T)) w.heap.size l T := heap_alloc_new w _
theorem blk.alloc {w : World} {b : Nat} {l : List Value} {T : TypeId} (h : blk w b l T) (o : Obj) : blk (w.alloc o) b l T := (Below.heap_alloc _ _ _ (lt_of_some h)).trans h
theorem blk.below {w w' : World} {b : Nat} {l : List Value} {T : TypeId} (h : blk w b l T) (hb : Below w.heap.size w w') : blk w' b l T := (hb.block _ (lt_of_some h)).trans h
theorem blk.lt {w : World} {b : Nat} {l : List Value} {T : TypeId} (h : blk w b l T) : b < w.heap.size := lt_of_some h
theorem blk.put {w : World} {b : Nat} {T : TypeId} (pre old post vs : List Value) (h : blk w b (pre ++ old ++ post) T) (hl : old.length = vs.length) : blk (w.setCells b pre.length vs) b (pre ++ vs ++ post) T := setCells_block b T vs old pre post w hl h
theorem blk.other {w : World} {b b' : Nat} {l : List Value} {T : TypeId} (h : blk w b l T) (hb : b ≠ b') (o : Nat) (vs : List Value) : blk (w.setCells b' o vs) b l T := (setCells_other b' b hb vs w o).trans h
theorem blk.load {w : World} {b : Nat} {l : List Value} {T : TypeId} (h : blk w b l T) : w.rangeAt b 0 l := range_block h
theorem blk.there {w : World} {b : Nat} {l : List Value} {T : TypeId} (h : blk w b l T) (o n : Nat) (ho : o + n ≤ l.length) : w.there b o n := there_block h o n ho
theorem blk.cell {w : World} {b : Nat} {l : List Value} {T : TypeId} (h : blk w b l T) (o : Nat) (v : Value) (ho : l[o]? = some v) : w.cell? ⟨b, o, none⟩ = some v := by
  have := range_block h o v ho
  simpa using this
theorem blk.free {w : World} {b : Nat} {l : List Value} {T : TypeId} (h : blk w b l T) (o : Nat) : w.frozen? ⟨b, o, none⟩ = false := by
  unfold World.frozen?
  rw [h]
  simp
theorem blk.kept {w w' : World} {b : Nat} {l : List Value} {T : TypeId} (h : blk w b l T) (he : w'.heap[b]? = w.heap[b]?) : blk w' b l T := he.trans h
theorem setCells_size (w : World) (b o : Nat) (vs : List Value) : (w.setCells b o vs).heap.size = w.heap.size := by rw [setCells_row, setRow_size]
theorem setCells_below {B b : Nat} (hB : B ≤ b) {w0 w : World} (o : Nat) (vs : List Value) (h : Below B w0 w) : Below B w0 (w.setCells b o vs) := by rw [setCells_row]; exact setRow_below b B hB w0 vs w o h
theorem sz93 : (Try.prog.info? 34).map (·.size) = some 5 := by kernel_rfl
theorem one5 (e : Bool) (i : Int) (r : Bool) (d : Int) (a : Option Addr) (n c : Nat) : (#[.bool e, .int .u32 i, .bool r, .int .i64 d, .slice a n c] : Array Value).all (·.oneCell') = true :=
  all_oneCell_toArray (by simp [Value.oneCell'])
/-- one record put behind a row that the call itself made -/
theorem run_app {w : World} (T R E : TypeId) (Z : Value) (sz by_ : Nat) (hi0 : (Try.prog.info? E).map (fun i => (i.zero, i.size, i.bytes)) = some (some Z, sz, by_)) (hu : Try.prog.underlying T = some (.slice E)) (hZ : Z.cells.size = sz) (hsz : 0 < sz) (hby : by_ ≤ 1000)
    (B g n k : Nat) (xs : List Value) (hown : w.ownsRow B E sz (.slice (some ⟨g, 0, none⟩) n k) n xs) (b : Nat) (news : List Value) (hl : news.length = sz) (hb : w.heap[b]? = some (.cells news.toArray E)) (h1 : ∀ u ∈ news, u.oneCell' = true) (hn : n ≤ 100000000) (hB : B ≤ w.heap.size) :
    ∃ g' k' w', (Builtin.append_ #[T, T] R #[.slice (some ⟨g, 0, none⟩) n k, .slice (some ⟨b, 0, none⟩) 1 1]).run Try.prog w = .ok (.slice (some ⟨g', 0, none⟩) (n + 1) k') w' ∧ w'.ownsRow B E sz (.slice (some ⟨g', 0, none⟩) (n + 1) k') (n + 1) (xs ++ news) ∧ w.grownBy w' (some g) ∧ (g' = g ∨ g' = w.heap.size) ∧ g < w'.heap.size ∧ B ≤ g' := by
  obtain ⟨i0, hi, hz0, hz1, hz2⟩ := info_parts hi0
  have hmul : (n + 1) * by_ ≤ (n + 1) * 1000 := Nat.mul_le_mul_left _ hby
  obtain ⟨v', w', hr, h2, h3, h4, h5⟩ := run_append_own_at (P := Try.prog) w B T R E i0 Z sz by_ hu hi hz0 hz1 hz2 hZ hsz (.slice (some ⟨g, 0, none⟩) n k) n xs hown ⟨b, 0, none⟩ 1 1 news (by rw [hl, Nat.one_mul]) (by
    intro j u hj
    have := range_block hb j u hj
    rw [Addr.add_lit]
    exact this) h1 (by unfold maxLen; omega) (by omega) hB
  have hne : v' ≠ .slice none 0 0 := by
    intro e
    obtain ⟨e1, _⟩ := h4.1 e
    cases e1
  obtain ⟨g', k', rfl, q1, q2, q3, q4⟩ := own_slice h2 hne
  refine ⟨g', k', w', hr, h2, h3, ?_, Nat.lt_of_lt_of_le (World.ownsRow.lt hown g rfl).2 h3.size, q1⟩
  rcases h5 with h | h
  · left
    simpa [Value.ownBlock] using h
  · right
    simpa [Value.ownBlock] using h
theorem app_rec {ops : Array Oper} {rest : List Oper} {o : Oper} {a : Act} {Q : Exit → Act → World → Prop} {w : World} (hgd : o.guard = none) (s x : Operand) (T E : TypeId) (Z : Value) (sz by_ : Nat) (hi0 : (Try.prog.info? E).map (fun i => (i.zero, i.size, i.bytes)) = some (some Z, sz, by_)) (hu : Try.prog.underlying T = some (.slice E)) (hZ : Z.cells.size = sz) (hsz : 0 < sz) (hby : by_ ≤ 1000)
    (ho : o.op = .call { callee := .builtin .append, args := #[s, x], argTypes := #[T, T] })
    (B g n k : Nat) (xs : List Value) (hs : a.eval s = .slice (some ⟨g, 0, none⟩) n k) (hown : w.ownsRow B E sz (.slice (some ⟨g, 0, none⟩) n k) n xs) (b : Nat) (news : List Value) (hx : a.eval x = .slice (some ⟨b, 0, none⟩) 1 1) (hl : news.length = sz) (hb : w.heap[b]? = some (.cells news.toArray E)) (h1 : ∀ u ∈ news, u.oneCell' = true) (hn : n ≤ 100000000) (hB : B ≤ w.heap.size)
    (h : ∀ g' k' w', w'.ownsRow B E sz (.slice (some ⟨g', 0, none⟩) (n + 1) k') (n + 1) (xs ++ news) → w.grownBy w' (some g) → (g' = g ∨ g' = w.heap.size) → B ≤ g' → wpList Try.prog ops Q rest (a.put o.dst (.slice (some ⟨g', 0, none⟩) (n + 1) k')) w') :
    wpList Try.prog ops Q (o :: rest) a w := by
  obtain ⟨g', k', w', hr, h2, h3, h4, h5, h6⟩ := run_app T o.type E Z sz by_ hi0 hu hZ hsz hby B g n k xs hown b news hl hb h1 hn hB
  refine wpList_plain hgd fun K hK => ?_
  unfold Oper.wp execOp
  simp only [ho, resolve, invoke, builtin, Sem.run_bind, Sem.run_pure, Result.andThen_ok, List.map_toArray, List.map_cons, List.map_nil, hs, hx, hr]
  exact hK _ _ (h g' k' w' h2 h3 h4 h6)
theorem wp_app_rec {o : Oper} {a : Act} {K : Act → World → Prop} {Q : Exit → Act → World → Prop} {w : World} (s x : Operand) (T E : TypeId) (Z : Value) (sz by_ : Nat) (hi0 : (Try.prog.info? E).map (fun i => (i.zero, i.size, i.bytes)) = some (some Z, sz, by_)) (hu : Try.prog.underlying T = some (.slice E)) (hZ : Z.cells.size = sz) (hsz : 0 < sz) (hby : by_ ≤ 1000)
    (ho : o.op = .call { callee := .builtin .append, args := #[s, x], argTypes := #[T, T] })
    (B g n k : Nat) (xs : List Value) (hs : a.eval s = .slice (some ⟨g, 0, none⟩) n k) (hown : w.ownsRow B E sz (.slice (some ⟨g, 0, none⟩) n k) n xs) (b : Nat) (news : List Value) (hx : a.eval x = .slice (some ⟨b, 0, none⟩) 1 1) (hl : news.length = sz) (hb : w.heap[b]? = some (.cells news.toArray E)) (h1 : ∀ u ∈ news, u.oneCell' = true) (hn : n ≤ 100000000) (hB : B ≤ w.heap.size)
    (h : ∀ g' k' w', w'.ownsRow B E sz (.slice (some ⟨g', 0, none⟩) (n + 1) k') (n + 1) (xs ++ news) → w.grownBy w' (some g) → (g' = g ∨ g' = w.heap.size) → B ≤ g' → K (a.put o.dst (.slice (some ⟨g', 0, none⟩) (n + 1) k')) w') :
    o.wp Try.prog a w K Q := by
  obtain ⟨g', k', w', hr, h2, h3, h4, h5, h6⟩ := run_app T o.type E Z sz by_ hi0 hu hZ hsz hby B g n k xs hown b news hl hb h1 hn hB
  unfold Oper.wp execOp
  simp only [ho, resolve, invoke, builtin, Sem.run_bind, Sem.run_pure, Result.andThen_ok, List.map_toArray, List.map_cons, List.map_nil, hs, hx, hr]
  exact h g' k' w' h2 h3 h4 h6
/-- a slot with the header of its bytes -/
abbrev Sx := (Nat × Nat) × (Option Addr × Nat × Nat)
def enc7 (s : ByteArray) (r : Sx) : List Value := [.int .i64 (r.1.1 : Int), .int .i64 (r.1.2 : Int), .bool (fk s r.1.1 r.1.2).ext, .int .u32 ((fk s r.1.1 r.1.2).id : Int), .bool (fk s r.1.1 r.1.2).rtr, .int .i64 ((fk s r.1.1 r.1.2).dlc : Int), .slice r.2.1 r.2.2.1 r.2.2.2]
/-- a row of slots of one's own -/
structure slR (s : ByteArray) (B : Nat) (v : Value) (rs : List Sx) (W : World) : Prop where
  own : W.ownsRow B 38 7 v rs.length (rs.flatMap (enc7 s))
  dat : ∀ r ∈ rs, ownsB W B (.slice r.2.1 r.2.2.1 r.2.2.2) (fk s r.1.1 r.1.2).data
  dis : rs.Pairwise fun a b => ∀ x, a.2.1 = some x → b.2.1 ≠ some x
theorem ownsRow_at {w w' : World} {B E sz n : Nat} {v : Value} {xs : List Value} (h : w.ownsRow B E sz v n xs) (he : ∀ g k, v = .slice (some ⟨g, 0, none⟩) n k → w'.heap[g]? = w.heap[g]?) : w'.ownsRow B E sz v n xs := by
  obtain ⟨h1, h2 | ⟨g, cap, cur, hv', hb, hg, rest⟩⟩ := h
  · exact ⟨h1, .inl h2⟩
  · exact ⟨h1, .inr ⟨g, cap, cur, hv', hb, (he g cap hv').trans hg, rest⟩⟩
theorem ownsRow_lt {w : World} {B E sz n : Nat} {v : Value} {xs : List Value} (h : w.ownsRow B E sz v n xs) {g k m : Nat} (hv : v = .slice (some ⟨g, 0, none⟩) m k) : g < w.heap.size ∧ B ≤ g := by
  obtain ⟨h1, ⟨h2, _⟩ | ⟨g', cap, cur, hv', hb, hg, rest⟩⟩ := h
  · rw [h2] at hv; cases hv
  · rw [hv'] at hv
    cases hv
    exact ⟨lt_of_some hg, hb⟩
theorem ownsRow_kind {w : World} {B E sz n : Nat} {v : Value} {xs : List Value} (h : w.ownsRow B E sz v n xs) {g k m : Nat} (hv : v = .slice (some ⟨g, 0, none⟩) m k) : ∃ c f, w.heap[g]? = some (Obj.cells c E f) := by
  obtain ⟨h1, ⟨h2, _⟩ | ⟨g', cap, cur, hv', hb, hg, rest⟩⟩ := h
  · rw [h2] at hv; cases hv
  · rw [hv'] at hv
    cases hv
    exact ⟨_, _, hg⟩
theorem ownsB_hd {w : World} {B : Nat} {a : Option Addr} {m c : Nat} {l : List Nat} (h : ownsB w B (.slice a m c) l) : m = l.length ∧ ((a = none ∧ m = 0) ∨ ∃ b, a = some ⟨b, 0, none⟩ ∧ B ≤ b ∧ b < w.heap.size) := by
  obtain ⟨h1, ⟨h2, h3⟩ | ⟨g', cap, cur, hv', hb, hg, rest⟩⟩ := h
  · cases h2
    have : l.length = 0 := by simpa using h3
    exact ⟨this.symm, Or.inl ⟨rfl, rfl⟩⟩
  · cases hv'
    exact ⟨rfl, Or.inr ⟨g', rfl, hb, lt_of_some hg⟩⟩
section
variable {s : ByteArray} {B : Nat} {v : Value} {rs : List Sx} {W : World}
theorem slR.keep (h : slR s B v rs W) {V : World} (hr : ∀ g k, v = .slice (some ⟨g, 0, none⟩) rs.length k → V.heap[g]? = W.heap[g]?) (hb : ∀ (g : Nat) c f, W.heap[g]? = some (Obj.cells c 5 f) → V.heap[g]? = W.heap[g]?) : slR s B v rs V :=
  ⟨ownsRow_at h.own hr, fun r hr' => ownsRow_at (h.dat r hr') (fun g k e => by
    obtain ⟨c, f, hc⟩ := ownsRow_kind (h.dat r hr') e
    exact hb g c f hc), h.dis⟩
theorem slR.below (h : slR s B v rs W) {V : World} (hb : Below W.heap.size W V) : slR s B v rs V :=
  h.keep (fun g k e => hb.block g (ownsRow_lt h.own e).1) fun g c f e => hb.block g (lt_of_some e)
theorem slR.fresh (h : slR s B v rs W) {a : Option Addr} {m c : Nat} {l : List Nat} {V : World} {B' : Nat} (hB : W.heap.size ≤ B') (ho : ownsB V B' (.slice a m c) l) : ∀ r ∈ rs, ∀ x, r.2.1 = some x → a ≠ some x := by
  intro r hr x hx he
  rcases (ownsB_hd ho).2 with ⟨e, _⟩ | ⟨b, e, h1, _⟩
  · rw [e] at he; cases he
  · rcases (ownsB_hd (h.dat r hr)).2 with ⟨e', _⟩ | ⟨b', e', _, h2⟩
    · rw [e'] at hx; cases hx
    · rw [e'] at hx
      rw [e] at he
      cases hx
      cases he
      omega
/-- one slot more -/
theorem slR.app {g n k : Nat} (h : slR s B (.slice (some ⟨g, 0, none⟩) n k) rs W) (r0 : Sx) (hd : ownsB W B (.slice r0.2.1 r0.2.2.1 r0.2.2.2) (fk s r0.1.1 r0.1.2).data) (hf : ∀ r ∈ rs, ∀ x, r.2.1 = some x → r0.2.1 ≠ some x) {V : World} {v' : Value} (ho : V.ownsRow B 38 7 v' (rs.length + 1) (rs.flatMap (enc7 s) ++ enc7 s r0)) (hg : W.grownBy V (some g)) : slR s B v' (rs ++ [r0]) V := by
  obtain ⟨c0, f0, hg0⟩ := ownsRow_kind h.own rfl
  have hk : ∀ (b : Nat) c f, W.heap[b]? = some (Obj.cells c 5 f) → V.heap[b]? = W.heap[b]? := fun b c f hb => hg.block b (lt_of_some hb) (by
    intro e
    cases e
    rw [hg0] at hb
    injection hb with hb
    injection hb with _ hb _
    exact absurd hb (by decide))
  have kd : ∀ {a : Option Addr} {m c : Nat} {l : List Nat}, ownsB W B (.slice a m c) l → ownsB V B (.slice a m c) l := fun hh => ownsRow_at hh (fun b k e => by
    obtain ⟨c, f, hc⟩ := ownsRow_kind hh e
    exact hk b c f hc)
  refine ⟨?_, fun r hr => ?_, ?_⟩
  · rw [List.length_append, List.flatMap_append]
    simpa using ho
  · rcases List.mem_append.1 hr with hr | hr
    · exact kd (h.dat r hr)
    · have : r = r0 := by simpa using hr
      subst this
      exact kd hd
  · rw [List.pairwise_append]
    exact ⟨h.dis, by simp, fun a ha b hb x hx => by
      have : b = r0 := by simpa using hb
      subst this
      exact hf a ha x hx⟩
theorem slR.e1 (W : World) (hB : B ≤ W.heap.size) : slR s B (.slice (some ⟨W.heap.size, 0, none⟩) 0 0) [] (W.alloc (.cells #[] 38)) :=
  ⟨World.ownsRow_made W #[] 0 hB (by decide) rfl, fun r hr => (by cases hr), List.Pairwise.nil⟩
theorem slR.e0 (W : World) : slR s B (.slice none 0 0) [] W :=
  ⟨World.ownsRow_nil W B 38 7, fun r hr => (by cases hr), List.Pairwise.nil⟩
end
theorem Try.info38 : (Try.prog.info? 38).map (fun i => (i.zero, i.size, i.bytes)) = some (some (.agg #[.int .i64 0, .int .i64 0, .bool false, .int .u32 0, .bool false, .int .i64 0, .slice none 0 0]), 7, 64) := by kernel_rfl
end Go.Proofs.Ytiaddabmiponoaa
