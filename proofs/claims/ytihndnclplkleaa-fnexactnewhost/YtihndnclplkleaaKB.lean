import Derived.Test.YtihndnclplkleaaKA
namespace Go.Proofs.Ytihndnclplkleaa
open Go.RowKit
theorem results_cell {fn : Func} {x : Tmp} {T : TypeId} (h : fn.results = #[.cell x T]) (tmps : Array Value) (w : World) (b : Nat) (V : Value) (h2 : tmps.getD x undef = .pointer (some ⟨b, 0, none⟩)) (hL : (loadVar T ⟨b, 0, none⟩).run Try.prog w = .ok V w) : (results fn tmps).run Try.prog w = .ok V w := by
  simp only [Array.getD_eq_getD_getElem?] at h2
  simp [results, h, h2, asAddr, hL]
theorem results_cell_tmp {fn : Func} {x y : Tmp} {T : TypeId} (h : fn.results = #[.cell x T, .tmp y]) (tmps : Array Value) (w : World) (b : Nat) (V : Value) (h2 : tmps.getD x undef = .pointer (some ⟨b, 0, none⟩)) (hL : (loadVar T ⟨b, 0, none⟩).run Try.prog w = .ok V w) : (results fn tmps).run Try.prog w = .ok (.tuple #[V, tmps.getD y undef]) w := by
  simp only [Array.getD_eq_getD_getElem?] at h2
  simp [results, h, h2, asAddr, hL]
/-- block b is a variable that holds the cells l -/
def blk (w : World) (b : Nat) (l : List Value) (T : TypeId) : Prop := w.heap[b]? = some (.cells l.toArray T (0, 0))
theorem blk.new (w : World) (l : List Value) (T : TypeId) : blk (w.alloc (.cells l.toArray T)) w.heap.size l T := heap_alloc_new w _
theorem blk.alloc {w : World} {b : Nat} {l : List Value} {T : TypeId} (h : blk w b l T) (o : Obj) : blk (w.alloc o) b l T := (Below.heap_alloc _ _ _ (lt_of_some h)).trans h
theorem blk.below {w w' : World} {b : Nat} {l : List Value} {T : TypeId} (h : blk w b l T) (hb : Below w.heap.size w w') : blk w' b l T := (hb.block _ (lt_of_some h)).trans h
theorem blk.lt {w : World} {b : Nat} {l : List Value} {T : TypeId} (h : blk w b l T) : b < w.heap.size := lt_of_some h
theorem blk.put {w : World} {b : Nat} {T : TypeId} (pre old post vs : List Value) (h : blk w b (pre ++ old ++ post) T) (hl : old.length = vs.length) : blk (w.setCells b pre.length vs) b (pre ++ vs ++ post) T := setCells_block b T vs old pre post w hl h
theorem blk.other {w : World} {b b' : Nat} {l : List Value} {T : TypeId} (h : blk w b l T) (hb : b ≠ b') (o : Nat) (vs : List Value) : blk (w.setCells b' o vs) b l T := (setCells_other b' b hb vs w o).trans h
theorem blk.load {w : World} {b : Nat} {l : List Value} {T : TypeId} (h : blk w b l T) : w.rangeAt b 0 l := range_block h
theorem blk.there {w : World} {b : Nat} {l : List Value} {T : TypeId} (h : blk w b l T) (o n : Nat) (ho : o + n ≤ l.length) : w.there b o n := there_block h o n ho
theorem blk.cell {w : World} {b : Nat} {l : List Value} {T : TypeId} (h : blk w b l T) (o : Nat) (v : Value) (ho : l[o]? = some v) : w.cell? ⟨b, o, none⟩ = some v := by
  have := range_block h o v ho
  simpa using this
theorem blk.free {w : World} {b : Nat} {l : List Value} {T : TypeId} (h : blk w b l T) (o : Nat) : w.frozen? ⟨b, o, none⟩ = false := by
  unfold World.frozen?
  rw [h]
  simp
theorem blk.kept {w w' : World} {b : Nat} {l : List Value} {T : TypeId} (h : blk w b l T) (he : w'.heap[b]? = w.heap[b]?) : blk w' b l T := he.trans h
theorem setCells_size (w : World) (b o : Nat) (vs : List Value) : (w.setCells b o vs).heap.size = w.heap.size := by rw [setCells_row, setRow_size]
theorem setCells_below {B b : Nat} (hB : B ≤ b) {w0 w : World} (o : Nat) (vs : List Value) (h : Below B w0 w) : Below B w0 (w.setCells b o vs) := by rw [setCells_row]; exact setRow_below b B hB w0 vs w o h
theorem sz93 : (Try.prog.info? 93).map (·.size) = some 5 := by kernel_rfl
theorem one5 (e : Bool) (i : Int) (r : Bool) (d : Int) (a : Option Addr) (n c : Nat) : (#[.bool e, .int .u32 i, .bool r, .int .i64 d, .slice a n c] : Array Value).all (·.oneCell') = true :=
  all_oneCell_toArray (by simp [Value.oneCell'])
set_option maxHeartbeats 2000000 in
set_option maxRecDepth 20000 in
/-- spec.l3copyBox -/
theorem l3copyBox_any (w : World) (x y z : Int) (e : Bool) (i : Nat) (r : Bool) (d : Int) (a : Option Addr) (n cap : Nat) (l : List Nat) (h : isBytes w a n cap l) (hn : n ≤ 1048576) :
    Calls Try.prog 64 #[bxV x y z e i r d a n cap] w fun o w' => ∃ g k, o = .returned (bxV x y z e i r d (some ⟨g, 0, none⟩) n k) ∧ (w.heap.size ≤ g ∧ g < w'.heap.size ∧ St (w.heap.size + 2) w' (fun W => isBytes W (some ⟨g, 0, none⟩) n k l) ∧ w.heap.size + 2 ≤ g) ∧ Below w.heap.size w w' := by
  have HH : Hid (isBytes w a n cap l) := h
  clear h
  go_enter Try.func64, Try.ntmps64
  go_wp2_with (first | (go_at_call 65; refine (l1copyFrame_any _ e i r d a n cap l (HH.out.below ?_) hn).mono ?_))
  · exact ((Below.refl _ _).alloc (Nat.le_refl _) _).alloc (by simp) _
  · rintro o w1 ⟨g, k, rfl, ⟨hg, hgz, hst, hg2⟩, hb⟩
    have HP : Hid (blk w1 w.heap.size ([.int .i64 x, .int .i64 y, .int .i64 z] ++ [.bool e, .int .u32 (i : Int), .bool r, .int .i64 d, .slice a n cap] ++ []) 95) := ((blk.new w _ 95).alloc _).below hb
    have HR : Hid (blk w1 (w.heap.size + 1) ([] ++ [.int .i64 0, .int .i64 0, .int .i64 0, .bool false, .int .u32 0, .bool false, .int .i64 0, .slice none 0 0] ++ []) 95) := by
      have := (blk.new (w.alloc (.cells [.int .i64 x, .int .i64 y, .int .i64 z, .bool e, .int .u32 (i : Int), .bool r, .int .i64 d, .slice a n cap].toArray 95)) [.int .i64 0, .int .i64 0, .int .i64 0, .bool false, .int .u32 0, .bool false, .int .i64 0, .slice none 0 0] 95).below hb
      simpa [Hid] using this
    have HB : Hid (Below w.heap.size w w1) := (((Below.refl w.heap.size w).alloc (Nat.le_refl _) _).alloc (by simp) _).trans (hb.mono (by simp; omega))
    have HG : Hid (w.heap.size + 2 ≤ g ∧ g < w1.heap.size ∧ St (w.heap.size + 2) w1 (fun W => isBytes W (some ⟨g, 0, none⟩) n k l)) := by
      simp at hg hst
      exact ⟨by omega, hgz, hst.mono (by omega)⟩
    clear hb hg hgz hst hg2
    go_wp2_with (first
      | (refine wpList_store_mid (P := Try.prog) rfl 93 (.tmp 6) (.tmp 5) rfl w.heap.size 3 #[.bool e, .int .u32 (i : Int), .bool r, .int .i64 d, .slice (some ⟨g, 0, none⟩) n k] rfl rfl (HP.out.there 3 5 (by simp)) sz93 (one5 _ _ _ _ _ _ _) ?_; generalize hW2 : World.setCells w1 w.heap.size 3 _ = w2; have HW2 : Hid (World.setCells w1 w.heap.size 3 [.bool e, .int .u32 (i : Int), .bool r, .int .i64 d, .slice (some ⟨g, 0, none⟩) n k] = w2) := hW2; have HP2 : Hid (blk w2 w.heap.size [.int .i64 x, .int .i64 y, .int .i64 z, .bool e, .int .u32 (i : Int), .bool r, .int .i64 d, .slice (some ⟨g, 0, none⟩) n k] 95) := (hW2 ▸ blk.put [.int .i64 x, .int .i64 y, .int .i64 z] _ [] [.bool e, .int .u32 (i : Int), .bool r, .int .i64 d, .slice (some ⟨g, 0, none⟩) n k] HP.out rfl); have HR2 : Hid (blk w2 (w.heap.size + 1) ([] ++ [.int .i64 0, .int .i64 0, .int .i64 0, .bool false, .int .u32 0, .bool false, .int .i64 0, .slice none 0 0] ++ []) 95) := (hW2 ▸ HR.out.other (by omega) _ _); clear hW2)
      | (refine wpList_load_mid (P := Try.prog) rfl 95 (.tmp 1) rfl w.heap.size 0 rfl _ _ HP2.out.load Try.underlying95 rfl sz95 ?_)
      | (refine wpList_store_mid (P := Try.prog) rfl 95 (.tmp 2) (.tmp 7) rfl (w.heap.size + 1) 0 _ rfl rfl (HR2.out.there 0 8 (by simp)) sz95 (one8 _ _ _ _ _ _ _ _ _ _) ?_; generalize hW3 : World.setCells w2 (w.heap.size + 1) 0 _ = w3; have HW3 : Hid (World.setCells w2 (w.heap.size + 1) 0 [.int .i64 x, .int .i64 y, .int .i64 z, .bool e, .int .u32 (i : Int), .bool r, .int .i64 d, .slice (some ⟨g, 0, none⟩) n k] = w3) := hW3; clear hW3))
    have e2 := HW2.out
    have e3 := HW3.out
    have hF : blk w3 (w.heap.size + 1) [.int .i64 x, .int .i64 y, .int .i64 z, .bool e, .int .u32 (i : Int), .bool r, .int .i64 d, .slice (some ⟨g, 0, none⟩) n k] 95 := e3 ▸ blk.put [] _ [] _ HR2.out rfl
    have hL := run_loadVar_mid (P := Try.prog) w3 (w.heap.size + 1) 0 95 _ _ hF.load Try.underlying95 rfl sz95
    refine bodyPost_ret (v := bxV x y z e i r d (some ⟨g, 0, none⟩) n k) (results_cell Try.results64 _ w3 (w.heap.size + 1) _ rfl hL) rfl ?_
    obtain ⟨g1, g2, g3⟩ := HG.out
    subst e2
    subst e3
    refine ⟨g, k, rfl, ⟨by omega, by rw [setCells_size, setCells_size]; exact g2, (g3.setCells _ _ (by omega) _).setCells _ _ (by omega) _, g1⟩, ?_⟩
    exact setCells_below (by omega) _ _ (setCells_below (by omega) _ _ HB.out)
/-- one record put behind a row that the call itself made -/
theorem run_app {w : World} (T R E : TypeId) (Z : Value) (sz by_ : Nat) (hi0 : (Try.prog.info? E).map (fun i => (i.zero, i.size, i.bytes)) = some (some Z, sz, by_)) (hu : Try.prog.underlying T = some (.slice E)) (hZ : Z.cells.size = sz) (hsz : 0 < sz) (hby : by_ ≤ 1000)
    (B g n k : Nat) (xs : List Value) (hown : w.ownsRow B E sz (.slice (some ⟨g, 0, none⟩) n k) n xs) (b : Nat) (news : List Value) (hl : news.length = sz) (hb : w.heap[b]? = some (.cells news.toArray E)) (h1 : ∀ u ∈ news, u.oneCell' = true) (hn : n ≤ 100000000) (hB : B ≤ w.heap.size) :
    ∃ g' k' w', (Builtin.append_ #[T, T] R #[.slice (some ⟨g, 0, none⟩) n k, .slice (some ⟨b, 0, none⟩) 1 1]).run Try.prog w = .ok (.slice (some ⟨g', 0, none⟩) (n + 1) k') w' ∧ w'.ownsRow B E sz (.slice (some ⟨g', 0, none⟩) (n + 1) k') (n + 1) (xs ++ news) ∧ w.grownBy w' (some g) ∧ (g' = g ∨ g' = w.heap.size) ∧ g < w'.heap.size ∧ B ≤ g' := by
  obtain ⟨i0, hi, hz0, hz1, hz2⟩ := info_parts hi0
  have hmul : (n + 1) * by_ ≤ (n + 1) * 1000 := Nat.mul_le_mul_left _ hby
  obtain ⟨v', w', hr, h2, h3, h4, h5⟩ := run_append_own_at (P := Try.prog) w B T R E i0 Z sz by_ hu hi hz0 hz1 hz2 hZ hsz (.slice (some ⟨g, 0, none⟩) n k) n xs hown ⟨b, 0, none⟩ 1 1 news (by rw [hl, Nat.one_mul]) (by
    intro j u hj
    have := range_block hb j u hj
    rw [Addr.add_lit]
    exact this) h1 (by unfold maxLen; omega) (by omega) hB
  have hne : v' ≠ .slice none 0 0 := by
    intro e
    obtain ⟨e1, _⟩ := h4.1 e
    cases e1
  obtain ⟨g', k', rfl, q1, q2, q3, q4⟩ := own_slice h2 hne
  refine ⟨g', k', w', hr, h2, h3, ?_, Nat.lt_of_lt_of_le (World.ownsRow.lt hown g rfl).2 h3.size, q1⟩
  rcases h5 with h | h
  · left
    simpa [Value.ownBlock] using h
  · right
    simpa [Value.ownBlock] using h
theorem app_rec {ops : Array Oper} {rest : List Oper} {o : Oper} {a : Act} {Q : Exit → Act → World → Prop} {w : World} (hgd : o.guard = none) (s x : Operand) (T E : TypeId) (Z : Value) (sz by_ : Nat) (hi0 : (Try.prog.info? E).map (fun i => (i.zero, i.size, i.bytes)) = some (some Z, sz, by_)) (hu : Try.prog.underlying T = some (.slice E)) (hZ : Z.cells.size = sz) (hsz : 0 < sz) (hby : by_ ≤ 1000)
    (ho : o.op = .call { callee := .builtin .append, args := #[s, x], argTypes := #[T, T] })
    (B g n k : Nat) (xs : List Value) (hs : a.eval s = .slice (some ⟨g, 0, none⟩) n k) (hown : w.ownsRow B E sz (.slice (some ⟨g, 0, none⟩) n k) n xs) (b : Nat) (news : List Value) (hx : a.eval x = .slice (some ⟨b, 0, none⟩) 1 1) (hl : news.length = sz) (hb : w.heap[b]? = some (.cells news.toArray E)) (h1 : ∀ u ∈ news, u.oneCell' = true) (hn : n ≤ 100000000) (hB : B ≤ w.heap.size)
    (h : ∀ g' k' w', w'.ownsRow B E sz (.slice (some ⟨g', 0, none⟩) (n + 1) k') (n + 1) (xs ++ news) → w.grownBy w' (some g) → (g' = g ∨ g' = w.heap.size) → B ≤ g' → wpList Try.prog ops Q rest (a.put o.dst (.slice (some ⟨g', 0, none⟩) (n + 1) k')) w') :
    wpList Try.prog ops Q (o :: rest) a w := by
  obtain ⟨g', k', w', hr, h2, h3, h4, h5, h6⟩ := run_app T o.type E Z sz by_ hi0 hu hZ hsz hby B g n k xs hown b news hl hb h1 hn hB
  refine wpList_plain hgd fun K hK => ?_
  unfold Oper.wp execOp
  simp only [ho, resolve, invoke, builtin, Sem.run_bind, Sem.run_pure, Result.andThen_ok, List.map_toArray, List.map_cons, List.map_nil, hs, hx, hr]
  exact hK _ _ (h g' k' w' h2 h3 h4 h6)
theorem wp_app_rec {o : Oper} {a : Act} {K : Act → World → Prop} {Q : Exit → Act → World → Prop} {w : World} (s x : Operand) (T E : TypeId) (Z : Value) (sz by_ : Nat) (hi0 : (Try.prog.info? E).map (fun i => (i.zero, i.size, i.bytes)) = some (some Z, sz, by_)) (hu : Try.prog.underlying T = some (.slice E)) (hZ : Z.cells.size = sz) (hsz : 0 < sz) (hby : by_ ≤ 1000)
    (ho : o.op = .call { callee := .builtin .append, args := #[s, x], argTypes := #[T, T] })
    (B g n k : Nat) (xs : List Value) (hs : a.eval s = .slice (some ⟨g, 0, none⟩) n k) (hown : w.ownsRow B E sz (.slice (some ⟨g, 0, none⟩) n k) n xs) (b : Nat) (news : List Value) (hx : a.eval x = .slice (some ⟨b, 0, none⟩) 1 1) (hl : news.length = sz) (hb : w.heap[b]? = some (.cells news.toArray E)) (h1 : ∀ u ∈ news, u.oneCell' = true) (hn : n ≤ 100000000) (hB : B ≤ w.heap.size)
    (h : ∀ g' k' w', w'.ownsRow B E sz (.slice (some ⟨g', 0, none⟩) (n + 1) k') (n + 1) (xs ++ news) → w.grownBy w' (some g) → (g' = g ∨ g' = w.heap.size) → B ≤ g' → K (a.put o.dst (.slice (some ⟨g', 0, none⟩) (n + 1) k')) w') :
    o.wp Try.prog a w K Q := by
  obtain ⟨g', k', w', hr, h2, h3, h4, h5, h6⟩ := run_app T o.type E Z sz by_ hi0 hu hZ hsz hby B g n k xs hown b news hl hb h1 hn hB
  unfold Oper.wp execOp
  simp only [ho, resolve, invoke, builtin, Sem.run_bind, Sem.run_pure, Result.andThen_ok, List.map_toArray, List.map_cons, List.map_nil, hs, hx, hr]
  exact h g' k' w' h2 h3 h4 h6
end Go.Proofs.Ytihndnclplkleaa
