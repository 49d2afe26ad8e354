import Derived.Test.YtaamahohdnbpiaaGreatG04
namespace Go.Proofs.YtaamahohdnbpiaaGreat
open Go.RowKit
theorem results_cell {fn : Func} {x : Tmp} {T : TypeId} (h : fn.results = #[.cell x T]) (tmps : Array Value) (w : World) (b : Nat) (V : Value) (h2 : tmps.getD x undef = .pointer (some ⟨b, 0, none⟩)) (hL : (loadVar T ⟨b, 0, none⟩).run Tryz.prog w = .ok V w) : (results fn tmps).run Tryz.prog w = .ok V w := by
  simp only [Array.getD_eq_getD_getElem?] at h2
  simp [results, h, h2, asAddr, hL]
/-- block b is a variable that holds the cells l -/
def blk (w : World) (b : Nat) (l : List Value) (T : TypeId) : Prop := w.heap[b]? = some (.cells l.toArray T (0, 0))
theorem blk.new (w : World) (l : List Value) (T : TypeId) : blk (w.alloc (.cells l.toArray T)) w.heap.size l T := heap_alloc_new w _
theorem blk.alloc {w : World} {b : Nat} {l : List Value} {T : TypeId} (h : blk w b l T) (o : Obj) : blk (w.alloc o) b l T := (Below.heap_alloc _ _ _ (lt_of_some h)).trans h
theorem blk.below {w w' : World} {b : Nat} {l : List Value} {T : TypeId} (h : blk w b l T) (hb : Below w.heap.size w w') : blk w' b l T := (hb.block _ (lt_of_some h)).trans h
theorem blk.lt {w : World} {b : Nat} {l : List Value} {T : TypeId} (h : blk w b l T) : b < w.heap.size := lt_of_some h
theorem blk.put {w : World} {b : Nat} {T : TypeId} (pre old post vs : List Value) (h : blk w b (pre ++ old ++ post) T) (hl : old.length = vs.length) : blk (w.setCells b pre.length vs) b (pre ++ vs ++ post) T := setCells_block b T vs old pre post w hl h
theorem blk.other {w : World} {b b' : Nat} {l : List Value} {T : TypeId} (h : blk w b l T) (hb : b ≠ b') (o : Nat) (vs : List Value) : blk (w.setCells b' o vs) b l T := (setCells_other b' b hb vs w o).trans h
theorem blk.load {w : World} {b : Nat} {l : List Value} {T : TypeId} (h : blk w b l T) : w.rangeAt b 0 l := range_block h
theorem blk.there {w : World} {b : Nat} {l : List Value} {T : TypeId} (h : blk w b l T) (o n : Nat) (ho : o + n ≤ l.length) : w.there b o n := there_block h o n ho
theorem blk.cell {w : World} {b : Nat} {l : List Value} {T : TypeId} (h : blk w b l T) (o : Nat) (v : Value) (ho : l[o]? = some v) : w.cell? ⟨b, o, none⟩ = some v := by
  have := range_block h o v ho
  simpa using this
theorem blk.free {w : World} {b : Nat} {l : List Value} {T : TypeId} (h : blk w b l T) (o : Nat) : w.frozen? ⟨b, o, none⟩ = false := by
  unfold World.frozen?
  rw [h]
  simp
theorem blk.kept {w w' : World} {b : Nat} {l : List Value} {T : TypeId} (h : blk w b l T) (he : w'.heap[b]? = w.heap[b]?) : blk w' b l T := he.trans h
theorem setCells_size (w : World) (b o : Nat) (vs : List Value) : (w.setCells b o vs).heap.size = w.heap.size := by rw [setCells_row, setRow_size]
theorem setCells_below {B b : Nat} (hB : B ≤ b) {w0 w : World} (o : Nat) (vs : List Value) (h : Below B w0 w) : Below B w0 (w.setCells b o vs) := by rw [setCells_row]; exact setRow_below b B hB w0 vs w o h
theorem sz93 : (Tryz.prog.info? 25).map (·.size) = some 5 := by kernel_rfl
theorem one5 (e : Bool) (i : Int) (r : Bool) (d : Int) (a : Option Addr) (n c : Nat) : (#[.bool e, .int .u32 i, .bool r, .int .i64 d, .slice a n c] : Array Value).all (·.oneCell') = true :=
  all_oneCell_toArray (by simp [Value.oneCell'])
set_option maxHeartbeats 2000000 in
set_option maxRecDepth 20000 in
/-- spec.l3copyBox -/
theorem l3copyBox_any (w : World) (x y z : Int) (e : Bool) (i : Nat) (r : Bool) (d : Int) (a : Option Addr) (n cap : Nat) (l : List Nat) (h : isBytes w a n cap l) (hn : n ≤ 1048576) :
    Calls Tryz.prog 135 #[bxV x y z e i r d a n cap] w fun o w' => ∃ g k, o = .returned (bxV x y z e i r d (some ⟨g, 0, none⟩) n k) ∧ (w.heap.size ≤ g ∧ g < w'.heap.size ∧ St (w.heap.size + 2) w' (fun W => isBytes W (some ⟨g, 0, none⟩) n k l) ∧ w.heap.size + 2 ≤ g) ∧ Below w.heap.size w w' := by
  have HH : Hid (isBytes w a n cap l) := h
  clear h
  go_enter Tryz.func135, Tryz.ntmps135
  go_wp2_with (first | (go_at_call 136; refine (l1copyFrame_any _ e i r d a n cap l (HH.out.below ?_) hn).mono ?_))
  · exact ((Below.refl _ _).alloc (Nat.le_refl _) _).alloc (by simp) _
  · rintro o w1 ⟨g, k, rfl, ⟨hg, hgz, hst, hg2⟩, hb⟩
    have HP : Hid (blk w1 w.heap.size ([.int .i64 x, .int .i64 y, .int .i64 z] ++ [.bool e, .int .u32 (i : Int), .bool r, .int .i64 d, .slice a n cap] ++ []) 97) := ((blk.new w _ 97).alloc _).below hb
    have HR : Hid (blk w1 (w.heap.size + 1) ([] ++ [.int .i64 0, .int .i64 0, .int .i64 0, .bool false, .int .u32 0, .bool false, .int .i64 0, .slice none 0 0] ++ []) 97) := by
      have := (blk.new (w.alloc (.cells [.int .i64 x, .int .i64 y, .int .i64 z, .bool e, .int .u32 (i : Int), .bool r, .int .i64 d, .slice a n cap].toArray 97)) [.int .i64 0, .int .i64 0, .int .i64 0, .bool false, .int .u32 0, .bool false, .int .i64 0, .slice none 0 0] 97).below hb
      simpa [Hid] using this
    have HB : Hid (Below w.heap.size w w1) := (((Below.refl w.heap.size w).alloc (Nat.le_refl _) _).alloc (by simp) _).trans (hb.mono (by simp; omega))
    have HG : Hid (w.heap.size + 2 ≤ g ∧ g < w1.heap.size ∧ St (w.heap.size + 2) w1 (fun W => isBytes W (some ⟨g, 0, none⟩) n k l)) := by
      simp at hg hst
      exact ⟨by omega, hgz, hst.mono (by omega)⟩
    clear hb hg hgz hst hg2
    go_wp2_with (first
      | (refine wpList_store_mid (P := Tryz.prog) rfl 25 (.tmp 6) (.tmp 5) rfl w.heap.size 3 #[.bool e, .int .u32 (i : Int), .bool r, .int .i64 d, .slice (some ⟨g, 0, none⟩) n k] rfl rfl (HP.out.there 3 5 (by simp)) sz93 (one5 _ _ _ _ _ _ _) ?_; generalize hW2 : World.setCells w1 w.heap.size 3 _ = w2; have HW2 : Hid (World.setCells w1 w.heap.size 3 [.bool e, .int .u32 (i : Int), .bool r, .int .i64 d, .slice (some ⟨g, 0, none⟩) n k] = w2) := hW2; have HP2 : Hid (blk w2 w.heap.size [.int .i64 x, .int .i64 y, .int .i64 z, .bool e, .int .u32 (i : Int), .bool r, .int .i64 d, .slice (some ⟨g, 0, none⟩) n k] 97) := (hW2 ▸ blk.put [.int .i64 x, .int .i64 y, .int .i64 z] _ [] [.bool e, .int .u32 (i : Int), .bool r, .int .i64 d, .slice (some ⟨g, 0, none⟩) n k] HP.out rfl); have HR2 : Hid (blk w2 (w.heap.size + 1) ([] ++ [.int .i64 0, .int .i64 0, .int .i64 0, .bool false, .int .u32 0, .bool false, .int .i64 0, .slice none 0 0] ++ []) 97) := (hW2 ▸ HR.out.other (by omega) _ _); clear hW2)
      | (refine wpList_load_mid (P := Tryz.prog) rfl 97 (.tmp 1) rfl w.heap.size 0 rfl _ _ HP2.out.load Tryz.underlying97 rfl sz95 ?_)
      | (refine wpList_store_mid (P := Tryz.prog) rfl 97 (.tmp 2) (.tmp 7) rfl (w.heap.size + 1) 0 _ rfl rfl (HR2.out.there 0 8 (by simp)) sz95 (one8 _ _ _ _ _ _ _ _ _ _) ?_; generalize hW3 : World.setCells w2 (w.heap.size + 1) 0 _ = w3; have HW3 : Hid (World.setCells w2 (w.heap.size + 1) 0 [.int .i64 x, .int .i64 y, .int .i64 z, .bool e, .int .u32 (i : Int), .bool r, .int .i64 d, .slice (some ⟨g, 0, none⟩) n k] = w3) := hW3; clear hW3))
    have e2 := HW2.out
    have e3 := HW3.out
    have hF : blk w3 (w.heap.size + 1) [.int .i64 x, .int .i64 y, .int .i64 z, .bool e, .int .u32 (i : Int), .bool r, .int .i64 d, .slice (some ⟨g, 0, none⟩) n k] 97 := e3 ▸ blk.put [] _ [] _ HR2.out rfl
    have hL := run_loadVar_mid (P := Tryz.prog) w3 (w.heap.size + 1) 0 97 _ _ hF.load Tryz.underlying97 rfl sz95
    refine bodyPost_ret (v := bxV x y z e i r d (some ⟨g, 0, none⟩) n k) (results_cell Tryz.results135 _ w3 (w.heap.size + 1) _ rfl hL) rfl ?_
    obtain ⟨g1, g2, g3⟩ := HG.out
    subst e2
    subst e3
    refine ⟨g, k, rfl, ⟨by omega, by rw [setCells_size, setCells_size]; exact g2, (g3.setCells _ _ (by omega) _).setCells _ _ (by omega) _, g1⟩, ?_⟩
    exact setCells_below (by omega) _ _ (setCells_below (by omega) _ _ HB.out)
/-- one record put behind a row that the call itself made -/
theorem run_app {w : World} (T R E : TypeId) (Z : Value) (sz by_ : Nat) (hi0 : (Tryz.prog.info? E).map (fun i => (i.zero, i.size, i.bytes)) = some (some Z, sz, by_)) (hu : Tryz.prog.underlying T = some (.slice E)) (hZ : Z.cells.size = sz) (hsz : 0 < sz) (hby : by_ ≤ 1000)
    (B g n k : Nat) (xs : List Value) (hown : w.ownsRow B E sz (.slice (some ⟨g, 0, none⟩) n k) n xs) (b : Nat) (news : List Value) (hl : news.length = sz) (hb : w.heap[b]? = some (.cells news.toArray E)) (h1 : ∀ u ∈ news, u.oneCell' = true) (hn : n ≤ 100000000) (hB : B ≤ w.heap.size) :
    ∃ g' k' w', (Builtin.append_ #[T, T] R #[.slice (some ⟨g, 0, none⟩) n k, .slice (some ⟨b, 0, none⟩) 1 1]).run Tryz.prog w = .ok (.slice (some ⟨g', 0, none⟩) (n + 1) k') w' ∧ w'.ownsRow B E sz (.slice (some ⟨g', 0, none⟩) (n + 1) k') (n + 1) (xs ++ news) ∧ w.grownBy w' (some g) ∧ (g' = g ∨ g' = w.heap.size) ∧ g < w'.heap.size ∧ B ≤ g' := by
  obtain ⟨i0, hi, hz0, hz1, hz2⟩ := info_parts hi0
  have hmul : (n + 1) * by_ ≤ (n + 1) * 1000 := Nat.mul_le_mul_left _ hby
  obtain ⟨v', w', hr, h2, h3, h4, h5⟩ := run_append_own_at (P := Tryz.prog) w B T R E i0 Z sz by_ hu hi hz0 hz1 hz2 hZ hsz (.slice (some ⟨g, 0, none⟩) n k) n xs hown ⟨b, 0, none⟩ 1 1 news (by rw [hl, Nat.one_mul]) (by
    intro j u hj
    have := range_block hb j u hj
    rw [Addr.add_lit]
    exact this) h1 (by unfold maxLen; omega) (by omega) hB
  have hne : v' ≠ .slice none 0 0 := by
    intro e
    obtain ⟨e1, _⟩ := h4.1 e
    cases e1
  obtain ⟨g', k', rfl, q1, q2, q3, q4⟩ := own_slice h2 hne
  refine ⟨g', k', w', hr, h2, h3, ?_, Nat.lt_of_lt_of_le (World.ownsRow.lt hown g rfl).2 h3.size, q1⟩
  rcases h5 with h | h
  · left
    simpa [Value.ownBlock] using h
  · right
    simpa [Value.ownBlock] using h
theorem app_rec {ops : Array Oper} {rest : List Oper} {o : Oper} {a : Act} {Q : Exit → Act → World → Prop} {w : World} (hgd : o.guard = none) (s x : Operand) (T E : TypeId) (Z : Value) (sz by_ : Nat) (hi0 : (Tryz.prog.info? E).map (fun i => (i.zero, i.size, i.bytes)) = some (some Z, sz, by_)) (hu : Tryz.prog.underlying T = some (.slice E)) (hZ : Z.cells.size = sz) (hsz : 0 < sz) (hby : by_ ≤ 1000)
    (ho : o.op = .call { callee := .builtin .append, args := #[s, x], argTypes := #[T, T] })
    (B g n k : Nat) (xs : List Value) (hs : a.eval s = .slice (some ⟨g, 0, none⟩) n k) (hown : w.ownsRow B E sz (.slice (some ⟨g, 0, none⟩) n k) n xs) (b : Nat) (news : List Value) (hx : a.eval x = .slice (some ⟨b, 0, none⟩) 1 1) (hl : news.length = sz) (hb : w.heap[b]? = some (.cells news.toArray E)) (h1 : ∀ u ∈ news, u.oneCell' = true) (hn : n ≤ 100000000) (hB : B ≤ w.heap.size)
    (h : ∀ g' k' w', w'.ownsRow B E sz (.slice (some ⟨g', 0, none⟩) (n + 1) k') (n + 1) (xs ++ news) → w.grownBy w' (some g) → (g' = g ∨ g' = w.heap.size) → B ≤ g' → wpList Tryz.prog ops Q rest (a.put o.dst (.slice (some ⟨g', 0, none⟩) (n + 1) k')) w') :
    wpList Tryz.prog ops Q (o :: rest) a w := by
  obtain ⟨g', k', w', hr, h2, h3, h4, h5, h6⟩ := run_app T o.type E Z sz by_ hi0 hu hZ hsz hby B g n k xs hown b news hl hb h1 hn hB
  refine wpList_plain hgd fun K hK => ?_
  unfold Oper.wp execOp
  simp only [ho, resolve, invoke, builtin, Sem.run_bind, Sem.run_pure, Result.andThen_ok, List.map_toArray, List.map_cons, List.map_nil, hs, hx, hr]
  exact hK _ _ (h g' k' w' h2 h3 h4 h6)
theorem wp_app_rec {o : Oper} {a : Act} {K : Act → World → Prop} {Q : Exit → Act → World → Prop} {w : World} (s x : Operand) (T E : TypeId) (Z : Value) (sz by_ : Nat) (hi0 : (Tryz.prog.info? E).map (fun i => (i.zero, i.size, i.bytes)) = some (some Z, sz, by_)) (hu : Tryz.prog.underlying T = some (.slice E)) (hZ : Z.cells.size = sz) (hsz : 0 < sz) (hby : by_ ≤ 1000)
    (ho : o.op = .call { callee := .builtin .append, args := #[s, x], argTypes := #[T, T] })
    (B g n k : Nat) (xs : List Value) (hs : a.eval s = .slice (some ⟨g, 0, none⟩) n k) (hown : w.ownsRow B E sz (.slice (some ⟨g, 0, none⟩) n k) n xs) (b : Nat) (news : List Value) (hx : a.eval x = .slice (some ⟨b, 0, none⟩) 1 1) (hl : news.length = sz) (hb : w.heap[b]? = some (.cells news.toArray E)) (h1 : ∀ u ∈ news, u.oneCell' = true) (hn : n ≤ 100000000) (hB : B ≤ w.heap.size)
    (h : ∀ g' k' w', w'.ownsRow B E sz (.slice (some ⟨g', 0, none⟩) (n + 1) k') (n + 1) (xs ++ news) → w.grownBy w' (some g) → (g' = g ∨ g' = w.heap.size) → B ≤ g' → K (a.put o.dst (.slice (some ⟨g', 0, none⟩) (n + 1) k')) w') :
    o.wp Tryz.prog a w K Q := by
  obtain ⟨g', k', w', hr, h2, h3, h4, h5, h6⟩ := run_app T o.type E Z sz by_ hi0 hu hZ hsz hby B g n k xs hown b news hl hb h1 hn hB
  unfold Oper.wp execOp
  simp only [ho, resolve, invoke, builtin, Sem.run_bind, Sem.run_pure, Result.andThen_ok, List.map_toArray, List.map_cons, List.map_nil, hs, hx, hr]
  exact h g' k' w' h2 h3 h4 h6
end Go.Proofs.YtaamahohdnbpiaaGreat
namespace Go.Proofs.YtaamahohdnbpiaaGreat
open Go.RowKit
/-- how a record lies in a row: its cells, and the bytes that it points to -/
structure Rc (α : Type) where
  enc : α → List Value
  ld : α → List Nat
  gd : α → Nat
  kd : α → Nat
theorem flat_at {α : Type} (f : α → List Value) (sz : Nat) (hf : ∀ p, (f p).length = sz) : ∀ (rs : List α) (j : Nat) (h : j < rs.length) (t : Nat), t < sz → (rs.flatMap f)[j * sz + t]? = (f rs[j])[t]? := by
  intro rs
  induction rs with
  | nil => intro j h; exact absurd h (Nat.not_lt_zero _)
  | cons p rs ih =>
    intro j h t ht
    rw [List.flatMap_cons]
    cases j with
    | zero => rw [Nat.zero_mul, Nat.zero_add, List.getElem?_append_left (by rw [hf]; exact ht)]; rfl
    | succ j =>
      rw [List.getElem?_append_right (by rw [hf, Nat.succ_mul]; omega), hf, show (j + 1) * sz + t - sz = j * sz + t by rw [Nat.succ_mul]; omega, ih j (by simpa using h) t ht]
      rfl
structure ownG {α : Type} (F : Rc α) (w : World) (B E sz g k : Nat) (rs : List α) : Prop where
  own : w.ownsRow B E sz (.slice (some ⟨g, 0, none⟩) rs.length k) rs.length (rs.flatMap F.enc)
  dat : ∀ p ∈ rs, isBytes w (some ⟨F.gd p, 0, none⟩) (F.ld p).length (F.kd p) (F.ld p) ∧ B ≤ F.gd p ∧ F.gd p ≠ g ∧ F.gd p < w.heap.size
theorem ownsRow_kept {w w' : World} {B E sz g n k : Nat} {xs : List Value} (h : w.ownsRow B E sz (.slice (some ⟨g, 0, none⟩) n k) n xs) (he : w'.heap[g]? = w.heap[g]?) : w'.ownsRow B E sz (.slice (some ⟨g, 0, none⟩) n k) n xs := by
  refine ⟨h.1, ?_⟩
  rcases h.2 with ⟨e, _⟩ | ⟨g1, cap, cur, hv', hb, hg, hcp, hmx, hsz, htk⟩
  · cases e
  · have e1 : g1 = g := by cases hv'; rfl
    subst e1
    exact .inr ⟨g1, cap, cur, hv', hb, he.trans hg, hcp, hmx, hsz, htk⟩
theorem ownG.lt {α : Type} {F : Rc α} {w : World} {B E sz g k : Nat} {rs : List α} (h : ownG F w B E sz g k rs) : B ≤ g ∧ g < w.heap.size := World.ownsRow.lt h.own g rfl
theorem ownG.kept {α : Type} {F : Rc α} {w w' : World} {B E sz g k : Nat} {rs : List α} (h : ownG F w B E sz g k rs) (he : ∀ b, B ≤ b → b < w.heap.size → w'.heap[b]? = w.heap[b]?) (hz : w.heap.size ≤ w'.heap.size) : ownG F w' B E sz g k rs := by
  have hl := h.lt
  refine ⟨ownsRow_kept h.own (he g hl.1 hl.2), fun p hp => ?_⟩
  obtain ⟨h1, h2, h3, h4⟩ := h.dat p hp
  exact ⟨h1.other (he _ h2 h4), h2, h3, Nat.lt_of_lt_of_le h4 hz⟩
theorem ownG.below {α : Type} {F : Rc α} {w w' : World} {B E sz g k : Nat} {rs : List α} (h : ownG F w B E sz g k rs) (hb : Below w.heap.size w w') : ownG F w' B E sz g k rs := h.kept (fun b _ h2 => hb.block b h2) hb.size
theorem ownG.alloc {α : Type} {F : Rc α} {w : World} {B E sz g k : Nat} {rs : List α} (h : ownG F w B E sz g k rs) (o : Obj) : ownG F (w.alloc o) B E sz g k rs := h.kept (fun b _ h2 => Below.heap_alloc _ _ _ h2) (by simp)
theorem ownG.set {α : Type} {F : Rc α} {w : World} {B E sz g k : Nat} {rs : List α} (h : ownG F w B E sz g k rs) (b o : Nat) (hb : b < B) (vs : List Value) : ownG F (w.setCells b o vs) B E sz g k rs := h.kept (fun k hk _ => setCells_other b k (by omega) vs w o) (by rw [setCells_size]; exact Nat.le_refl _)
theorem ownG.nil {α : Type} (F : Rc α) (w : World) (B E sz : Nat) (hB : B ≤ w.heap.size) : ownG F (w.alloc (.cells #[] E)) B E sz w.heap.size 0 [] :=
  ⟨World.ownsRow_made w #[] 0 hB (by decide) (by simp), fun p hp => by cases hp⟩
theorem ownG.snoc {α : Type} {F : Rc α} {w w' : World} {B E sz g k g' k' : Nat} {rs : List α} (h : ownG F w B E sz g k rs) (p : α) (hd : isBytes w (some ⟨F.gd p, 0, none⟩) (F.ld p).length (F.kd p) (F.ld p)) (h1 : B ≤ F.gd p) (h2 : F.gd p ≠ g) (h3 : F.gd p < w.heap.size)
    (ho : w'.ownsRow B E sz (.slice (some ⟨g', 0, none⟩) (rs.length + 1) k') (rs.length + 1) (rs.flatMap F.enc ++ F.enc p)) (hg : w.grownBy w' (some g)) (hg' : g' = g ∨ g' = w.heap.size) : ownG F w' B E sz g' k' (rs ++ [p]) := by
  refine ⟨?_, fun q hq => ?_⟩
  · have e1 : (rs ++ [p]).length = rs.length + 1 := by simp
    have e2 : (rs ++ [p]).flatMap F.enc = rs.flatMap F.enc ++ F.enc p := by simp
    rw [e1, e2]
    exact ho
  · have key : isBytes w (some ⟨F.gd q, 0, none⟩) (F.ld q).length (F.kd q) (F.ld q) ∧ B ≤ F.gd q ∧ F.gd q ≠ g ∧ F.gd q < w.heap.size := by
      rcases List.mem_append.1 hq with hq | hq
      · exact h.dat q hq
      · have e : q = p := by simpa using hq
        subst e
        exact ⟨hd, h1, h2, h3⟩
    obtain ⟨k1, k2, k3, k4⟩ := key
    refine ⟨k1.other (hg.block _ k4 (by intro e; exact k3 (Option.some.inj e))), k2, ?_, Nat.lt_of_lt_of_le k4 hg.size⟩
    rcases hg' with rfl | rfl
    · exact k3
    · omega
/-- a record of eight cells with the place of its bytes -/
def rc8 : Rc (R8 × Nat × Nat) := ⟨fun p => [.int .i64 p.1.x, .int .i64 p.1.y, .int .i64 p.1.z, .bool p.1.e, .int .u32 (p.1.i : Int), .bool p.1.r, .int .i64 p.1.d, .slice (some ⟨p.2.1, 0, none⟩) p.1.l.length p.2.2], fun p => p.1.l, fun p => p.2.1, fun p => p.2.2⟩
def rc5 : Rc (R5 × Nat × Nat) := ⟨fun p => [.bool p.1.e, .int .u32 (p.1.i : Int), .bool p.1.r, .int .i64 p.1.d, .slice (some ⟨p.2.1, 0, none⟩) p.1.l.length p.2.2], fun p => p.1.l, fun p => p.2.1, fun p => p.2.2⟩
theorem ownG.r8 {w : World} {B E g k : Nat} {rs : List (R8 × Nat × Nat)} (h : ownG rc8 w B E 8 g k rs) : St B w (fun W => isR8s W (some ⟨g, 0, none⟩) rs.length k (rs.map (·.1))) := by
  intro W hW
  have hl := h.lt
  have hwW := fun b hb1 hb2 => hW b hb1 hb2
  obtain ⟨g1, c1, e1, q1, q2, q3, q4⟩ := own_slice h.own (by intro e; cases e)
  cases e1
  refine ⟨by simp, q3, fun _ => ⟨g, 0, rfl, fun j hj => ?_⟩⟩
  have hj' : j < rs.length := by simpa using hj
  obtain ⟨d1, d2, d3, d4⟩ := h.dat rs[j] (List.getElem_mem hj')
  have hc : ∀ t, t < 8 → W.cell? ⟨g, j * 8 + t, none⟩ = (rc8.enc rs[j])[t]? := fun t ht => by
    rw [q4 W (hW g hl.1 hl.2) (j * 8 + t) (by omega), flat_at rc8.enc 8 (fun _ => rfl) rs j hj' t ht]
  rw [Nat.zero_add, List.getElem_map]
  exact ⟨_, _, _, hc 0 (by omega), hc 1 (by omega), hc 2 (by omega), hc 3 (by omega), hc 4 (by omega), hc 5 (by omega), hc 6 (by omega), hc 7 (by omega), d1.other (hW _ d2 d4)⟩
theorem ownG.r5 {w : World} {B E g k : Nat} {rs : List (R5 × Nat × Nat)} (h : ownG rc5 w B E 5 g k rs) : St B w (fun W => isR5s W (some ⟨g, 0, none⟩) rs.length k (rs.map (·.1))) := by
  intro W hW
  have hl := h.lt
  obtain ⟨g1, c1, e1, q1, q2, q3, q4⟩ := own_slice h.own (by intro e; cases e)
  cases e1
  refine ⟨by simp, q3, fun _ => ⟨g, 0, rfl, fun j hj => ?_⟩⟩
  have hj' : j < rs.length := by simpa using hj
  obtain ⟨d1, d2, d3, d4⟩ := h.dat rs[j] (List.getElem_mem hj')
  have hc : ∀ t, t < 5 → W.cell? ⟨g, j * 5 + t, none⟩ = (rc5.enc rs[j])[t]? := fun t ht => by
    rw [q4 W (hW g hl.1 hl.2) (j * 5 + t) (by omega), flat_at rc5.enc 5 (fun _ => rfl) rs j hj' t ht]
  rw [Nat.zero_add, List.getElem_map]
  exact ⟨_, _, _, hc 0 (by omega), hc 1 (by omega), hc 2 (by omega), hc 3 (by omega), hc 4 (by omega), d1.other (hW _ d2 d4)⟩
end Go.Proofs.YtaamahohdnbpiaaGreat
namespace Go.Proofs.YtaamahohdnbpiaaGreat
open Go.RowKit
theorem at8.range {w : World} {g o : Nat} {b : R8} {ao : Option Addr} {m c : Nat} (h : at8 w g o b ao m c) : w.rangeAt g o [.int .i64 b.x, .int .i64 b.y, .int .i64 b.z, .bool b.e, .int .u32 (b.i : Int), .bool b.r, .int .i64 b.d, .slice ao m c] := by
  intro j v hv
  match j, hv with
  | 0, hv => cases hv; exact h.c0
  | 1, hv => cases hv; exact h.c1
  | 2, hv => cases hv; exact h.c2
  | 3, hv => cases hv; exact h.c3
  | 4, hv => cases hv; exact h.c4
  | 5, hv => cases hv; exact h.c5
  | 6, hv => cases hv; exact h.c6
  | 7, hv => cases hv; exact h.cs
theorem at5.range {w : World} {g o : Nat} {b : R5} {ao : Option Addr} {m c : Nat} (h : at5 w g o b ao m c) : w.rangeAt g o [.bool b.e, .int .u32 (b.i : Int), .bool b.r, .int .i64 b.d, .slice ao m c] := by
  intro j v hv
  match j, hv with
  | 0, hv => cases hv; exact h.c0
  | 1, hv => cases hv; exact h.c1
  | 2, hv => cases hv; exact h.c2
  | 3, hv => cases hv; exact h.c3
  | 4, hv => cases hv; exact h.cs
theorem at3.range {w : World} {g o : Nat} {b : R3} (h : at3 w g o b) : w.rangeAt g o [.bool b.e, .int .u32 b.m, .int .u32 b.k] := by
  intro j v hv
  match j, hv with
  | 0, hv => cases hv; exact h.c0
  | 1, hv => cases hv; exact h.c1
  | 2, hv => cases hv; exact h.c2
theorem blk.loadAt {w : World} {b : Nat} (pre mid post : List Value) {T : TypeId} (h : blk w b (pre ++ mid ++ post) T) : w.rangeAt b pre.length mid := by
  intro j v hv
  have hj : j < mid.length := (List.getElem?_eq_some_iff.1 hv).1
  refine h.cell _ _ ?_
  rw [List.append_assoc, List.getElem?_append_right (by omega), Nat.add_sub_cancel_left, List.getElem?_append_left hj]
  exact hv
theorem one8L (x y z : Int) (e : Bool) (i : Int) (r : Bool) (d : Int) (a : Option Addr) (n c : Nat) : ∀ u ∈ [Value.int .i64 x, .int .i64 y, .int .i64 z, .bool e, .int .u32 i, .bool r, .int .i64 d, .slice a n c], u.oneCell' = true := by
  intro u hu
  simp only [List.mem_cons, List.not_mem_nil, or_false] at hu
  rcases hu with rfl | rfl | rfl | rfl | rfl | rfl | rfl | rfl <;> rfl
theorem take8 {bs : List R8} {rs : List (R8 × Nat × Nat)} {k : Nat} (h : rs.map (·.1) = bs.take k) (hk : k < bs.length) (p : R8 × Nat × Nat) (hp : p.1 = bs[k]) : (rs ++ [p]).map (·.1) = bs.take (k + 1) := by
  rw [List.map_append, h, List.take_succ_eq_append_getElem hk, List.map_cons, List.map_nil, hp]
theorem take8_len {bs : List R8} {rs : List (R8 × Nat × Nat)} {k : Nat} (h : rs.map (·.1) = bs.take k) (hk : k ≤ bs.length) : rs.length = k := by
  have := congrArg List.length h
  rw [List.length_map, List.length_take] at this
  omega
end Go.Proofs.YtaamahohdnbpiaaGreat
