import Derived.Test.YtjmlalojfghkiaaDoorR04
namespace Go.Proofs.YtjmlalojfghkiaaDoor
open Go.RowKit
set_option maxHeartbeats 4000000 in
set_option maxRecDepth 20000 in
theorem l2take_id (w : World) (f : Int) (hf : f = 2 ∨ f = 5) (e : Bool) (i : Nat) (hi : i < 536870912) (r : Bool) (d : Int) (a : Option Addr) (n cap : Nat) (t : Int) (b : Nat) (hb : b < 2) :
    Calls Tryd.prog 23 #[frV e i r d a n cap, .int .i64 f, .int .i64 t, .int .i64 (b : Int)] w fun o w' => o = .returned (frV e ((2 * i + b) % 536870912) r d a n cap) ∧ Below w.heap.size w w' := by
  have HE : Hid ((2 * (i : Int) + (b : Int)) % 536870912 = (((2 * i + b) % 536870912 : Nat) : Int)) := by show _ = _; omega
  have HI : Hid (i < 536870912) := hi
  have hi2 : (i : Int) < 1000000000 := by omega
  clear hi
  generalize (2 * i + b) % 536870912 = i' at *
  rcases hf with rfl | rfl
  all_goals
    go_enter Tryd.func23, Tryd.ntmps23
    go_wp2
    refine bodyPost_ret (v := frV e i' r d a n cap) (by simp [results, Tryd.results23, go_sem, HE.out]) rfl ?_
    exact ⟨rfl, ((Below.refl _ _).alloc (Nat.le_refl _) _).alloc (by simp) _⟩
set_option maxHeartbeats 4000000 in
set_option maxRecDepth 20000 in
theorem l2take_rtr (w : World) (f : Int) (hf : f = 3 ∨ f = 6) (e : Bool) (i : Nat) (r : Bool) (d : Int) (a : Option Addr) (n cap : Nat) (t : Int) (b : Nat) (hb : b < 2) :
    Calls Tryd.prog 23 #[frV e i r d a n cap, .int .i64 f, .int .i64 t, .int .i64 (b : Int)] w fun o w' => o = .returned (frV e i (b == 1) d a n cap) ∧ Below w.heap.size w w' := by
  have hb' : b = 0 ∨ b = 1 := by omega
  rcases hf with rfl | rfl <;> rcases hb' with rfl | rfl
  all_goals
    go_enter Tryd.func23, Tryd.ntmps23
    go_wp2
    refine bodyPost_ret (v := frV e i _ d a n cap) (by simp [results, Tryd.results23, go_sem]; rfl) rfl ?_
    exact ⟨rfl, ((Below.refl _ _).alloc (Nat.le_refl _) _).alloc (by simp) _⟩
set_option maxHeartbeats 4000000 in
set_option maxRecDepth 20000 in
theorem l2take_ide (w : World) (e : Bool) (i : Nat) (r : Bool) (d : Int) (a : Option Addr) (n cap : Nat) (t : Int) (b : Nat) (hb : b < 2) :
    Calls Tryd.prog 23 #[frV e i r d a n cap, .int .i64 4, .int .i64 t, .int .i64 (b : Int)] w fun o w' => o = .returned (frV (b == 1) i (if b = 1 then false else r) d a n cap) ∧ Below w.heap.size w w' := by
  have hb' : b = 0 ∨ b = 1 := by omega
  rcases hb' with rfl | rfl
  · go_enter Tryd.func23, Tryd.ntmps23
    go_wp2
    refine bodyPost_ret (v := frV false i r d a n cap) (by simp [results, Tryd.results23, go_sem]) rfl ?_
    exact ⟨rfl, ((Below.refl _ _).alloc (Nat.le_refl _) _).alloc (by simp) _⟩
  · go_enter Tryd.func23, Tryd.ntmps23
    go_wp2
    refine bodyPost_ret (v := frV true i false d a n cap) (by simp [results, Tryd.results23, go_sem]) rfl ?_
    exact ⟨rfl, ((Below.refl _ _).alloc (Nat.le_refl _) _).alloc (by simp) _⟩
set_option maxHeartbeats 4000000 in
set_option maxRecDepth 20000 in
theorem l2take_dlc (w : World) (e : Bool) (i : Nat) (r : Bool) (d : Int) (hd : 0 ≤ d) (hd1 : d ≤ 15) (a : Option Addr) (n cap : Nat) (t : Int) (b : Nat) (hb : b < 2) :
    Calls Tryd.prog 23 #[frV e i r d a n cap, .int .i64 8, .int .i64 t, .int .i64 (b : Int)] w fun o w' => o = .returned (frV e i r ((2 * d + b) % 16) a n cap) ∧ Below w.heap.size w w' := by
  go_enter Tryd.func23, Tryd.ntmps23
  go_wp2
  refine bodyPost_ret (v := frV e i r ((2 * d + b) % 16) a n cap) (by simp [results, Tryd.results23, go_sem]) rfl ?_
  exact ⟨rfl, ((Below.refl _ _).alloc (Nat.le_refl _) _).alloc (by simp) _⟩
set_option maxHeartbeats 4000000 in
set_option maxRecDepth 20000 in
theorem l2take_oth (w : World) (f : Int) (h2 : f ≠ 2) (h3 : f ≠ 3) (h4 : f ≠ 4) (h5 : f ≠ 5) (h6 : f ≠ 6) (h8 : f ≠ 8) (h9 : f ≠ 9) (e : Bool) (i : Nat) (r : Bool) (d : Int) (a : Option Addr) (n cap : Nat) (t : Int) (b : Nat) :
    Calls Tryd.prog 23 #[frV e i r d a n cap, .int .i64 f, .int .i64 t, .int .i64 (b : Int)] w fun o w' => o = .returned (frV e i r d a n cap) ∧ Below w.heap.size w w' := by
  go_enter Tryd.func23, Tryd.ntmps23
  go_wp2
  refine bodyPost_ret (v := frV e i r d a n cap) (by simp [results, Tryd.results23, go_sem]) rfl ?_
  exact ⟨rfl, ((Below.refl _ _).alloc (Nat.le_refl _) _).alloc (by simp) _⟩
/-- one record put behind a row that the call itself made -/
theorem run_app {w : World} (T R E : TypeId) (Z : Value) (sz by_ : Nat) (hi0 : (Tryd.prog.info? E).map (fun i => (i.zero, i.size, i.bytes)) = some (some Z, sz, by_)) (hu : Tryd.prog.underlying T = some (.slice E)) (hZ : Z.cells.size = sz) (hsz : 0 < sz) (hby : by_ ≤ 1000)
    (B g n k : Nat) (xs : List Value) (hown : w.ownsRow B E sz (.slice (some ⟨g, 0, none⟩) n k) n xs) (b : Nat) (news : List Value) (hl : news.length = sz) (hb : w.heap[b]? = some (.cells news.toArray E)) (h1 : ∀ u ∈ news, u.oneCell' = true) (hn : n ≤ 100000000) (hB : B ≤ w.heap.size) :
    ∃ g' k' w', (Builtin.append_ #[T, T] R #[.slice (some ⟨g, 0, none⟩) n k, .slice (some ⟨b, 0, none⟩) 1 1]).run Tryd.prog w = .ok (.slice (some ⟨g', 0, none⟩) (n + 1) k') w' ∧ w'.ownsRow B E sz (.slice (some ⟨g', 0, none⟩) (n + 1) k') (n + 1) (xs ++ news) ∧ w.grownBy w' (some g) ∧ (g' = g ∨ g' = w.heap.size) ∧ g < w'.heap.size ∧ B ≤ g' := by
  obtain ⟨i0, hi, hz0, hz1, hz2⟩ := info_parts hi0
  have hmul : (n + 1) * by_ ≤ (n + 1) * 1000 := Nat.mul_le_mul_left _ hby
  obtain ⟨v', w', hr, h2, h3, h4, h5⟩ := run_append_own_at (P := Tryd.prog) w B T R E i0 Z sz by_ hu hi hz0 hz1 hz2 hZ hsz (.slice (some ⟨g, 0, none⟩) n k) n xs hown ⟨b, 0, none⟩ 1 1 news (by rw [hl, Nat.one_mul]) (by
    intro j u hj
    have := range_block hb j u hj
    rw [Addr.add_lit]
    exact this) h1 (by unfold maxLen; omega) (by omega) hB
  have hne : v' ≠ .slice none 0 0 := by
    intro e
    obtain ⟨e1, _⟩ := h4.1 e
    cases e1
  obtain ⟨g', k', rfl, q1, q2, q3, q4⟩ := own_slice h2 hne
  refine ⟨g', k', w', hr, h2, h3, ?_, Nat.lt_of_lt_of_le (World.ownsRow.lt hown g rfl).2 h3.size, q1⟩
  rcases h5 with h | h
  · left
    simpa [Value.ownBlock] using h
  · right
    simpa [Value.ownBlock] using h
theorem app_rec {ops : Array Oper} {rest : List Oper} {o : Oper} {a : Act} {Q : Exit → Act → World → Prop} {w : World} (hgd : o.guard = none) (s x : Operand) (T E : TypeId) (Z : Value) (sz by_ : Nat) (hi0 : (Tryd.prog.info? E).map (fun i => (i.zero, i.size, i.bytes)) = some (some Z, sz, by_)) (hu : Tryd.prog.underlying T = some (.slice E)) (hZ : Z.cells.size = sz) (hsz : 0 < sz) (hby : by_ ≤ 1000)
    (ho : o.op = .call { callee := .builtin .append, args := #[s, x], argTypes := #[T, T] })
    (B g n k : Nat) (xs : List Value) (hs : a.eval s = .slice (some ⟨g, 0, none⟩) n k) (hown : w.ownsRow B E sz (.slice (some ⟨g, 0, none⟩) n k) n xs) (b : Nat) (news : List Value) (hx : a.eval x = .slice (some ⟨b, 0, none⟩) 1 1) (hl : news.length = sz) (hb : w.heap[b]? = some (.cells news.toArray E)) (h1 : ∀ u ∈ news, u.oneCell' = true) (hn : n ≤ 100000000) (hB : B ≤ w.heap.size)
    (h : ∀ g' k' w', w'.ownsRow B E sz (.slice (some ⟨g', 0, none⟩) (n + 1) k') (n + 1) (xs ++ news) → w.grownBy w' (some g) → (g' = g ∨ g' = w.heap.size) → B ≤ g' → wpList Tryd.prog ops Q rest (a.put o.dst (.slice (some ⟨g', 0, none⟩) (n + 1) k')) w') :
    wpList Tryd.prog ops Q (o :: rest) a w := by
  obtain ⟨g', k', w', hr, h2, h3, h4, h5, h6⟩ := run_app T o.type E Z sz by_ hi0 hu hZ hsz hby B g n k xs hown b news hl hb h1 hn hB
  refine wpList_plain hgd fun K hK => ?_
  unfold Oper.wp execOp
  simp only [ho, resolve, invoke, builtin, Sem.run_bind, Sem.run_pure, Result.andThen_ok, List.map_toArray, List.map_cons, List.map_nil, hs, hx, hr]
  exact hK _ _ (h g' k' w' h2 h3 h4 h6)
set_option maxHeartbeats 4000000 in
set_option maxRecDepth 20000 in
theorem l2take_app (w : World) (B : Nat) (hB : B ≤ w.heap.size) (e : Bool) (i : Nat) (r : Bool) (d : Int) (g n k : Nat) (l : List Nat) (ho : ownsB w B (.slice (some ⟨g, 0, none⟩) n k) l) (hn : n = l.length) (hn8 : n ≤ 8) (t : Nat) (ht : t % 8 = 0) (ht1 : t ≤ 100) (b : Nat) (hb : b < 2) :
    Calls Tryd.prog 23 #[frV e i r d (some ⟨g, 0, none⟩) n k, .int .i64 9, .int .i64 (t : Int), .int .i64 (b : Int)] w fun o w' => ∃ g' k', o = .returned (frV e i r d (some ⟨g', 0, none⟩) (n + 1) k') ∧ ownsB w' B (.slice (some ⟨g', 0, none⟩) (n + 1) k') (l ++ [b]) ∧ Below B w w' ∧ (∀ q, q ≠ g → q < w.heap.size → w'.heap[q]? = w.heap[q]?) ∧ (g' = g ∨ w.heap.size ≤ g') := by
  have HL : Hid (n = l.length) := hn
  have hgl := World.ownsRow.lt ho g rfl
  have HGL : Hid (B ≤ g ∧ g < w.heap.size) := hgl
  have HO : Hid (World.ownsRow (((w.alloc (.cells #[.bool e, .int .u32 (i : Int), .bool r, .int .i64 d, .slice (some ⟨g, 0, none⟩) n k] 29)).alloc (.cells #[.bool false, .int .u32 0, .bool false, .int .i64 0, .slice none 0 0] 29)).alloc (.cells #[.int .u8 (b : Int)] 5)) B 5 1 (.slice (some ⟨g, 0, none⟩) n k) n (bv l)) := by
    have := ho.below ((((Below.refl w.heap.size w).alloc (Nat.le_refl _) (.cells #[.bool e, .int .u32 (i : Int), .bool r, .int .i64 d, .slice (some ⟨g, 0, none⟩) n k] 29)).alloc (by simp) (.cells #[.bool false, .int .u32 0, .bool false, .int .i64 0, .slice none 0 0] 29)).alloc (by simp; omega) (.cells #[.int .u8 (b : Int)] 5))
    unfold ownsB at this
    rw [← hn] at this
    exact this
  have HP : Hid (blk (((w.alloc (.cells #[.bool e, .int .u32 (i : Int), .bool r, .int .i64 d, .slice (some ⟨g, 0, none⟩) n k] 29)).alloc (.cells #[.bool false, .int .u32 0, .bool false, .int .i64 0, .slice none 0 0] 29)).alloc (.cells #[.int .u8 (b : Int)] 5)) w.heap.size [.bool e, .int .u32 (i : Int), .bool r, .int .i64 d, .slice (some ⟨g, 0, none⟩) n k] 29) := ((blk.new w _ 29).alloc _).alloc _
  have HR : Hid (blk (((w.alloc (.cells #[.bool e, .int .u32 (i : Int), .bool r, .int .i64 d, .slice (some ⟨g, 0, none⟩) n k] 29)).alloc (.cells #[.bool false, .int .u32 0, .bool false, .int .i64 0, .slice none 0 0] 29)).alloc (.cells #[.int .u8 (b : Int)] 5)) (w.heap.size + 1) ([] ++ [.bool false, .int .u32 0, .bool false, .int .i64 0, .slice none 0 0] ++ []) 29) := by
    have := (blk.new (w.alloc (.cells #[.bool e, .int .u32 (i : Int), .bool r, .int .i64 d, .slice (some ⟨g, 0, none⟩) n k] 29)) [.bool false, .int .u32 0, .bool false, .int .i64 0, .slice none 0 0] 29).alloc (.cells #[.int .u8 (b : Int)] 5)
    simpa [Hid] using this
  have HX : Hid (blk (((w.alloc (.cells #[.bool e, .int .u32 (i : Int), .bool r, .int .i64 d, .slice (some ⟨g, 0, none⟩) n k] 29)).alloc (.cells #[.bool false, .int .u32 0, .bool false, .int .i64 0, .slice none 0 0] 29)).alloc (.cells #[.int .u8 (b : Int)] 5)) (w.heap.size + 1 + 1) [.int .u8 (b : Int)] 5) := by
    have := blk.new ((w.alloc (.cells #[.bool e, .int .u32 (i : Int), .bool r, .int .i64 d, .slice (some ⟨g, 0, none⟩) n k] 29)).alloc (.cells #[.bool false, .int .u32 0, .bool false, .int .i64 0, .slice none 0 0] 29)) [.int .u8 (b : Int)] 5
    simpa [Hid] using this
  have HBL : Hid (Below w.heap.size w (((w.alloc (.cells #[.bool e, .int .u32 (i : Int), .bool r, .int .i64 d, .slice (some ⟨g, 0, none⟩) n k] 29)).alloc (.cells #[.bool false, .int .u32 0, .bool false, .int .i64 0, .slice none 0 0] 29)).alloc (.cells #[.int .u8 (b : Int)] 5))) := (((Below.refl w.heap.size w).alloc (Nat.le_refl _) _).alloc (by simp) _).alloc (by simp; omega) _
  have h8 : ((t : Int)).tmod 8 = 0 := by rw [Int.tmod_eq_emod_of_nonneg (by omega)]; omega
  clear ho hn hgl
  go_enter Tryd.func23, Tryd.ntmps23
  go_wp2_with (first
    | (at_builtin; refine app_rec rfl (.tmp 51) (.tmp 54) 23 5 _ 1 1 Tryd.info5 Tryd.underlying23 rfl (by decide) (by decide) rfl B g n k (bv l) rfl HO.out (w.heap.size + 1 + 1) [.int .u8 (b : Int)] rfl rfl HX.out (by intro u hu; simp at hu; subst hu; rfl) (by omega) (by simp; omega) ?_; intro g' k' w6 ho6 hg6 hg' hB6; have hgl := HGL.out; have P6 := HP.out.kept (hg6.block _ (by simp; omega) (by intro e; cases e; omega)); have R6 := HR.out.kept (hg6.block _ (by simp) (by intro e; cases e; omega)); have x4 := P6.cell 4 _ rfl; have f4 := P6.free 4; have HP6 : Hid (blk w6 w.heap.size [.bool e, .int .u32 (i : Int), .bool r, .int .i64 d, .slice (some ⟨g, 0, none⟩) n k] 29) := P6; have HR6 : Hid (blk w6 (w.heap.size + 1) ([] ++ [.bool false, .int .u32 0, .bool false, .int .i64 0, .slice none 0 0] ++ []) 29) := R6; have HO6 : Hid (w6.ownsRow B 5 1 (.slice (some ⟨g', 0, none⟩) (n + 1) k') (n + 1) (bv l ++ [.int .u8 (b : Int)])) := ho6; have HO66 : Hid ((∀ q, q ≠ g → q < w.heap.size → w6.heap[q]? = w.heap[q]?) ∧ (g' = g ∨ w.heap.size ≤ g')) := ⟨fun q h1 h2 => (hg6.block q (by simp; omega) (by intro e; cases e; exact h1 rfl)).trans (HBL.out.block q h2), Or.elim hg' (fun h => Or.inl h) (fun h => Or.inr (by rw [h]; simp; omega))⟩; have HB6 : Hid (Below B w w6 ∧ (g' < w.heap.size ∨ w.heap.size + 1 < g')) := ⟨(HBL.out.mono hB).grown hg6 (by simp; omega) (by intro q hq; cases hq; exact hgl.1), Or.elim hg' (fun h => Or.inl (by omega)) (fun h => Or.inr (by rw [h]; simp))⟩; clear P6 R6 ho6 hg6 hgl hg' hB6)
    | (refine wpList_load_mid (P := Tryd.prog) rfl 29 (.tmp 4) rfl w.heap.size 0 rfl _ _ (HP6.out.set 4 (.slice (some ⟨g', 0, none⟩) (n + 1) k')).load Tryd.underlying29 rfl sz29 ?_)
    | (refine wpList_store_mid (P := Tryd.prog) rfl 29 (.tmp 8) (.tmp 74) rfl (w.heap.size + 1) 0 #[.bool e, .int .u32 (i : Int), .bool r, .int .i64 d, .slice (some ⟨g', 0, none⟩) (n + 1) k'] rfl rfl ((HR6.out.setOther (by omega) 4 (.slice (some ⟨g', 0, none⟩) (n + 1) k')).there 0 5 (by simp)) sz29 (one5 _ _ _ _ _ _ _) ?_; generalize hW8 : World.setCells (World.setCell _ _ _) (w.heap.size + 1) 0 _ = w8; have HW8 : Hid (World.setCells (w6.setCell ⟨w.heap.size, 4, none⟩ (.slice (some ⟨g', 0, none⟩) (n + 1) k')) (w.heap.size + 1) 0 [.bool e, .int .u32 (i : Int), .bool r, .int .i64 d, .slice (some ⟨g', 0, none⟩) (n + 1) k'] = w8) := hW8; clear hW8))
  have e8 := HW8.out
  have hF : blk w8 (w.heap.size + 1) [.bool e, .int .u32 (i : Int), .bool r, .int .i64 d, .slice (some ⟨g', 0, none⟩) (n + 1) k'] 29 := e8 ▸ blk.put [] [.bool false, .int .u32 0, .bool false, .int .i64 0, .slice none 0 0] [] _ (HR6.out.setOther (by omega) 4 _) rfl
  have hL := run_loadVar_mid (P := Tryd.prog) w8 (w.heap.size + 1) 0 29 _ _ hF.load Tryd.underlying29 rfl sz29
  refine bodyPost_ret (v := frV e i r d (some ⟨g', 0, none⟩) (n + 1) k') (results_cell Tryd.results23 _ w8 (w.heap.size + 1) _ rfl hL) rfl ?_
  obtain ⟨b1, b2⟩ := HB6.out
  refine ⟨g', k', rfl, ?_, ?_, fun q h1 h2 => ?_, HO66.out.2⟩
  · have h1 := ownsRow_keep (w' := w8) HO6.out (by rw [← e8, setCells_other _ _ (by omega), heap_setCell_other _ _ _ _ (by show g' ≠ w.heap.size; omega)])
    unfold ownsB
    rw [bv_append, List.length_append, ← HL.out]
    exact h1
  · rw [← e8]
    exact setCells_below (by omega) _ _ (b1.setCell (by show B ≤ w.heap.size; omega) _)
  · rw [← e8, setCells_other _ _ (by omega), heap_setCell_other _ _ _ _ (by show q ≠ w.heap.size; omega)]
    exact HO66.out.1 q h1 h2
end Go.Proofs.YtjmlalojfghkiaaDoor
