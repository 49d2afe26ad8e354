import Derived.Test.YtiaddabmiponoaaS24
import Derived.Deep.DeepCutAuto
namespace Go.Proofs.Ytiaddabmiponoaa
open Go.RowKit
set_option linter.unusedVariables false
theorem blk.set {w : World} {b : Nat} {l : List Value} {T : TypeId} (h : blk w b l T) (o : Nat) (v : Value) : blk (w.setCell ⟨b, o, none⟩ v) b (l.set o v) T := by
  have := heap_setCell_same w b o _ _ v h
  simpa [blk] using this
theorem sz38 : (Try.prog.info? 38).map (·.size) = some 7 := by kernel_rfl
theorem one38 (a n : Int) (e : Bool) (i : Int) (r : Bool) (d : Int) (ao : Option Addr) (m c : Nat) : (#[.int .i64 a, .int .i64 n, .bool e, .int .u32 i, .bool r, .int .i64 d, .slice ao m c] : Array Value).all (·.oneCell') = true := all_oneCell_toArray (by simp [Value.oneCell'])
/-- slotAt at work: n letters have been read -/
structure saS (s : ByteArray) (a : Nat) (w : World) (n : Nat) (W : World) : Prop where
  r : blk W w.heap.size [.int .i64 0, .int .i64 0, .bool false, .int .u32 0, .bool false, .int .i64 0, .slice none 0 0] 38
  v : ∃ (e : Bool) (i : Nat) (r : Bool) (d : Int) (ao : Option Addr) (m cap : Nat), blk W (w.heap.size + 1) [.int .i64 (a : Int), .int .i64 (n : Int), .bool e, .int .u32 (i : Int), .bool r, .int .i64 d, .slice ao m cap] 38 ∧ (1 ≤ n → (e = (fk s a n).ext ∧ i = (fk s a n).id ∧ r = (fk s a n).rtr ∧ d = ((fk s a n).dlc : Int) ∧ m = (fk s a n).data.length) ∧ ownsB W (w.heap.size + 2) (.slice ao m cap) (fk s a n).data)
  b : Below w.heap.size w W
/-- what slotAt answers -/
def saR (s : ByteArray) (a : Nat) (w : World) (o : Ending) (w' : World) : Prop := ((∃ n ao cap, fnd s a n ∧ o = .returned (.tuple #[.agg [.int .i64 (a : Int), .int .i64 (n : Int), .bool (fk s a n).ext, .int .u32 ((fk s a n).id : Int), .bool (fk s a n).rtr, .int .i64 ((fk s a n).dlc : Int), .slice ao (fk s a n).data.length cap].toArray, .int .i64 (cd s a n : Int)]) ∧ ownsB w' (w.heap.size + 2) (.slice ao (fk s a n).data.length cap) (fk s a n).data) ∨ (nof s a ∧ ∃ (n : Nat) (e : Bool) (i : Nat) (r : Bool) (d : Int) (ao : Option Addr) (m cap c : Nat), n = s.size - a ∧ goes c ∧ o = .returned (.tuple #[.agg [.int .i64 (a : Int), .int .i64 (n : Int), .bool e, .int .u32 (i : Int), .bool r, .int .i64 d, .slice ao m cap].toArray, .int .i64 (c : Int)]))) ∧ Below w.heap.size w w'
set_option maxHeartbeats 8000000 in
set_option maxRecDepth 20000 in
/-- impl.slotAt -/
theorem slotAt_any (s : ByteArray) (a : Nat) (w : World) (hs : s.size ≤ 6000) (ha : a < s.size) :
    Calls Try.prog 23 #[.string s, .int .i64 (a : Int)] w (saR s a w) := by
  have HG : Hid (∀ (c : Nat) X, Calls Try.prog 30 #[.int .i64 (c : Int)] X fun e w' => e = .returned (.bool (decide (c = 0 ∨ c = 1))) ∧ X = w') := fun c X => goesOn_any c X
  have HD : Hid (∀ (n : Nat) X, Calls Try.prog 31 #[.string (s.extract a (a + n))] X fun e w' => ∃ ao cap, e = .returned (.tuple #[frV (fk s a n).ext (fk s a n).id (fk s a n).rtr ((fk s a n).dlc : Int) ao (fk s a n).data.length cap, .int .i64 (cd s a n : Int)]) ∧ ownsB w' X.heap.size (.slice ao (fk s a n).data.length cap) (fk s a n).data ∧ Below X.heap.size X w') := fun n X => by
    unfold fk cd
    exact decode_any (s.extract a (a + n)) X
  have HZ : Hid (blk ((w.alloc (.cells [.int .i64 0, .int .i64 0, .bool false, .int .u32 0, .bool false, .int .i64 0, .slice none 0 0].toArray 38)).alloc (.cells [.int .i64 0, .int .i64 0, .bool false, .int .u32 0, .bool false, .int .i64 0, .slice none 0 0].toArray 38)) w.heap.size [.int .i64 0, .int .i64 0, .bool false, .int .u32 0, .bool false, .int .i64 0, .slice none 0 0] 38 ∧ blk ((w.alloc (.cells [.int .i64 0, .int .i64 0, .bool false, .int .u32 0, .bool false, .int .i64 0, .slice none 0 0].toArray 38)).alloc (.cells [.int .i64 0, .int .i64 0, .bool false, .int .u32 0, .bool false, .int .i64 0, .slice none 0 0].toArray 38)) (w.heap.size + 1) [.int .i64 0, .int .i64 0, .bool false, .int .u32 0, .bool false, .int .i64 0, .slice none 0 0] 38 ∧ Below w.heap.size w ((w.alloc (.cells [.int .i64 0, .int .i64 0, .bool false, .int .u32 0, .bool false, .int .i64 0, .slice none 0 0].toArray 38)).alloc (.cells [.int .i64 0, .int .i64 0, .bool false, .int .u32 0, .bool false, .int .i64 0, .slice none 0 0].toArray 38))) := by
    refine ⟨(blk.new w _ 38).alloc _, ?_, ((Below.refl _ _).alloc (Nat.le_refl _) _).alloc (by simp) _⟩
    have := blk.new (w.alloc (.cells [.int .i64 0, .int .i64 0, .bool false, .int .u32 0, .bool false, .int .i64 0, .slice none 0 0].toArray 38)) [.int .i64 0, .int .i64 0, .bool false, .int .u32 0, .bool false, .int .i64 0, .slice none 0 0] 38
    have e1 : (w.alloc (.cells [.int .i64 0, .int .i64 0, .bool false, .int .u32 0, .bool false, .int .i64 0, .slice none 0 0].toArray 38)).heap.size = w.heap.size + 1 := by simp
    rw [e1] at this
    exact this
  go_enter Try.func23, Try.ntmps23
  go_wp2_with (first | (refine wpList_store_mid (P := Try.prog) rfl 38 (.tmp 6) (.tmp 9) rfl (w.heap.size + 1) 0 [.int .i64 (a : Int), .int .i64 0, .bool false, .int .u32 0, .bool false, .int .i64 0, .slice none 0 0].toArray rfl rfl (HZ.out.2.1.there 0 7 (by simp)) sz38 (one38 _ _ _ _ _ _ _ _ _) ?_; generalize hX : World.setCells _ (w.heap.size + 1) 0 _ = w1; have HX1 : Hid (World.setCells ((w.alloc (.cells [.int .i64 0, .int .i64 0, .bool false, .int .u32 0, .bool false, .int .i64 0, .slice none 0 0].toArray 38)).alloc (.cells [.int .i64 0, .int .i64 0, .bool false, .int .u32 0, .bool false, .int .i64 0, .slice none 0 0].toArray 38)) (w.heap.size + 1) 0 [.int .i64 (a : Int), .int .i64 0, .bool false, .int .u32 0, .bool false, .int .i64 0, .slice none 0 0] = w1) := hX; clear hX))
  have HS1 : Hid (saS s a w 0 w1) := by
    show saS _ _ _ _ _
    rw [← HX1.out]
    refine ⟨HZ.out.1.other (by omega) _ _, ⟨false, 0, false, 0, none, 0, 0, ?_, fun h => absurd h (by omega)⟩, setCells_below (by omega) 0 _ HZ.out.2.2⟩
    have := blk.put [] [.int .i64 0, .int .i64 0, .bool false, .int .u32 0, .bool false, .int .i64 0, .slice none 0 0] [] [.int .i64 (a : Int), .int .i64 0, .bool false, .int .u32 0, .bool false, .int .i64 0, .slice none 0 0] (w := ((w.alloc (.cells [.int .i64 0, .int .i64 0, .bool false, .int .u32 0, .bool false, .int .i64 0, .slice none 0 0].toArray 38)).alloc (.cells [.int .i64 0, .int .i64 0, .bool false, .int .u32 0, .bool false, .int .i64 0, .slice none 0 0].toArray 38))) (b := w.heap.size + 1) (T := 38) (by simpa using HZ.out.2.1) rfl
    simpa using this
  clear HZ HX1
  go_loopw [7] (fun k wr => ∃ n c : Nat, a + n ≤ s.size ∧ k = .int .i64 (c : Int) ∧ Hid ((n = 0 → c = 0) ∧ (1 ≤ n → c = cd s a n)) ∧ Hid (∀ m, 1 ≤ m → m < n → goes (cd s a m)) ∧ Hid (saS s a w n wr)) (fun _ wr => s.size - (match wr.cell? ⟨w.heap.size + 1, 1, none⟩ with | some v => (intOf v).toNat | none => 0))
  case atStart => exact ⟨0, 0, by omega, rfl, ⟨fun _ => rfl, fun h => absurd h (by omega)⟩, fun m h1 h2 => absurd h2 (by omega), HS1.out⟩
  case round =>
    obtain ⟨n, c, hn, rfl, HC, HBE, HS⟩ := hrel
    obtain ⟨e, i, r, d, ao, m, cap, hv, hd⟩ := HS.out.v
    have HV := hidB hv
    have HDD := hidB hd
    have y1 := hv.cell 1 (.int .i64 (n : Int)) rfl
    have f1 := hv.free 1
    clear hv hd
    by_cases hg : c = 0 ∨ c = 1
    · have HGC : Hid (∀ X, Calls Try.prog 30 #[.int .i64 (c : Int)] X fun e w' => e = .returned (.bool true) ∧ X = w') := fun X => by
        have := HG.out c X
        rw [show decide (c = 0 ∨ c = 1) = true by simpa using hg] at this
        exact this
      have HGG : Hid (goes c) := hg
      clear hg
      by_cases hlt : a + n < s.size
      · go_wp2_with fail
        refine (HGC.out _).mono ?_
        rintro o w2 ⟨rfl, rfl⟩
        go_upto_region 4 with fail
        have hv3 : blk (World.setCell wr ⟨w.heap.size + 1, 1, none⟩ (.int .i64 ((n : Int) + 1))) (w.heap.size + 1) [.int .i64 (a : Int), .int .i64 ((n : Int) + 1), .bool e, .int .u32 (i : Int), .bool r, .int .i64 d, .slice ao m cap] 38 := HV.out.set 1 _
        have HV3 := hidB hv3
        have HR3 : Hid (blk (World.setCell wr ⟨w.heap.size + 1, 1, none⟩ (.int .i64 ((n : Int) + 1))) w.heap.size [.int .i64 0, .int .i64 0, .bool false, .int .u32 0, .bool false, .int .i64 0, .slice none 0 0] 38) := HS.out.r.kept (heap_setCell_other wr ⟨w.heap.size + 1, 1, none⟩ w.heap.size _ (by show w.heap.size ≠ w.heap.size + 1; omega))
        have HB3 : Hid (Below w.heap.size w (World.setCell wr ⟨w.heap.size + 1, 1, none⟩ (.int .i64 ((n : Int) + 1)))) := HS.out.b.setCell (by show w.heap.size ≤ w.heap.size + 1; omega) _
        clear hv3 y1 f1
        generalize World.setCell wr ⟨w.heap.size + 1, 1, none⟩ (.int .i64 ((n : Int) + 1)) = w3 at *
        have y1 := HV3.out.cell 1 (.int .i64 ((n : Int) + 1)) rfl
        go_wp2_with fail
        refine (HD.out (n + 1) _).mono ?_
        rintro o w4 ⟨ao2, cap2, rfl, ho4, hb4⟩
        have HO4 := hidB ho4
        have HV4 := hidB (HV3.out.below hb4)
        have HR4 := hidB (HR3.out.below hb4)
        have HB4 := hidB (HB3.out.trans (hb4.mono HB3.out.size))
        have HZ3 : Hid (w.heap.size + 1 < w3.heap.size) := HV3.out.lt
        clear ho4 hb4 HV3 HR3 HB3 y1
        go_wp2_with (first | (refine wpList_store_mid (P := Try.prog) rfl 34 (.tmp 36) (.tmp 34) rfl (w.heap.size + 1) 2 [.bool (fk s a (n + 1)).ext, .int .u32 ((fk s a (n + 1)).id : Int), .bool (fk s a (n + 1)).rtr, .int .i64 ((fk s a (n + 1)).dlc : Int), .slice ao2 (fk s a (n + 1)).data.length cap2].toArray rfl rfl (HV4.out.there 2 5 (by simp)) sz34 (one34 _ _ _ _ _ _ _) ?_; generalize hX : World.setCells _ (w.heap.size + 1) 2 _ = w5; have HX5 : Hid (World.setCells w4 (w.heap.size + 1) 2 [.bool (fk s a (n + 1)).ext, .int .u32 ((fk s a (n + 1)).id : Int), .bool (fk s a (n + 1)).rtr, .int .i64 ((fk s a (n + 1)).dlc : Int), .slice ao2 (fk s a (n + 1)).data.length cap2] = w5) := hX; clear hX))
        have e5 := HX5.out
        have hk5 : ∀ x, x ≠ w.heap.size + 1 → w5.heap[x]? = w4.heap[x]? := fun x hx => by rw [← e5]; exact setCells_other _ x hx _ _ _
        have hv5 : blk w5 (w.heap.size + 1) ([.int .i64 (a : Int), .int .i64 ((n : Int) + 1)] ++ [.bool (fk s a (n + 1)).ext, .int .u32 ((fk s a (n + 1)).id : Int), .bool (fk s a (n + 1)).rtr, .int .i64 ((fk s a (n + 1)).dlc : Int), .slice ao2 (fk s a (n + 1)).data.length cap2]) 38 := by
          rw [← e5]
          have := blk.put [.int .i64 (a : Int), .int .i64 ((n : Int) + 1)] [.bool e, .int .u32 (i : Int), .bool r, .int .i64 d, .slice ao m cap] [] [.bool (fk s a (n + 1)).ext, .int .u32 ((fk s a (n + 1)).id : Int), .bool (fk s a (n + 1)).rtr, .int .i64 ((fk s a (n + 1)).dlc : Int), .slice ao2 (fk s a (n + 1)).data.length cap2] (w := w4) (b := w.heap.size + 1) (T := 38) (by simpa using HV4.out) rfl
          simpa using this
        have HS5 : Hid (saS s a w (n + 1) w5) := by
          refine ⟨HR4.out.kept (hk5 _ (by omega)), ⟨_, _, _, _, ao2, _, cap2, ?_, fun _ => ⟨⟨rfl, rfl, rfl, rfl, rfl⟩, ?_⟩⟩, by rw [← e5]; exact setCells_below (by omega) 2 _ HB4.out⟩
          · have e1 : (((n + 1 : Nat)) : Int) = (n : Int) + 1 := by omega
            rw [e1]
            exact hv5
          · exact ownsB.lower (ownsRow_at HO4.out fun g k e => hk5 g (by have := ownsRow_lt HO4.out e; have := HZ3.out; omega)) (by have := HZ3.out; omega)
        have y5 := hv5.cell 1 (.int .i64 ((n : Int) + 1)) rfl
        clear hv5 hk5 e5 HX5 HR4 HB4 HV4 HO4
        have HBN : Hid (∀ m, 1 ≤ m → m < n + 1 → goes (cd s a m)) := fun m' h1 h2 => by
          by_cases e : m' = n
          · subst e
            rw [← HC.out.2 h1]
            exact HGG.out
          · exact HBE.out m' h1 (by omega)
        go_roundw
        case rel => exact ⟨n + 1, cd s a (n + 1), by omega, rfl, ⟨fun h => absurd h (by omega), fun _ => rfl⟩, HBN.out, HS5.out⟩
        case measure =>
          have y0 := HV.out.cell 1 (.int .i64 (n : Int)) rfl
          rw [y0, y5]
          simp [intOf]
          omega
      · have hnz : n = s.size - a := by omega
        have HNZ : Hid (n = s.size - a) := hnz
        have hnl : ¬ a + n < s.size := hlt
        have HNF : Hid (nof s a) := fun m' h1 h2 => by
          by_cases e : m' = n
          · subst e
            rw [← HC.out.2 h1]
            exact HGG.out
          · exact HBE.out m' h1 (by have := HNZ.out; omega)
        clear hnz
        go_wp2_with (first | (refine wpList_load_mid (P := Try.prog) rfl 38 (.tmp 6) rfl (w.heap.size + 1) 0 rfl [.int .i64 (a : Int), .int .i64 (n : Int), .bool e, .int .u32 (i : Int), .bool r, .int .i64 d, .slice ao m cap] _ HV.out.load Try.underlying38 rfl sz38 ?_) | (refine wpList_store_mid (P := Try.prog) rfl 38 (.tmp 4) (.tmp 37) rfl w.heap.size 0 [.int .i64 (a : Int), .int .i64 (n : Int), .bool e, .int .u32 (i : Int), .bool r, .int .i64 d, .slice ao m cap].toArray rfl rfl (HS.out.r.there 0 7 (by simp)) sz38 (one38 _ _ _ _ _ _ _ _ _) ?_; generalize hX : World.setCells _ w.heap.size 0 _ = w9; have HX9 : Hid (World.setCells wr w.heap.size 0 [.int .i64 (a : Int), .int .i64 (n : Int), .bool e, .int .u32 (i : Int), .bool r, .int .i64 d, .slice ao m cap] = w9) := hX; clear hX))
        have e9 := HX9.out
        have hF : blk w9 w.heap.size [.int .i64 (a : Int), .int .i64 (n : Int), .bool e, .int .u32 (i : Int), .bool r, .int .i64 d, .slice ao m cap] 38 := by
          rw [← e9]
          have := blk.put [] [.int .i64 0, .int .i64 0, .bool false, .int .u32 0, .bool false, .int .i64 0, .slice none 0 0] [] [.int .i64 (a : Int), .int .i64 (n : Int), .bool e, .int .u32 (i : Int), .bool r, .int .i64 d, .slice ao m cap] (w := wr) (b := w.heap.size) (T := 38) (by simpa using HS.out.r) rfl
          simpa using this
        have hL := run_loadVar_mid (P := Try.prog) w9 w.heap.size 0 38 _ _ hF.load Try.underlying38 rfl sz38
        refine bodyPost_ret (v := .tuple #[.agg [.int .i64 (a : Int), .int .i64 (n : Int), .bool e, .int .u32 (i : Int), .bool r, .int .i64 d, .slice ao m cap].toArray, .int .i64 (c : Int)]) (results_cell_tmp Try.results23 _ w9 w.heap.size _ rfl hL) rfl ?_
        have hb9 : Below w.heap.size w w9 := by rw [← e9]; exact setCells_below (Nat.le_refl _) 0 _ HS.out.b
        have hk9 : ∀ x, x ≠ w.heap.size → w9.heap[x]? = wr.heap[x]? := fun x hx => by rw [← e9]; exact setCells_other _ x hx _ _ _
        exact ⟨Or.inr ⟨HNF.out, n, e, i, r, d, ao, m, cap, c, HNZ.out, HGG.out, rfl⟩, hb9⟩
    · have HGC : Hid (∀ X, Calls Try.prog 30 #[.int .i64 (c : Int)] X fun e w' => e = .returned (.bool false) ∧ X = w') := fun X => by
        have := HG.out c X
        rw [show decide (c = 0 ∨ c = 1) = false by simpa using hg] at this
        exact this
      have hn1 : 1 ≤ n := by
        by_cases h : n = 0
        · exact absurd (Or.inl (HC.out.1 h)) hg
        · omega
      have HFN : Hid (fnd s a n) := ⟨hn1, hn, by rw [← HC.out.2 hn1]; exact hg, HBE.out⟩
      clear hg
      by_cases hlt : a + n < s.size
      · go_wp2_with fail
        refine (HGC.out _).mono ?_
        rintro o w2 ⟨rfl, rfl⟩
        go_wp2_with (first | (refine wpList_load_mid (P := Try.prog) rfl 38 (.tmp 6) rfl (w.heap.size + 1) 0 rfl [.int .i64 (a : Int), .int .i64 (n : Int), .bool e, .int .u32 (i : Int), .bool r, .int .i64 d, .slice ao m cap] _ HV.out.load Try.underlying38 rfl sz38 ?_) | (refine wpList_store_mid (P := Try.prog) rfl 38 (.tmp 4) (.tmp 37) rfl w.heap.size 0 [.int .i64 (a : Int), .int .i64 (n : Int), .bool e, .int .u32 (i : Int), .bool r, .int .i64 d, .slice ao m cap].toArray rfl rfl (HS.out.r.there 0 7 (by simp)) sz38 (one38 _ _ _ _ _ _ _ _ _) ?_; generalize hX : World.setCells _ w.heap.size 0 _ = w9; have HX9 : Hid (World.setCells wr w.heap.size 0 [.int .i64 (a : Int), .int .i64 (n : Int), .bool e, .int .u32 (i : Int), .bool r, .int .i64 d, .slice ao m cap] = w9) := hX; clear hX))
        have e9 := HX9.out
        have hF : blk w9 w.heap.size [.int .i64 (a : Int), .int .i64 (n : Int), .bool e, .int .u32 (i : Int), .bool r, .int .i64 d, .slice ao m cap] 38 := by
          rw [← e9]
          have := blk.put [] [.int .i64 0, .int .i64 0, .bool false, .int .u32 0, .bool false, .int .i64 0, .slice none 0 0] [] [.int .i64 (a : Int), .int .i64 (n : Int), .bool e, .int .u32 (i : Int), .bool r, .int .i64 d, .slice ao m cap] (w := wr) (b := w.heap.size) (T := 38) (by simpa using HS.out.r) rfl
          simpa using this
        have hL := run_loadVar_mid (P := Try.prog) w9 w.heap.size 0 38 _ _ hF.load Try.underlying38 rfl sz38
        refine bodyPost_ret (v := .tuple #[.agg [.int .i64 (a : Int), .int .i64 (n : Int), .bool e, .int .u32 (i : Int), .bool r, .int .i64 d, .slice ao m cap].toArray, .int .i64 (c : Int)]) (results_cell_tmp Try.results23 _ w9 w.heap.size _ rfl hL) rfl ?_
        have hb9 : Below w.heap.size w w9 := by rw [← e9]; exact setCells_below (Nat.le_refl _) 0 _ HS.out.b
        have hk9 : ∀ x, x ≠ w.heap.size → w9.heap[x]? = wr.heap[x]? := fun x hx => by rw [← e9]; exact setCells_other _ x hx _ _ _
        obtain ⟨⟨rfl, rfl, rfl, rfl, rfl⟩, ho⟩ := HDD.out hn1
        have hcd := HC.out.2 hn1
        subst hcd
        exact ⟨Or.inl ⟨n, ao, cap, HFN.out, rfl, ownsRow_at ho fun g k e => hk9 g (by have := ownsRow_lt ho e; omega)⟩, hb9⟩
      ·
        go_wp2_with (first | (refine wpList_load_mid (P := Try.prog) rfl 38 (.tmp 6) rfl (w.heap.size + 1) 0 rfl [.int .i64 (a : Int), .int .i64 (n : Int), .bool e, .int .u32 (i : Int), .bool r, .int .i64 d, .slice ao m cap] _ HV.out.load Try.underlying38 rfl sz38 ?_) | (refine wpList_store_mid (P := Try.prog) rfl 38 (.tmp 4) (.tmp 37) rfl w.heap.size 0 [.int .i64 (a : Int), .int .i64 (n : Int), .bool e, .int .u32 (i : Int), .bool r, .int .i64 d, .slice ao m cap].toArray rfl rfl (HS.out.r.there 0 7 (by simp)) sz38 (one38 _ _ _ _ _ _ _ _ _) ?_; generalize hX : World.setCells _ w.heap.size 0 _ = w9; have HX9 : Hid (World.setCells wr w.heap.size 0 [.int .i64 (a : Int), .int .i64 (n : Int), .bool e, .int .u32 (i : Int), .bool r, .int .i64 d, .slice ao m cap] = w9) := hX; clear hX))
        have e9 := HX9.out
        have hF : blk w9 w.heap.size [.int .i64 (a : Int), .int .i64 (n : Int), .bool e, .int .u32 (i : Int), .bool r, .int .i64 d, .slice ao m cap] 38 := by
          rw [← e9]
          have := blk.put [] [.int .i64 0, .int .i64 0, .bool false, .int .u32 0, .bool false, .int .i64 0, .slice none 0 0] [] [.int .i64 (a : Int), .int .i64 (n : Int), .bool e, .int .u32 (i : Int), .bool r, .int .i64 d, .slice ao m cap] (w := wr) (b := w.heap.size) (T := 38) (by simpa using HS.out.r) rfl
          simpa using this
        have hL := run_loadVar_mid (P := Try.prog) w9 w.heap.size 0 38 _ _ hF.load Try.underlying38 rfl sz38
        refine bodyPost_ret (v := .tuple #[.agg [.int .i64 (a : Int), .int .i64 (n : Int), .bool e, .int .u32 (i : Int), .bool r, .int .i64 d, .slice ao m cap].toArray, .int .i64 (c : Int)]) (results_cell_tmp Try.results23 _ w9 w.heap.size _ rfl hL) rfl ?_
        have hb9 : Below w.heap.size w w9 := by rw [← e9]; exact setCells_below (Nat.le_refl _) 0 _ HS.out.b
        have hk9 : ∀ x, x ≠ w.heap.size → w9.heap[x]? = wr.heap[x]? := fun x hx => by rw [← e9]; exact setCells_other _ x hx _ _ _
        obtain ⟨⟨rfl, rfl, rfl, rfl, rfl⟩, ho⟩ := HDD.out hn1
        have hcd := HC.out.2 hn1
        subst hcd
        exact ⟨Or.inl ⟨n, ao, cap, HFN.out, rfl, ownsRow_at ho fun g k e => hk9 g (by have := ownsRow_lt ho e; omega)⟩, hb9⟩
end Go.Proofs.Ytiaddabmiponoaa
