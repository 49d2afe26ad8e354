import Derived.Test.YtfbeaekddgpmmaaGreatDoorK25
namespace Go.Proofs.YtfbeaekddgpmmaaGreatDoor
open Go.RowKit Kd
set_option linter.unusedVariables false
abbrev odL (x : Od) (h : Hd) : List Value := [.int .i64 (x.tick : Int), .int .i64 (x.op : Int), .int .i64 (x.node : Int), .int .i64 (x.tag : Int), .bool x.e, .int .u32 (x.id : Int), .bool x.r, .int .i64 (x.dlc : Int), hdV h, .int .i64 (x.fr : Int), .int .i64 (x.ct : Int)]
/-- an order as it is handed over: the tick may be any number -/
abbrev odV (t : Int) (x : Od) (h : Hd) : Value := .agg #[.int .i64 t, .int .i64 (x.op : Int), .int .i64 (x.node : Int), .int .i64 (x.tag : Int), .bool x.e, .int .u32 (x.id : Int), .bool x.r, .int .i64 (x.dlc : Int), hdV h, .int .i64 (x.fr : Int), .int .i64 (x.ct : Int)]
/-- the reader behind one order more -/
theorem rdS.addO {B rb gr : Nat} {S : Sc} {ln : Int} {bg : Bool} {us : List (Su × Hd)} {os : List (Od × Hd)} {h1 h2 : Hd} {W V : World} (h : rdS B rb gr S ln bg us os h1 h2 W) (x : Od) (hd : Hd) (hf : W.ownsRow B 5 1 (hdV hd) x.d.length (bv x.d)) (hfr : ∀ r ∈ os, ∀ y, r.2.1 = some y → hd.1 ≠ some y) {g' k' : Nat}
    (ho : V.ownsRow B 67 11 (.slice (some ⟨g', 0, none⟩) (os.length + 1) k') (os.length + 1) (os.flatMap (fun r => kO.enc r.1 r.2) ++ kO.enc x hd)) (hg : W.grownBy V (hdV h2).ownBlock) (hB : B ≤ W.heap.size) :
    rdS B rb gr { S with od := S.od ++ [x] } ln bg us (os ++ [(x, hd)]) h1 (some ⟨g', 0, none⟩, os.length + 1, k') (V.setCell ⟨rb, 3, none⟩ (.slice (some ⟨g', 0, none⟩) (os.length + 1) k')) ∧ Ky [55, 60, 67, 73] B W (V.setCell ⟨rb, 3, none⟩ (.slice (some ⟨g', 0, none⟩) (os.length + 1) k')) := by
  have k1 : Ky [67] B W V := h.od.grow (by decide) hg hB
  have hr : blk V rb (rdL h1 h2 (S.ticks : Int) gr ln bg) 73 := k1.blk h.r (by decide)
  have k2 : Ky [73] B V (V.setCell ⟨rb, 3, none⟩ (.slice (some ⟨g', 0, none⟩) (os.length + 1) k')) := (Ky.refl _ _ _).setCell _ _ _ h.lo ⟨_, _, _, hr, by simp⟩
  refine ⟨⟨?_, (h.su.ky k1 (by decide) (by decide)).ky k2 (by decide) (by decide), (h.od.app (by decide) (x, hd) hf hfr ho hg).ky k2 (by decide) (by decide), h.eu, by rw [List.map_append, h.eo]; rfl, k2.blk (k1.blk h.lr (by decide)) (by decide), h.lo⟩, (k1.mono (by simp) (Nat.le_refl _)).trans (k2.mono (by simp) (Nat.le_refl _))⟩
  exact hr.set 3 (.slice (some ⟨g', 0, none⟩) (os.length + 1) k')
theorem own_isBytes {w : World} {B : Nat} {h : Hd} {l : List Nat} (ho : w.ownsRow B 5 1 (hdV h) l.length (bv l)) (hl : ∀ x ∈ l, x < 256) : J.isBytes w h.1 h.2.1 h.2.2 l := by
  obtain ⟨e1, ⟨e2, e3⟩ | ⟨g, cap, cur, e2, hb, hg, hc, rest⟩⟩ := ho
  · injection e2 with a b c
    rw [a, b, c]
    have : l = [] := List.length_eq_zero_iff.1 e3
    subst this
    exact ⟨rfl, Nat.le_refl _, hl, fun h => absurd rfl h⟩
  · have ho' : w.ownsRow B 5 1 (hdV h) l.length (bv l) := ⟨e1, .inr ⟨g, cap, cur, e2, hb, hg, hc, rest⟩⟩
    have e2' := e2
    injection e2 with a b c
    rw [a, b, c]
    refine ⟨rfl, hc, hl, fun _ => ⟨g, 0, rfl, fun j hj => ?_⟩⟩
    rw [e2'] at ho'
    rw [Nat.zero_add, World.ownsRow.cellAt ho' j (by omega)]
    simp [bv, hj]
/-- what order asks of an order -/
def ordB (S : Sc) (x : Od) : Bool := decide (S.od.length < 500) && decide (x.node < S.su.length) && decide (x.tag ≤ 9999) && J.validB x.e x.id x.r (x.dlc : Int) x.d.length
/-- the reader behind the order, with what is asked of the order yet to come -/
def cutO (B rb gr : Nat) (S : Sc) (ln : Int) (bg : Bool) (w : World) (N : Nat) (x : Od) (hd : Hd) (V : World) : Prop := ∃ us os h1 h2, rdS B rb gr { S with od := S.od ++ [x] } ln bg us os h1 h2 V ∧ Ky [55, 60, 67, 73] B w V ∧ blk V N (odL x hd) 67 ∧ V.ownsRow B 5 1 (hdV hd) x.d.length (bv x.d)
theorem kp9 {V U : World} {g1 o1 g2 o2 g3 o3 g4 o4 g5 o5 g6 o6 g7 o7 g8 o8 g9 o9 : Nat} {x1 x2 x3 x4 x5 x6 x7 x8 x9 : Value} (h : V.cell? ⟨g1, o1, none⟩ = some x1 ∧ V.cell? ⟨g2, o2, none⟩ = some x2 ∧ V.cell? ⟨g3, o3, none⟩ = some x3 ∧ V.cell? ⟨g4, o4, none⟩ = some x4 ∧ V.cell? ⟨g5, o5, none⟩ = some x5 ∧ V.cell? ⟨g6, o6, none⟩ = some x6 ∧ V.cell? ⟨g7, o7, none⟩ = some x7 ∧ V.cell? ⟨g8, o8, none⟩ = some x8 ∧ V.cell? ⟨g9, o9, none⟩ = some x9) (hb : Below V.heap.size V U) : U.cell? ⟨g1, o1, none⟩ = some x1 ∧ U.cell? ⟨g2, o2, none⟩ = some x2 ∧ U.cell? ⟨g3, o3, none⟩ = some x3 ∧ U.cell? ⟨g4, o4, none⟩ = some x4 ∧ U.cell? ⟨g5, o5, none⟩ = some x5 ∧ U.cell? ⟨g6, o6, none⟩ = some x6 ∧ U.cell? ⟨g7, o7, none⟩ = some x7 ∧ U.cell? ⟨g8, o8, none⟩ = some x8 ∧ U.cell? ⟨g9, o9, none⟩ = some x9 := by
  have key : ∀ {g o : Nat} {x : Value}, V.cell? ⟨g, o, none⟩ = some x → U.cell? ⟨g, o, none⟩ = some x := fun h => (hb.cell (World.block_lt_of_cell? V _ h)).trans h
  obtain ⟨h1, h2, h3, h4, h5, h6, h7, h8, h9⟩ := h
  exact ⟨key h1, key h2, key h3, key h4, key h5, key h6, key h7, key h8, key h9⟩
theorem one11 (x : Od) (h : Hd) : ∀ u ∈ odL x h, u.oneCell' = true := by simp [Value.oneCell']
set_option maxHeartbeats 4000000 in
set_option maxRecDepth 20000 in
/-- (*reader).order -/
theorem order_any {B rb gr : Nat} {S : Sc} {ln : Int} {bg : Bool} {us : List (Su × Hd)} {os : List (Od × Hd)} {h1 h2 : Hd} (t : Int) (x : Od) (hd : Hd) (w : World) (hR : rdS B rb gr S ln bg us os h1 h2 w) (hx : x.tick = S.ticks) (hS : S.od.length ≤ 500) (hd1 : w.ownsRow B 5 1 (hdV hd) x.d.length (bv x.d)) (hd2 : ∀ y ∈ x.d, y < 256) (hfr : ∀ r ∈ os, ∀ y, r.2.1 = some y → hd.1 ≠ some y) :
    Calls Tryz.prog 75 #[.pointer (some ⟨rb, 0, none⟩), odV t x hd] w fun o w' => o = .returned (.bool (ordB S x)) ∧ rdE B rb gr { S with od := S.od ++ [x] } ln bg w' ∧ Ky [55, 60, 67, 73] B w w' := by
  have hrl : rb < w.heap.size := hR.r.lt
  have r4 := hR.r.cell 4 _ rfl
  have HR := hidYY hR
  have HD := hidYY (And.intro hd1 (And.intro hd2 hfr))
  have hrn : rb ≠ w.heap.size := Nat.ne_of_lt hrl
  clear hR hd1 hd2 hfr
  go_enter Tryz.func75, Tryz.ntmps75
  go_wp2
  generalize hX : World.alloc _ _ = w1
  obtain ⟨N, hN⟩ : ∃ N, w.heap.size = N := ⟨_, rfl⟩
  have H1 : Hid (Below N w w1 ∧ blk w1 N (odL x hd) 67) := by
    show _ ∧ _
    rw [← hX, ← hN, ← hx]
    exact ⟨(Below.refl _ _).alloc (Nat.le_refl _) _, blk.new w (odL x hd) 67⟩
  have HXT := hidYY hx
  clear hX hx
  have HNE := hidYY hN
  have HR1 := hidYY (HR.out.below (V := w1) (by rw [hN]; exact H1.out.1))
  have r3 := HR1.out.r.cell 3 _ rfl
  have n0 := H1.out.2.cell 0 _ rfl
  have n1 := H1.out.2.cell 1 _ rfl
  have n2 := H1.out.2.cell 2 _ rfl
  have n3 := H1.out.2.cell 3 _ rfl
  have n4 := H1.out.2.cell 4 _ rfl
  have n5 := H1.out.2.cell 5 _ rfl
  have n6 := H1.out.2.cell 6 _ rfl
  have n7 := H1.out.2.cell 7 _ rfl
  have n8 := H1.out.2.cell 8 _ rfl
  have n9 := H1.out.2.cell 9 _ rfl
  have n10 := H1.out.2.cell 10 _ rfl
  have hBl : B ≤ w1.heap.size := Nat.le_trans HR1.out.lo (Nat.le_of_lt HR1.out.r.lt)
  have HUL := hidYY HR1.out.ul
  have HOL := hidYY HR1.out.ol
  have HNB := hidYY (heap_alloc_new w1 (.cells (odL x hd).toArray 67))
  have HBA : Hid (Below w1.heap.size w1 (w1.alloc (.cells (odL x hd).toArray 67)).drew) := ((Below.refl _ _).alloc (Nat.le_refl _) _).drew
  have HOW := hidYY (HR1.out.below HBA.out)
  have hrl1 : rb < w1.heap.size := HR1.out.r.lt
  have y3 : (w1.alloc (.cells (odL x hd).toArray 67)).cell? ⟨rb, 3, none⟩ = some (hdV h2) := (World.cell?_alloc_lt _ _ ⟨rb, 3, none⟩ hrl1).trans r3
  have hrn1 : rb ≠ w1.heap.size := Nat.ne_of_lt hrl1
  have HAF : Hid (∀ (w5 : World), (w1.alloc (.cells (odL x hd).toArray 67)).drew.grownBy w5 (hdV h2).ownBlock → w5.cell? ⟨rb, 3, none⟩ = some (hdV h2) ∧ w5.frozen? ⟨rb, 3, none⟩ = false) := fun w5 hg => by
    have k1 : Ky [67] B _ w5 := HOW.out.od.grow (by decide) hg (Nat.le_trans hBl HBA.out.size)
    have := k1.blk HOW.out.r (by decide)
    exact ⟨this.cell 3 _ rfl, this.free 3⟩
  rw [hN]
  go_cut [] (fun wx => cutO B rb gr S ln bg w N x hd wx)
  case first =>
    go_region_law (refine step_app_row rfl (.tmp 16) (.tmp 18) 23 67 _ 11 96 Tryz.info67 Tryz.underlying23 rfl (by decide) (by decide) rfl B os.length (hdV h2) (os.flatMap fun (r : Od × Hd) => kO.enc r.1 r.2) rfl HOW.out.od.own w1.heap.size (odL x hd) rfl rfl HNB.out (one11 x hd) (by have := HOL.out; omega) (by simp; omega) ?_; intro g' k' w5 hown5 hgr5 hgg5; obtain ⟨q3, qf3⟩ := HAF.out w5 hgr5; have HOW5 := hidYY hown5; have HGR5 := hidYY hgr5; clear hown5 hgr5 hgg5)
    all_goals
      have hda := (Ky.of (S := []) HBA.out hBl).row ((Ky.of (S := []) (H1.out.1.mono (by rw [← hN]; exact Nat.le_refl _) : Below w.heap.size w w1) (Nat.le_refl _)).row HD.out.1 (by simp)) (by simp)
      have hx6 := HOW.out.addO x hd hda HD.out.2.2 HOW5.out HGR5.out (Nat.le_trans hBl HBA.out.size)
      have hb5 : blk w5 N (odL x hd) 67 := (HGR5.out.block N (H1.out.2.below HBA.out).lt (fun e => by have := (World.ownsRow.lt HR.out.od.own N e.symm).2; omega)).trans (H1.out.2.below HBA.out)
      have hbc := hb5.setOther (b' := rb) (by omega) 3 (.slice (some ⟨g', 0, none⟩) (os.length + 1) k')
      generalize World.setCell w5 _ _ = w6 at hx6 hbc ⊢
      have hc6 : cutO B rb gr S ln bg w N x hd w6 := ⟨_, _, _, _, hx6.1, (((Ky.of (S := [55, 60, 67, 73]) (H1.out.1.mono (by rw [← hN]; exact Nat.le_refl _) : Below w.heap.size w w1) (Nat.le_trans HR.out.lo (Nat.le_of_lt HR.out.r.lt))).below HBA.out hBl).trans hx6.2), hbc, hx6.2.row hda (by decide)⟩
      clear hx6 hbc hb5 hda q3 qf3 HOW5 HGR5
      go_wp2_with fail
      go_meet
      case rel => exact hc6
  case rest =>
  obtain ⟨us', os', h1', h2', hx6, hk6, hbc, hda⟩ := hcut
  clear r3 r4 n0 n1 n2 n3 n4 n5 n6 n7 n8 n9 n10 y3 HAF HOW HBA HNB
  go_upto_region 3 with fail
  have HX6 := hidYY (And.intro hx6 True.intro)
  have HK6 := hidYY hk6
  have hda6 := own_isBytes hda HD.out.2.1
  have HDA6 := hidYY hda6
  have hdl : hd.2.1 = x.d.length := hda6.len
  have z2 := hbc.cell 2 _ rfl
  have z3 := hbc.cell 3 _ rfl
  have z4 := hbc.cell 4 _ rfl
  have z5 := hbc.cell 5 _ rfl
  have z6 := hbc.cell 6 _ rfl
  have z7 := hbc.cell 7 _ rfl
  have z8 := hbc.cell 8 _ rfl
  have y3 := hx6.r.cell 3 _ rfl
  have y2 := hx6.r.cell 2 _ rfl
  obtain ⟨m, hm⟩ : ∃ m, h2'.2.1 = m := ⟨_, rfl⟩
  obtain ⟨nu, hnu⟩ : ∃ nu, h1'.2.1 = nu := ⟨_, rfl⟩
  simp only [hdV] at y3 y2
  rw [hm] at y3
  rw [hnu] at y2
  have HMM : Hid (m = S.od.length + 1 ∧ nu = S.su.length) := by
    have e1 := hx6.ol.2
    have e2 := hx6.ul.2
    simp only [List.length_append, List.length_cons, List.length_nil] at e1
    simp only at e2
    exact ⟨by omega, by omega⟩
  have hB6 : B ≤ wc.heap.size := Nat.le_trans hx6.lo (Nat.le_of_lt hx6.r.lt)
  have HVF : Hid (∀ V, Below wc.heap.size wc V → Calls Tryz.prog 86 #[J.frV x.e x.id x.r (x.dlc : Int) hd.1 hd.2.1 hd.2.2] V fun o w' => o = .returned (.bool (J.validB x.e x.id x.r (x.dlc : Int) hd.2.1)) ∧ Below V.heap.size V w') := fun V hV => J.valid_any V x.e x.id x.r (x.dlc : Int) hd.1 hd.2.1 hd.2.2 x.d (HDA6.out.below hV)
  clear hm hnu hx6 hk6 hbc hda hda6
  by_cases ha : m ≤ 500
  · have ha' : (m : Int) ≤ 500 := by omega
    by_cases hb : x.node < nu
    · have hb' : (x.node : Int) < (nu : Int) := by omega
      by_cases hc : x.tag ≤ 9999
      · have hc' : (x.tag : Int) ≤ 9999 := by omega
        have HEQ : Hid (ordB S x = J.validB x.e x.id x.r (x.dlc : Int) hd.2.1) := by
          have e1 := HMM.out
          show ordB S x = _
          unfold ordB
          rw [← e1.2, hdl]
          have : S.od.length < 500 := by omega
          simp [this, hb, hc]
        clear hdl
        refine wp_region_held (S := (fun V => V.cell? ⟨rb, 3, none⟩ = some (.slice h2'.1 m h2'.2.2) ∧ V.cell? ⟨N, 2, none⟩ = some (.int .i64 (x.node : Int)) ∧ V.cell? ⟨rb, 2, none⟩ = some (.slice h1'.1 nu h1'.2.2) ∧ V.cell? ⟨N, 3, none⟩ = some (.int .i64 (x.tag : Int)) ∧ V.cell? ⟨N, 4, none⟩ = some (.bool x.e) ∧ V.cell? ⟨N, 5, none⟩ = some (.int .u32 (x.id : Int)) ∧ V.cell? ⟨N, 6, none⟩ = some (.bool x.r) ∧ V.cell? ⟨N, 7, none⟩ = some (.int .i64 (x.dlc : Int)) ∧ V.cell? ⟨N, 8, none⟩ = some (hdV hd))) (by kernel_rfl) ?_
        have hS : (fun V => V.cell? ⟨rb, 3, none⟩ = some (.slice h2'.1 m h2'.2.2) ∧ V.cell? ⟨N, 2, none⟩ = some (.int .i64 (x.node : Int)) ∧ V.cell? ⟨rb, 2, none⟩ = some (.slice h1'.1 nu h1'.2.2) ∧ V.cell? ⟨N, 3, none⟩ = some (.int .i64 (x.tag : Int)) ∧ V.cell? ⟨N, 4, none⟩ = some (.bool x.e) ∧ V.cell? ⟨N, 5, none⟩ = some (.int .u32 (x.id : Int)) ∧ V.cell? ⟨N, 6, none⟩ = some (.bool x.r) ∧ V.cell? ⟨N, 7, none⟩ = some (.int .i64 (x.dlc : Int)) ∧ V.cell? ⟨N, 8, none⟩ = some (hdV hd)) wc.drew := ⟨y3, z2, y2, z3, z4, z5, z6, z7, z8⟩
        refine wpAnyH_take (i := 0) (v := (.pointer (some ⟨rb, 0, none⟩))) rfl (by kernel_rfl) (by kernel_rfl) (by kernel_rfl) (fun _ _ _ h => h) (Or.inl ⟨by rfl, ?_⟩) hS ?_
        · intro W hSw
          clear hS
          obtain ⟨sA, sB, sC, sD, s4, s5, s6, s7, s8⟩ := hSw
          go_simp
        simp only [Act.put, List.setIfInBounds_toArray, List.set_cons_zero, List.set_cons_succ, List.getElem_toArray, List.getElem_cons_zero]
        refine wpAnyH_take (i := 1) (v := (.pointer (some ⟨rb, 0, none⟩))) rfl (by kernel_rfl) (by kernel_rfl) (by kernel_rfl) (fun _ _ _ h => h) (Or.inl ⟨by rfl, ?_⟩) hS ?_
        · intro W hSw
          clear hS
          obtain ⟨sA, sB, sC, sD, s4, s5, s6, s7, s8⟩ := hSw
          go_simp
        simp only [Act.put, List.setIfInBounds_toArray, List.set_cons_zero, List.set_cons_succ, List.getElem_toArray, List.getElem_cons_zero, List.getElem_cons_succ]
        refine wpAnyH_take (i := 2) (v := (.pointer (some ⟨rb, 0, none⟩))) rfl (by kernel_rfl) (by kernel_rfl) (by kernel_rfl) (fun _ _ _ h => h) (Or.inl ⟨by rfl, ?_⟩) hS ?_
        · intro W hSw
          clear hS
          obtain ⟨sA, sB, sC, sD, s4, s5, s6, s7, s8⟩ := hSw
          go_simp
        simp only [Act.put, List.setIfInBounds_toArray, List.set_cons_zero, List.set_cons_succ, List.getElem_toArray, List.getElem_cons_zero, List.getElem_cons_succ]
        refine wpAnyH_take (i := 3) (v := (.pointer (some ⟨rb, 3, none⟩))) rfl (by kernel_rfl) (by kernel_rfl) (by kernel_rfl) (fun _ _ _ h => h) (Or.inl ⟨by rfl, ?_⟩) hS ?_
        · intro W hSw
          clear hS
          obtain ⟨sA, sB, sC, sD, s4, s5, s6, s7, s8⟩ := hSw
          go_simp
        simp only [Act.put, List.setIfInBounds_toArray, List.set_cons_zero, List.set_cons_succ, List.getElem_toArray, List.getElem_cons_zero, List.getElem_cons_succ]
        refine wpAnyH_take (i := 4) (v := (.slice h2'.1 m h2'.2.2)) rfl (by kernel_rfl) (by kernel_rfl) (by kernel_rfl) (fun _ _ _ h => h) (Or.inl ⟨by rfl, ?_⟩) hS ?_
        · intro W hSw
          clear hS
          obtain ⟨sA, sB, sC, sD, s4, s5, s6, s7, s8⟩ := hSw
          go_simp
        simp only [Act.put, List.setIfInBounds_toArray, List.set_cons_zero, List.set_cons_succ, List.getElem_toArray, List.getElem_cons_zero, List.getElem_cons_succ]
        refine wpAnyH_take (i := 5) (v := (.int .i64 (m : Int))) rfl (by kernel_rfl) (by kernel_rfl) (by kernel_rfl) (fun _ _ _ h => h) (Or.inl ⟨by rfl, ?_⟩) hS ?_
        · intro W hSw
          clear hS
          obtain ⟨sA, sB, sC, sD, s4, s5, s6, s7, s8⟩ := hSw
          go_simp
        simp only [Act.put, List.setIfInBounds_toArray, List.set_cons_zero, List.set_cons_succ, List.getElem_toArray, List.getElem_cons_zero, List.getElem_cons_succ]
        refine wpAnyH_take (i := 6) (v := (.bool true)) rfl (by kernel_rfl) (by kernel_rfl) (by kernel_rfl) (fun _ _ _ h => h) (Or.inl ⟨by rfl, ?_⟩) hS ?_
        · intro W hSw
          clear hS
          obtain ⟨sA, sB, sC, sD, s4, s5, s6, s7, s8⟩ := hSw
          go_simp
        simp only [Act.put, List.setIfInBounds_toArray, List.set_cons_zero, List.set_cons_succ, List.getElem_toArray, List.getElem_cons_zero, List.getElem_cons_succ]
        refine wpAnyH_take (i := 7) (v := (.bool true)) rfl (by kernel_rfl) (by kernel_rfl) (by kernel_rfl) (fun _ _ _ h => h) (Or.inl ⟨by rfl, ?_⟩) hS ?_
        · intro W hSw
          clear hS
          obtain ⟨sA, sB, sC, sD, s4, s5, s6, s7, s8⟩ := hSw
          go_simp
        simp only [Act.put, List.setIfInBounds_toArray, List.set_cons_zero, List.set_cons_succ, List.getElem_toArray, List.getElem_cons_zero, List.getElem_cons_succ]
        refine wpAnyH_take (i := 8) (v := (.pointer (some ⟨N, 2, none⟩))) rfl (by kernel_rfl) (by kernel_rfl) (by kernel_rfl) (fun _ _ _ h => h) (Or.inl ⟨by rfl, ?_⟩) hS ?_
        · intro W hSw
          clear hS
          obtain ⟨sA, sB, sC, sD, s4, s5, s6, s7, s8⟩ := hSw
          go_simp
        simp only [Act.put, List.setIfInBounds_toArray, List.set_cons_zero, List.set_cons_succ, List.getElem_toArray, List.getElem_cons_zero, List.getElem_cons_succ]
        refine wpAnyH_take (i := 9) (v := (.int .i64 (x.node : Int))) rfl (by kernel_rfl) (by kernel_rfl) (by kernel_rfl) (fun _ _ _ h => h) (Or.inl ⟨by rfl, ?_⟩) hS ?_
        · intro W hSw
          clear hS
          obtain ⟨sA, sB, sC, sD, s4, s5, s6, s7, s8⟩ := hSw
          go_simp
        simp only [Act.put, List.setIfInBounds_toArray, List.set_cons_zero, List.set_cons_succ, List.getElem_toArray, List.getElem_cons_zero, List.getElem_cons_succ]
        refine wpAnyH_take (i := 10) (v := (.pointer (some ⟨rb, 0, none⟩))) rfl (by kernel_rfl) (by kernel_rfl) (by kernel_rfl) (fun _ _ _ h => h) (Or.inl ⟨by rfl, ?_⟩) hS ?_
        · intro W hSw
          clear hS
          obtain ⟨sA, sB, sC, sD, s4, s5, s6, s7, s8⟩ := hSw
          go_simp
        simp only [Act.put, List.setIfInBounds_toArray, List.set_cons_zero, List.set_cons_succ, List.getElem_toArray, List.getElem_cons_zero, List.getElem_cons_succ]
        refine wpAnyH_take (i := 11) (v := (.pointer (some ⟨rb, 0, none⟩))) rfl (by kernel_rfl) (by kernel_rfl) (by kernel_rfl) (fun _ _ _ h => h) (Or.inl ⟨by rfl, ?_⟩) hS ?_
        · intro W hSw
          clear hS
          obtain ⟨sA, sB, sC, sD, s4, s5, s6, s7, s8⟩ := hSw
          go_simp
        simp only [Act.put, List.setIfInBounds_toArray, List.set_cons_zero, List.set_cons_succ, List.getElem_toArray, List.getElem_cons_zero, List.getElem_cons_succ]
        refine wpAnyH_take (i := 12) (v := (.pointer (some ⟨rb, 0, none⟩))) rfl (by kernel_rfl) (by kernel_rfl) (by kernel_rfl) (fun _ _ _ h => h) (Or.inl ⟨by rfl, ?_⟩) hS ?_
        · intro W hSw
          clear hS
          obtain ⟨sA, sB, sC, sD, s4, s5, s6, s7, s8⟩ := hSw
          go_simp
        simp only [Act.put, List.setIfInBounds_toArray, List.set_cons_zero, List.set_cons_succ, List.getElem_toArray, List.getElem_cons_zero, List.getElem_cons_succ]
        refine wpAnyH_take (i := 13) (v := (.pointer (some ⟨rb, 2, none⟩))) rfl (by kernel_rfl) (by kernel_rfl) (by kernel_rfl) (fun _ _ _ h => h) (Or.inl ⟨by rfl, ?_⟩) hS ?_
        · intro W hSw
          clear hS
          obtain ⟨sA, sB, sC, sD, s4, s5, s6, s7, s8⟩ := hSw
          go_simp
        simp only [Act.put, List.setIfInBounds_toArray, List.set_cons_zero, List.set_cons_succ, List.getElem_toArray, List.getElem_cons_zero, List.getElem_cons_succ]
        refine wpAnyH_take (i := 14) (v := (.slice h1'.1 nu h1'.2.2)) rfl (by kernel_rfl) (by kernel_rfl) (by kernel_rfl) (fun _ _ _ h => h) (Or.inl ⟨by rfl, ?_⟩) hS ?_
        · intro W hSw
          clear hS
          obtain ⟨sA, sB, sC, sD, s4, s5, s6, s7, s8⟩ := hSw
          go_simp
        simp only [Act.put, List.setIfInBounds_toArray, List.set_cons_zero, List.set_cons_succ, List.getElem_toArray, List.getElem_cons_zero, List.getElem_cons_succ]
        refine wpAnyH_take (i := 15) (v := (.int .i64 (nu : Int))) rfl (by kernel_rfl) (by kernel_rfl) (by kernel_rfl) (fun _ _ _ h => h) (Or.inl ⟨by rfl, ?_⟩) hS ?_
        · intro W hSw
          clear hS
          obtain ⟨sA, sB, sC, sD, s4, s5, s6, s7, s8⟩ := hSw
          go_simp
        simp only [Act.put, List.setIfInBounds_toArray, List.set_cons_zero, List.set_cons_succ, List.getElem_toArray, List.getElem_cons_zero, List.getElem_cons_succ]
        refine wpAnyH_take (i := 16) (v := (.bool true)) rfl (by kernel_rfl) (by kernel_rfl) (by kernel_rfl) (fun _ _ _ h => h) (Or.inl ⟨by rfl, ?_⟩) hS ?_
        · intro W hSw
          clear hS
          obtain ⟨sA, sB, sC, sD, s4, s5, s6, s7, s8⟩ := hSw
          go_simp
        simp only [Act.put, List.setIfInBounds_toArray, List.set_cons_zero, List.set_cons_succ, List.getElem_toArray, List.getElem_cons_zero, List.getElem_cons_succ]
        refine wpAnyH_take (i := 17) (v := (.bool true)) rfl (by kernel_rfl) (by kernel_rfl) (by kernel_rfl) (fun _ _ _ h => h) (Or.inl ⟨by rfl, ?_⟩) hS ?_
        · intro W hSw
          clear hS
          obtain ⟨sA, sB, sC, sD, s4, s5, s6, s7, s8⟩ := hSw
          go_simp
        simp only [Act.put, List.setIfInBounds_toArray, List.set_cons_zero, List.set_cons_succ, List.getElem_toArray, List.getElem_cons_zero, List.getElem_cons_succ]
        refine wpAnyH_take (i := 18) (v := (.bool true)) rfl (by kernel_rfl) (by kernel_rfl) (by kernel_rfl) (fun _ _ _ h => h) (Or.inl ⟨by rfl, ?_⟩) hS ?_
        · intro W hSw
          clear hS
          obtain ⟨sA, sB, sC, sD, s4, s5, s6, s7, s8⟩ := hSw
          go_simp
        simp only [Act.put, List.setIfInBounds_toArray, List.set_cons_zero, List.set_cons_succ, List.getElem_toArray, List.getElem_cons_zero, List.getElem_cons_succ]
        refine wpAnyH_take (i := 19) (v := (.pointer (some ⟨N, 3, none⟩))) rfl (by kernel_rfl) (by kernel_rfl) (by kernel_rfl) (fun _ _ _ h => h) (Or.inl ⟨by rfl, ?_⟩) hS ?_
        · intro W hSw
          clear hS
          obtain ⟨sA, sB, sC, sD, s4, s5, s6, s7, s8⟩ := hSw
          go_simp
        simp only [Act.put, List.setIfInBounds_toArray, List.set_cons_zero, List.set_cons_succ, List.getElem_toArray, List.getElem_cons_zero, List.getElem_cons_succ]
        refine wpAnyH_take (i := 20) (v := (.int .i64 (x.tag : Int))) rfl (by kernel_rfl) (by kernel_rfl) (by kernel_rfl) (fun _ _ _ h => h) (Or.inl ⟨by rfl, ?_⟩) hS ?_
        · intro W hSw
          clear hS
          obtain ⟨sA, sB, sC, sD, s4, s5, s6, s7, s8⟩ := hSw
          go_simp
        simp only [Act.put, List.setIfInBounds_toArray, List.set_cons_zero, List.set_cons_succ, List.getElem_toArray, List.getElem_cons_zero, List.getElem_cons_succ]
        refine wpAnyH_take (i := 21) (v := (.bool true)) rfl (by kernel_rfl) (by kernel_rfl) (by kernel_rfl) (fun _ _ _ h => h) (Or.inl ⟨by rfl, ?_⟩) hS ?_
        · intro W hSw
          clear hS
          obtain ⟨sA, sB, sC, sD, s4, s5, s6, s7, s8⟩ := hSw
          go_simp
        simp only [Act.put, List.setIfInBounds_toArray, List.set_cons_zero, List.set_cons_succ, List.getElem_toArray, List.getElem_cons_zero, List.getElem_cons_succ]
        refine wpAnyH_take (i := 22) (v := (.bool true)) rfl (by kernel_rfl) (by kernel_rfl) (by kernel_rfl) (fun _ _ _ h => h) (Or.inl ⟨by rfl, ?_⟩) hS ?_
        · intro W hSw
          clear hS
          obtain ⟨sA, sB, sC, sD, s4, s5, s6, s7, s8⟩ := hSw
          go_simp
        simp only [Act.put, List.setIfInBounds_toArray, List.set_cons_zero, List.set_cons_succ, List.getElem_toArray, List.getElem_cons_zero, List.getElem_cons_succ]
        refine wpAnyH_take (i := 23) (v := (.bool true)) rfl (by kernel_rfl) (by kernel_rfl) (by kernel_rfl) (fun _ _ _ h => h) (Or.inl ⟨by rfl, ?_⟩) hS ?_
        · intro W hSw
          clear hS
          obtain ⟨sA, sB, sC, sD, s4, s5, s6, s7, s8⟩ := hSw
          go_simp
        simp only [Act.put, List.setIfInBounds_toArray, List.set_cons_zero, List.set_cons_succ, List.getElem_toArray, List.getElem_cons_zero, List.getElem_cons_succ]
        refine wpAnyH_take (i := 24) (v := (.pointer (some ⟨N, 4, none⟩))) rfl (by kernel_rfl) (by kernel_rfl) (by kernel_rfl) (fun _ _ _ h => h) (Or.inl ⟨by rfl, ?_⟩) hS ?_
        · intro W hSw
          clear hS
          obtain ⟨sA, sB, sC, sD, s4, s5, s6, s7, s8⟩ := hSw
          go_simp
        simp only [Act.put, List.setIfInBounds_toArray, List.set_cons_zero, List.set_cons_succ, List.getElem_toArray, List.getElem_cons_zero, List.getElem_cons_succ]
        refine wpAnyH_take (i := 25) (v := (J.frV x.e x.id x.r (x.dlc : Int) hd.1 hd.2.1 hd.2.2)) rfl (by kernel_rfl) (by kernel_rfl) (by kernel_rfl) (fun _ _ _ h => h) (Or.inl ⟨by rfl, ?_⟩) hS ?_
        · intro W hSw
          clear hS
          obtain ⟨sA, sB, sC, sD, s4, s5, s6, s7, s8⟩ := hSw
          go_simp
        simp only [Act.put, List.setIfInBounds_toArray, List.set_cons_zero, List.set_cons_succ, List.getElem_toArray, List.getElem_cons_zero, List.getElem_cons_succ]
        refine wpAnyH_all (rs := [26]) (by kernel_rfl) (by simp) ?_
        refine AllReadyH.cons rfl (fun K hK => ?_) AllReadyH.nil
        go_simp
        refine (HVF.out wc.drew (Below.refl _ _).drew).mono ?_
        rintro o w7 ⟨rfl, b7⟩
        have hS7 : (fun V => V.cell? ⟨rb, 3, none⟩ = some (.slice h2'.1 m h2'.2.2) ∧ V.cell? ⟨N, 2, none⟩ = some (.int .i64 (x.node : Int)) ∧ V.cell? ⟨rb, 2, none⟩ = some (.slice h1'.1 nu h1'.2.2) ∧ V.cell? ⟨N, 3, none⟩ = some (.int .i64 (x.tag : Int)) ∧ V.cell? ⟨N, 4, none⟩ = some (.bool x.e) ∧ V.cell? ⟨N, 5, none⟩ = some (.int .u32 (x.id : Int)) ∧ V.cell? ⟨N, 6, none⟩ = some (.bool x.r) ∧ V.cell? ⟨N, 7, none⟩ = some (.int .i64 (x.dlc : Int)) ∧ V.cell? ⟨N, 8, none⟩ = some (hdV hd)) w7 := kp9 hS (by simpa using b7)
        go_wp2_with fail
        refine hK.out _ _ hS7 (fun hS2 => ?_)
        clear hS hK K hS7
        have hS := hS2
        clear hS2
        refine wpAnyH_take (i := 27) (v := (.bool (J.validB x.e x.id x.r (x.dlc : Int) hd.2.1))) rfl (by kernel_rfl) (by kernel_rfl) (by kernel_rfl) (fun _ _ _ h => h) (Or.inl ⟨by rfl, ?_⟩) hS ?_
        · intro W hSw
          clear hS
          obtain ⟨sA, sB, sC, sD, s4, s5, s6, s7, s8⟩ := hSw
          go_simp
        simp only [Act.put, List.setIfInBounds_toArray, List.set_cons_zero, List.set_cons_succ, List.getElem_toArray, List.getElem_cons_zero, List.getElem_cons_succ]
        refine wpAnyH_take (i := 28) (v := (.bool (J.validB x.e x.id x.r (x.dlc : Int) hd.2.1))) rfl (by kernel_rfl) (by kernel_rfl) (by kernel_rfl) (fun _ _ _ h => h) (Or.inl ⟨by rfl, ?_⟩) hS ?_
        · intro W hSw
          clear hS
          obtain ⟨sA, sB, sC, sD, s4, s5, s6, s7, s8⟩ := hSw
          go_simp
        simp only [Act.put, List.setIfInBounds_toArray, List.set_cons_zero, List.set_cons_succ, List.getElem_toArray, List.getElem_cons_zero, List.getElem_cons_succ]
        refine wpAnyH_done (by kernel_rfl) ?_ _
        clear hS
        go_wp2
        go_ret
        exact ⟨ret_bool HEQ.out.symm, ⟨_, _, _, _, HX6.out.1.below ((Below.refl _ _).drew.trans b7)⟩, HK6.out.below ((Below.refl _ _).drew.trans b7) hB6⟩
      · have hc' : ¬ (x.tag : Int) ≤ 9999 := by omega
        have HEQ : Hid (ordB S x = false) := by
          show ordB S x = _
          unfold ordB
          simp [hc]
        clear hdl
        refine wp_region_held (S := (fun V => V.cell? ⟨rb, 3, none⟩ = some (.slice h2'.1 m h2'.2.2) ∧ V.cell? ⟨N, 2, none⟩ = some (.int .i64 (x.node : Int)) ∧ V.cell? ⟨rb, 2, none⟩ = some (.slice h1'.1 nu h1'.2.2) ∧ V.cell? ⟨N, 3, none⟩ = some (.int .i64 (x.tag : Int)) ∧ V.cell? ⟨N, 4, none⟩ = some (.bool x.e) ∧ V.cell? ⟨N, 5, none⟩ = some (.int .u32 (x.id : Int)) ∧ V.cell? ⟨N, 6, none⟩ = some (.bool x.r) ∧ V.cell? ⟨N, 7, none⟩ = some (.int .i64 (x.dlc : Int)) ∧ V.cell? ⟨N, 8, none⟩ = some (hdV hd))) (by kernel_rfl) ?_
        have hS : (fun V => V.cell? ⟨rb, 3, none⟩ = some (.slice h2'.1 m h2'.2.2) ∧ V.cell? ⟨N, 2, none⟩ = some (.int .i64 (x.node : Int)) ∧ V.cell? ⟨rb, 2, none⟩ = some (.slice h1'.1 nu h1'.2.2) ∧ V.cell? ⟨N, 3, none⟩ = some (.int .i64 (x.tag : Int)) ∧ V.cell? ⟨N, 4, none⟩ = some (.bool x.e) ∧ V.cell? ⟨N, 5, none⟩ = some (.int .u32 (x.id : Int)) ∧ V.cell? ⟨N, 6, none⟩ = some (.bool x.r) ∧ V.cell? ⟨N, 7, none⟩ = some (.int .i64 (x.dlc : Int)) ∧ V.cell? ⟨N, 8, none⟩ = some (hdV hd)) wc.drew := ⟨y3, z2, y2, z3, z4, z5, z6, z7, z8⟩
        refine wpAnyH_take (i := 0) (v := (.pointer (some ⟨rb, 0, none⟩))) rfl (by kernel_rfl) (by kernel_rfl) (by kernel_rfl) (fun _ _ _ h => h) (Or.inl ⟨by rfl, ?_⟩) hS ?_
        · intro W hSw
          clear hS
          obtain ⟨sA, sB, sC, sD, s4, s5, s6, s7, s8⟩ := hSw
          go_simp
        simp only [Act.put, List.setIfInBounds_toArray, List.set_cons_zero, List.set_cons_succ, List.getElem_toArray, List.getElem_cons_zero]
        refine wpAnyH_take (i := 1) (v := (.pointer (some ⟨rb, 0, none⟩))) rfl (by kernel_rfl) (by kernel_rfl) (by kernel_rfl) (fun _ _ _ h => h) (Or.inl ⟨by rfl, ?_⟩) hS ?_
        · intro W hSw
          clear hS
          obtain ⟨sA, sB, sC, sD, s4, s5, s6, s7, s8⟩ := hSw
          go_simp
        simp only [Act.put, List.setIfInBounds_toArray, List.set_cons_zero, List.set_cons_succ, List.getElem_toArray, List.getElem_cons_zero, List.getElem_cons_succ]
        refine wpAnyH_take (i := 2) (v := (.pointer (some ⟨rb, 0, none⟩))) rfl (by kernel_rfl) (by kernel_rfl) (by kernel_rfl) (fun _ _ _ h => h) (Or.inl ⟨by rfl, ?_⟩) hS ?_
        · intro W hSw
          clear hS
          obtain ⟨sA, sB, sC, sD, s4, s5, s6, s7, s8⟩ := hSw
          go_simp
        simp only [Act.put, List.setIfInBounds_toArray, List.set_cons_zero, List.set_cons_succ, List.getElem_toArray, List.getElem_cons_zero, List.getElem_cons_succ]
        refine wpAnyH_take (i := 3) (v := (.pointer (some ⟨rb, 3, none⟩))) rfl (by kernel_rfl) (by kernel_rfl) (by kernel_rfl) (fun _ _ _ h => h) (Or.inl ⟨by rfl, ?_⟩) hS ?_
        · intro W hSw
          clear hS
          obtain ⟨sA, sB, sC, sD, s4, s5, s6, s7, s8⟩ := hSw
          go_simp
        simp only [Act.put, List.setIfInBounds_toArray, List.set_cons_zero, List.set_cons_succ, List.getElem_toArray, List.getElem_cons_zero, List.getElem_cons_succ]
        refine wpAnyH_take (i := 4) (v := (.slice h2'.1 m h2'.2.2)) rfl (by kernel_rfl) (by kernel_rfl) (by kernel_rfl) (fun _ _ _ h => h) (Or.inl ⟨by rfl, ?_⟩) hS ?_
        · intro W hSw
          clear hS
          obtain ⟨sA, sB, sC, sD, s4, s5, s6, s7, s8⟩ := hSw
          go_simp
        simp only [Act.put, List.setIfInBounds_toArray, List.set_cons_zero, List.set_cons_succ, List.getElem_toArray, List.getElem_cons_zero, List.getElem_cons_succ]
        refine wpAnyH_take (i := 5) (v := (.int .i64 (m : Int))) rfl (by kernel_rfl) (by kernel_rfl) (by kernel_rfl) (fun _ _ _ h => h) (Or.inl ⟨by rfl, ?_⟩) hS ?_
        · intro W hSw
          clear hS
          obtain ⟨sA, sB, sC, sD, s4, s5, s6, s7, s8⟩ := hSw
          go_simp
        simp only [Act.put, List.setIfInBounds_toArray, List.set_cons_zero, List.set_cons_succ, List.getElem_toArray, List.getElem_cons_zero, List.getElem_cons_succ]
        refine wpAnyH_take (i := 6) (v := (.bool true)) rfl (by kernel_rfl) (by kernel_rfl) (by kernel_rfl) (fun _ _ _ h => h) (Or.inl ⟨by rfl, ?_⟩) hS ?_
        · intro W hSw
          clear hS
          obtain ⟨sA, sB, sC, sD, s4, s5, s6, s7, s8⟩ := hSw
          go_simp
        simp only [Act.put, List.setIfInBounds_toArray, List.set_cons_zero, List.set_cons_succ, List.getElem_toArray, List.getElem_cons_zero, List.getElem_cons_succ]
        refine wpAnyH_take (i := 7) (v := (.bool true)) rfl (by kernel_rfl) (by kernel_rfl) (by kernel_rfl) (fun _ _ _ h => h) (Or.inl ⟨by rfl, ?_⟩) hS ?_
        · intro W hSw
          clear hS
          obtain ⟨sA, sB, sC, sD, s4, s5, s6, s7, s8⟩ := hSw
          go_simp
        simp only [Act.put, List.setIfInBounds_toArray, List.set_cons_zero, List.set_cons_succ, List.getElem_toArray, List.getElem_cons_zero, List.getElem_cons_succ]
        refine wpAnyH_take (i := 8) (v := (.pointer (some ⟨N, 2, none⟩))) rfl (by kernel_rfl) (by kernel_rfl) (by kernel_rfl) (fun _ _ _ h => h) (Or.inl ⟨by rfl, ?_⟩) hS ?_
        · intro W hSw
          clear hS
          obtain ⟨sA, sB, sC, sD, s4, s5, s6, s7, s8⟩ := hSw
          go_simp
        simp only [Act.put, List.setIfInBounds_toArray, List.set_cons_zero, List.set_cons_succ, List.getElem_toArray, List.getElem_cons_zero, List.getElem_cons_succ]
        refine wpAnyH_take (i := 9) (v := (.int .i64 (x.node : Int))) rfl (by kernel_rfl) (by kernel_rfl) (by kernel_rfl) (fun _ _ _ h => h) (Or.inl ⟨by rfl, ?_⟩) hS ?_
        · intro W hSw
          clear hS
          obtain ⟨sA, sB, sC, sD, s4, s5, s6, s7, s8⟩ := hSw
          go_simp
        simp only [Act.put, List.setIfInBounds_toArray, List.set_cons_zero, List.set_cons_succ, List.getElem_toArray, List.getElem_cons_zero, List.getElem_cons_succ]
        refine wpAnyH_take (i := 10) (v := (.pointer (some ⟨rb, 0, none⟩))) rfl (by kernel_rfl) (by kernel_rfl) (by kernel_rfl) (fun _ _ _ h => h) (Or.inl ⟨by rfl, ?_⟩) hS ?_
        · intro W hSw
          clear hS
          obtain ⟨sA, sB, sC, sD, s4, s5, s6, s7, s8⟩ := hSw
          go_simp
        simp only [Act.put, List.setIfInBounds_toArray, List.set_cons_zero, List.set_cons_succ, List.getElem_toArray, List.getElem_cons_zero, List.getElem_cons_succ]
        refine wpAnyH_take (i := 11) (v := (.pointer (some ⟨rb, 0, none⟩))) rfl (by kernel_rfl) (by kernel_rfl) (by kernel_rfl) (fun _ _ _ h => h) (Or.inl ⟨by rfl, ?_⟩) hS ?_
        · intro W hSw
          clear hS
          obtain ⟨sA, sB, sC, sD, s4, s5, s6, s7, s8⟩ := hSw
          go_simp
        simp only [Act.put, List.setIfInBounds_toArray, List.set_cons_zero, List.set_cons_succ, List.getElem_toArray, List.getElem_cons_zero, List.getElem_cons_succ]
        refine wpAnyH_take (i := 12) (v := (.pointer (some ⟨rb, 0, none⟩))) rfl (by kernel_rfl) (by kernel_rfl) (by kernel_rfl) (fun _ _ _ h => h) (Or.inl ⟨by rfl, ?_⟩) hS ?_
        · intro W hSw
          clear hS
          obtain ⟨sA, sB, sC, sD, s4, s5, s6, s7, s8⟩ := hSw
          go_simp
        simp only [Act.put, List.setIfInBounds_toArray, List.set_cons_zero, List.set_cons_succ, List.getElem_toArray, List.getElem_cons_zero, List.getElem_cons_succ]
        refine wpAnyH_take (i := 13) (v := (.pointer (some ⟨rb, 2, none⟩))) rfl (by kernel_rfl) (by kernel_rfl) (by kernel_rfl) (fun _ _ _ h => h) (Or.inl ⟨by rfl, ?_⟩) hS ?_
        · intro W hSw
          clear hS
          obtain ⟨sA, sB, sC, sD, s4, s5, s6, s7, s8⟩ := hSw
          go_simp
        simp only [Act.put, List.setIfInBounds_toArray, List.set_cons_zero, List.set_cons_succ, List.getElem_toArray, List.getElem_cons_zero, List.getElem_cons_succ]
        refine wpAnyH_take (i := 14) (v := (.slice h1'.1 nu h1'.2.2)) rfl (by kernel_rfl) (by kernel_rfl) (by kernel_rfl) (fun _ _ _ h => h) (Or.inl ⟨by rfl, ?_⟩) hS ?_
        · intro W hSw
          clear hS
          obtain ⟨sA, sB, sC, sD, s4, s5, s6, s7, s8⟩ := hSw
          go_simp
        simp only [Act.put, List.setIfInBounds_toArray, List.set_cons_zero, List.set_cons_succ, List.getElem_toArray, List.getElem_cons_zero, List.getElem_cons_succ]
        refine wpAnyH_take (i := 15) (v := (.int .i64 (nu : Int))) rfl (by kernel_rfl) (by kernel_rfl) (by kernel_rfl) (fun _ _ _ h => h) (Or.inl ⟨by rfl, ?_⟩) hS ?_
        · intro W hSw
          clear hS
          obtain ⟨sA, sB, sC, sD, s4, s5, s6, s7, s8⟩ := hSw
          go_simp
        simp only [Act.put, List.setIfInBounds_toArray, List.set_cons_zero, List.set_cons_succ, List.getElem_toArray, List.getElem_cons_zero, List.getElem_cons_succ]
        refine wpAnyH_take (i := 16) (v := (.bool true)) rfl (by kernel_rfl) (by kernel_rfl) (by kernel_rfl) (fun _ _ _ h => h) (Or.inl ⟨by rfl, ?_⟩) hS ?_
        · intro W hSw
          clear hS
          obtain ⟨sA, sB, sC, sD, s4, s5, s6, s7, s8⟩ := hSw
          go_simp
        simp only [Act.put, List.setIfInBounds_toArray, List.set_cons_zero, List.set_cons_succ, List.getElem_toArray, List.getElem_cons_zero, List.getElem_cons_succ]
        refine wpAnyH_take (i := 17) (v := (.bool true)) rfl (by kernel_rfl) (by kernel_rfl) (by kernel_rfl) (fun _ _ _ h => h) (Or.inl ⟨by rfl, ?_⟩) hS ?_
        · intro W hSw
          clear hS
          obtain ⟨sA, sB, sC, sD, s4, s5, s6, s7, s8⟩ := hSw
          go_simp
        simp only [Act.put, List.setIfInBounds_toArray, List.set_cons_zero, List.set_cons_succ, List.getElem_toArray, List.getElem_cons_zero, List.getElem_cons_succ]
        refine wpAnyH_take (i := 18) (v := (.bool true)) rfl (by kernel_rfl) (by kernel_rfl) (by kernel_rfl) (fun _ _ _ h => h) (Or.inl ⟨by rfl, ?_⟩) hS ?_
        · intro W hSw
          clear hS
          obtain ⟨sA, sB, sC, sD, s4, s5, s6, s7, s8⟩ := hSw
          go_simp
        simp only [Act.put, List.setIfInBounds_toArray, List.set_cons_zero, List.set_cons_succ, List.getElem_toArray, List.getElem_cons_zero, List.getElem_cons_succ]
        refine wpAnyH_take (i := 19) (v := (.pointer (some ⟨N, 3, none⟩))) rfl (by kernel_rfl) (by kernel_rfl) (by kernel_rfl) (fun _ _ _ h => h) (Or.inl ⟨by rfl, ?_⟩) hS ?_
        · intro W hSw
          clear hS
          obtain ⟨sA, sB, sC, sD, s4, s5, s6, s7, s8⟩ := hSw
          go_simp
        simp only [Act.put, List.setIfInBounds_toArray, List.set_cons_zero, List.set_cons_succ, List.getElem_toArray, List.getElem_cons_zero, List.getElem_cons_succ]
        refine wpAnyH_take (i := 20) (v := (.int .i64 (x.tag : Int))) rfl (by kernel_rfl) (by kernel_rfl) (by kernel_rfl) (fun _ _ _ h => h) (Or.inl ⟨by rfl, ?_⟩) hS ?_
        · intro W hSw
          clear hS
          obtain ⟨sA, sB, sC, sD, s4, s5, s6, s7, s8⟩ := hSw
          go_simp
        simp only [Act.put, List.setIfInBounds_toArray, List.set_cons_zero, List.set_cons_succ, List.getElem_toArray, List.getElem_cons_zero, List.getElem_cons_succ]
        refine wpAnyH_take (i := 21) (v := (.bool false)) rfl (by kernel_rfl) (by kernel_rfl) (by kernel_rfl) (fun _ _ _ h => h) (Or.inl ⟨by rfl, ?_⟩) hS ?_
        · intro W hSw
          clear hS
          obtain ⟨sA, sB, sC, sD, s4, s5, s6, s7, s8⟩ := hSw
          go_simp
        simp only [Act.put, List.setIfInBounds_toArray, List.set_cons_zero, List.set_cons_succ, List.getElem_toArray, List.getElem_cons_zero, List.getElem_cons_succ]
        refine wpAnyH_take (i := 22) (v := (.bool false)) rfl (by kernel_rfl) (by kernel_rfl) (by kernel_rfl) (fun _ _ _ h => h) (Or.inl ⟨by rfl, ?_⟩) hS ?_
        · intro W hSw
          clear hS
          obtain ⟨sA, sB, sC, sD, s4, s5, s6, s7, s8⟩ := hSw
          go_simp
        simp only [Act.put, List.setIfInBounds_toArray, List.set_cons_zero, List.set_cons_succ, List.getElem_toArray, List.getElem_cons_zero, List.getElem_cons_succ]
        refine wpAnyH_take (i := 23) (v := (.bool false)) rfl (by kernel_rfl) (by kernel_rfl) (by kernel_rfl) (fun _ _ _ h => h) (Or.inl ⟨by rfl, ?_⟩) hS ?_
        · intro W hSw
          clear hS
          obtain ⟨sA, sB, sC, sD, s4, s5, s6, s7, s8⟩ := hSw
          go_simp
        simp only [Act.put, List.setIfInBounds_toArray, List.set_cons_zero, List.set_cons_succ, List.getElem_toArray, List.getElem_cons_zero, List.getElem_cons_succ]
        refine wpAnyH_take (i := 24) (v := undef) rfl (by kernel_rfl) (by kernel_rfl) (by kernel_rfl) (fun _ _ _ h => h) (Or.inr ⟨by rfl, rfl⟩) hS ?_
        simp only [Act.put, List.setIfInBounds_toArray, List.set_cons_zero, List.set_cons_succ, List.getElem_toArray, List.getElem_cons_zero, List.getElem_cons_succ]
        refine wpAnyH_take (i := 25) (v := undef) rfl (by kernel_rfl) (by kernel_rfl) (by kernel_rfl) (fun _ _ _ h => h) (Or.inr ⟨by rfl, rfl⟩) hS ?_
        simp only [Act.put, List.setIfInBounds_toArray, List.set_cons_zero, List.set_cons_succ, List.getElem_toArray, List.getElem_cons_zero, List.getElem_cons_succ]
        refine wpAnyH_take (i := 26) (v := undef) rfl (by kernel_rfl) (by kernel_rfl) (by kernel_rfl) (fun _ _ _ h => h) (Or.inr ⟨by rfl, rfl⟩) hS ?_
        simp only [Act.put, List.setIfInBounds_toArray, List.set_cons_zero, List.set_cons_succ, List.getElem_toArray, List.getElem_cons_zero, List.getElem_cons_succ]
        refine wpAnyH_take (i := 27) (v := (.bool false)) rfl (by kernel_rfl) (by kernel_rfl) (by kernel_rfl) (fun _ _ _ h => h) (Or.inl ⟨by rfl, ?_⟩) hS ?_
        · intro W hSw
          clear hS
          obtain ⟨sA, sB, sC, sD, s4, s5, s6, s7, s8⟩ := hSw
          go_simp
        simp only [Act.put, List.setIfInBounds_toArray, List.set_cons_zero, List.set_cons_succ, List.getElem_toArray, List.getElem_cons_zero, List.getElem_cons_succ]
        refine wpAnyH_take (i := 28) (v := (.bool false)) rfl (by kernel_rfl) (by kernel_rfl) (by kernel_rfl) (fun _ _ _ h => h) (Or.inl ⟨by rfl, ?_⟩) hS ?_
        · intro W hSw
          clear hS
          obtain ⟨sA, sB, sC, sD, s4, s5, s6, s7, s8⟩ := hSw
          go_simp
        simp only [Act.put, List.setIfInBounds_toArray, List.set_cons_zero, List.set_cons_succ, List.getElem_toArray, List.getElem_cons_zero, List.getElem_cons_succ]
        refine wpAnyH_done (by kernel_rfl) ?_ _
        clear hS
        go_wp2
        go_ret
        exact ⟨ret_bool HEQ.out.symm, ⟨_, _, _, _, HX6.out.1.below (Below.refl _ _).drew⟩, HK6.out.below (Below.refl _ _).drew hB6⟩
    · have hb' : ¬ (x.node : Int) < (nu : Int) := by omega
      have HEQ : Hid (ordB S x = false) := by
        show ordB S x = _
        unfold ordB
        rw [← HMM.out.2]
        simp [hb]
      clear hdl
      refine wp_region_held (S := (fun V => V.cell? ⟨rb, 3, none⟩ = some (.slice h2'.1 m h2'.2.2) ∧ V.cell? ⟨N, 2, none⟩ = some (.int .i64 (x.node : Int)) ∧ V.cell? ⟨rb, 2, none⟩ = some (.slice h1'.1 nu h1'.2.2) ∧ V.cell? ⟨N, 3, none⟩ = some (.int .i64 (x.tag : Int)) ∧ V.cell? ⟨N, 4, none⟩ = some (.bool x.e) ∧ V.cell? ⟨N, 5, none⟩ = some (.int .u32 (x.id : Int)) ∧ V.cell? ⟨N, 6, none⟩ = some (.bool x.r) ∧ V.cell? ⟨N, 7, none⟩ = some (.int .i64 (x.dlc : Int)) ∧ V.cell? ⟨N, 8, none⟩ = some (hdV hd))) (by kernel_rfl) ?_
      have hS : (fun V => V.cell? ⟨rb, 3, none⟩ = some (.slice h2'.1 m h2'.2.2) ∧ V.cell? ⟨N, 2, none⟩ = some (.int .i64 (x.node : Int)) ∧ V.cell? ⟨rb, 2, none⟩ = some (.slice h1'.1 nu h1'.2.2) ∧ V.cell? ⟨N, 3, none⟩ = some (.int .i64 (x.tag : Int)) ∧ V.cell? ⟨N, 4, none⟩ = some (.bool x.e) ∧ V.cell? ⟨N, 5, none⟩ = some (.int .u32 (x.id : Int)) ∧ V.cell? ⟨N, 6, none⟩ = some (.bool x.r) ∧ V.cell? ⟨N, 7, none⟩ = some (.int .i64 (x.dlc : Int)) ∧ V.cell? ⟨N, 8, none⟩ = some (hdV hd)) wc.drew := ⟨y3, z2, y2, z3, z4, z5, z6, z7, z8⟩
      refine wpAnyH_take (i := 0) (v := (.pointer (some ⟨rb, 0, none⟩))) rfl (by kernel_rfl) (by kernel_rfl) (by kernel_rfl) (fun _ _ _ h => h) (Or.inl ⟨by rfl, ?_⟩) hS ?_
      · intro W hSw
        clear hS
        obtain ⟨sA, sB, sC, sD, s4, s5, s6, s7, s8⟩ := hSw
        go_simp
      simp only [Act.put, List.setIfInBounds_toArray, List.set_cons_zero, List.set_cons_succ, List.getElem_toArray, List.getElem_cons_zero]
      refine wpAnyH_take (i := 1) (v := (.pointer (some ⟨rb, 0, none⟩))) rfl (by kernel_rfl) (by kernel_rfl) (by kernel_rfl) (fun _ _ _ h => h) (Or.inl ⟨by rfl, ?_⟩) hS ?_
      · intro W hSw
        clear hS
        obtain ⟨sA, sB, sC, sD, s4, s5, s6, s7, s8⟩ := hSw
        go_simp
      simp only [Act.put, List.setIfInBounds_toArray, List.set_cons_zero, List.set_cons_succ, List.getElem_toArray, List.getElem_cons_zero, List.getElem_cons_succ]
      refine wpAnyH_take (i := 2) (v := (.pointer (some ⟨rb, 0, none⟩))) rfl (by kernel_rfl) (by kernel_rfl) (by kernel_rfl) (fun _ _ _ h => h) (Or.inl ⟨by rfl, ?_⟩) hS ?_
      · intro W hSw
        clear hS
        obtain ⟨sA, sB, sC, sD, s4, s5, s6, s7, s8⟩ := hSw
        go_simp
      simp only [Act.put, List.setIfInBounds_toArray, List.set_cons_zero, List.set_cons_succ, List.getElem_toArray, List.getElem_cons_zero, List.getElem_cons_succ]
      refine wpAnyH_take (i := 3) (v := (.pointer (some ⟨rb, 3, none⟩))) rfl (by kernel_rfl) (by kernel_rfl) (by kernel_rfl) (fun _ _ _ h => h) (Or.inl ⟨by rfl, ?_⟩) hS ?_
      · intro W hSw
        clear hS
        obtain ⟨sA, sB, sC, sD, s4, s5, s6, s7, s8⟩ := hSw
        go_simp
      simp only [Act.put, List.setIfInBounds_toArray, List.set_cons_zero, List.set_cons_succ, List.getElem_toArray, List.getElem_cons_zero, List.getElem_cons_succ]
      refine wpAnyH_take (i := 4) (v := (.slice h2'.1 m h2'.2.2)) rfl (by kernel_rfl) (by kernel_rfl) (by kernel_rfl) (fun _ _ _ h => h) (Or.inl ⟨by rfl, ?_⟩) hS ?_
      · intro W hSw
        clear hS
        obtain ⟨sA, sB, sC, sD, s4, s5, s6, s7, s8⟩ := hSw
        go_simp
      simp only [Act.put, List.setIfInBounds_toArray, List.set_cons_zero, List.set_cons_succ, List.getElem_toArray, List.getElem_cons_zero, List.getElem_cons_succ]
      refine wpAnyH_take (i := 5) (v := (.int .i64 (m : Int))) rfl (by kernel_rfl) (by kernel_rfl) (by kernel_rfl) (fun _ _ _ h => h) (Or.inl ⟨by rfl, ?_⟩) hS ?_
      · intro W hSw
        clear hS
        obtain ⟨sA, sB, sC, sD, s4, s5, s6, s7, s8⟩ := hSw
        go_simp
      simp only [Act.put, List.setIfInBounds_toArray, List.set_cons_zero, List.set_cons_succ, List.getElem_toArray, List.getElem_cons_zero, List.getElem_cons_succ]
      refine wpAnyH_take (i := 6) (v := (.bool true)) rfl (by kernel_rfl) (by kernel_rfl) (by kernel_rfl) (fun _ _ _ h => h) (Or.inl ⟨by rfl, ?_⟩) hS ?_
      · intro W hSw
        clear hS
        obtain ⟨sA, sB, sC, sD, s4, s5, s6, s7, s8⟩ := hSw
        go_simp
      simp only [Act.put, List.setIfInBounds_toArray, List.set_cons_zero, List.set_cons_succ, List.getElem_toArray, List.getElem_cons_zero, List.getElem_cons_succ]
      refine wpAnyH_take (i := 7) (v := (.bool true)) rfl (by kernel_rfl) (by kernel_rfl) (by kernel_rfl) (fun _ _ _ h => h) (Or.inl ⟨by rfl, ?_⟩) hS ?_
      · intro W hSw
        clear hS
        obtain ⟨sA, sB, sC, sD, s4, s5, s6, s7, s8⟩ := hSw
        go_simp
      simp only [Act.put, List.setIfInBounds_toArray, List.set_cons_zero, List.set_cons_succ, List.getElem_toArray, List.getElem_cons_zero, List.getElem_cons_succ]
      refine wpAnyH_take (i := 8) (v := (.pointer (some ⟨N, 2, none⟩))) rfl (by kernel_rfl) (by kernel_rfl) (by kernel_rfl) (fun _ _ _ h => h) (Or.inl ⟨by rfl, ?_⟩) hS ?_
      · intro W hSw
        clear hS
        obtain ⟨sA, sB, sC, sD, s4, s5, s6, s7, s8⟩ := hSw
        go_simp
      simp only [Act.put, List.setIfInBounds_toArray, List.set_cons_zero, List.set_cons_succ, List.getElem_toArray, List.getElem_cons_zero, List.getElem_cons_succ]
      refine wpAnyH_take (i := 9) (v := (.int .i64 (x.node : Int))) rfl (by kernel_rfl) (by kernel_rfl) (by kernel_rfl) (fun _ _ _ h => h) (Or.inl ⟨by rfl, ?_⟩) hS ?_
      · intro W hSw
        clear hS
        obtain ⟨sA, sB, sC, sD, s4, s5, s6, s7, s8⟩ := hSw
        go_simp
      simp only [Act.put, List.setIfInBounds_toArray, List.set_cons_zero, List.set_cons_succ, List.getElem_toArray, List.getElem_cons_zero, List.getElem_cons_succ]
      refine wpAnyH_take (i := 10) (v := (.pointer (some ⟨rb, 0, none⟩))) rfl (by kernel_rfl) (by kernel_rfl) (by kernel_rfl) (fun _ _ _ h => h) (Or.inl ⟨by rfl, ?_⟩) hS ?_
      · intro W hSw
        clear hS
        obtain ⟨sA, sB, sC, sD, s4, s5, s6, s7, s8⟩ := hSw
        go_simp
      simp only [Act.put, List.setIfInBounds_toArray, List.set_cons_zero, List.set_cons_succ, List.getElem_toArray, List.getElem_cons_zero, List.getElem_cons_succ]
      refine wpAnyH_take (i := 11) (v := (.pointer (some ⟨rb, 0, none⟩))) rfl (by kernel_rfl) (by kernel_rfl) (by kernel_rfl) (fun _ _ _ h => h) (Or.inl ⟨by rfl, ?_⟩) hS ?_
      · intro W hSw
        clear hS
        obtain ⟨sA, sB, sC, sD, s4, s5, s6, s7, s8⟩ := hSw
        go_simp
      simp only [Act.put, List.setIfInBounds_toArray, List.set_cons_zero, List.set_cons_succ, List.getElem_toArray, List.getElem_cons_zero, List.getElem_cons_succ]
      refine wpAnyH_take (i := 12) (v := (.pointer (some ⟨rb, 0, none⟩))) rfl (by kernel_rfl) (by kernel_rfl) (by kernel_rfl) (fun _ _ _ h => h) (Or.inl ⟨by rfl, ?_⟩) hS ?_
      · intro W hSw
        clear hS
        obtain ⟨sA, sB, sC, sD, s4, s5, s6, s7, s8⟩ := hSw
        go_simp
      simp only [Act.put, List.setIfInBounds_toArray, List.set_cons_zero, List.set_cons_succ, List.getElem_toArray, List.getElem_cons_zero, List.getElem_cons_succ]
      refine wpAnyH_take (i := 13) (v := (.pointer (some ⟨rb, 2, none⟩))) rfl (by kernel_rfl) (by kernel_rfl) (by kernel_rfl) (fun _ _ _ h => h) (Or.inl ⟨by rfl, ?_⟩) hS ?_
      · intro W hSw
        clear hS
        obtain ⟨sA, sB, sC, sD, s4, s5, s6, s7, s8⟩ := hSw
        go_simp
      simp only [Act.put, List.setIfInBounds_toArray, List.set_cons_zero, List.set_cons_succ, List.getElem_toArray, List.getElem_cons_zero, List.getElem_cons_succ]
      refine wpAnyH_take (i := 14) (v := (.slice h1'.1 nu h1'.2.2)) rfl (by kernel_rfl) (by kernel_rfl) (by kernel_rfl) (fun _ _ _ h => h) (Or.inl ⟨by rfl, ?_⟩) hS ?_
      · intro W hSw
        clear hS
        obtain ⟨sA, sB, sC, sD, s4, s5, s6, s7, s8⟩ := hSw
        go_simp
      simp only [Act.put, List.setIfInBounds_toArray, List.set_cons_zero, List.set_cons_succ, List.getElem_toArray, List.getElem_cons_zero, List.getElem_cons_succ]
      refine wpAnyH_take (i := 15) (v := (.int .i64 (nu : Int))) rfl (by kernel_rfl) (by kernel_rfl) (by kernel_rfl) (fun _ _ _ h => h) (Or.inl ⟨by rfl, ?_⟩) hS ?_
      · intro W hSw
        clear hS
        obtain ⟨sA, sB, sC, sD, s4, s5, s6, s7, s8⟩ := hSw
        go_simp
      simp only [Act.put, List.setIfInBounds_toArray, List.set_cons_zero, List.set_cons_succ, List.getElem_toArray, List.getElem_cons_zero, List.getElem_cons_succ]
      refine wpAnyH_take (i := 16) (v := (.bool false)) rfl (by kernel_rfl) (by kernel_rfl) (by kernel_rfl) (fun _ _ _ h => h) (Or.inl ⟨by rfl, ?_⟩) hS ?_
      · intro W hSw
        clear hS
        obtain ⟨sA, sB, sC, sD, s4, s5, s6, s7, s8⟩ := hSw
        go_simp
      simp only [Act.put, List.setIfInBounds_toArray, List.set_cons_zero, List.set_cons_succ, List.getElem_toArray, List.getElem_cons_zero, List.getElem_cons_succ]
      refine wpAnyH_take (i := 17) (v := (.bool false)) rfl (by kernel_rfl) (by kernel_rfl) (by kernel_rfl) (fun _ _ _ h => h) (Or.inl ⟨by rfl, ?_⟩) hS ?_
      · intro W hSw
        clear hS
        obtain ⟨sA, sB, sC, sD, s4, s5, s6, s7, s8⟩ := hSw
        go_simp
      simp only [Act.put, List.setIfInBounds_toArray, List.set_cons_zero, List.set_cons_succ, List.getElem_toArray, List.getElem_cons_zero, List.getElem_cons_succ]
      refine wpAnyH_take (i := 18) (v := (.bool false)) rfl (by kernel_rfl) (by kernel_rfl) (by kernel_rfl) (fun _ _ _ h => h) (Or.inl ⟨by rfl, ?_⟩) hS ?_
      · intro W hSw
        clear hS
        obtain ⟨sA, sB, sC, sD, s4, s5, s6, s7, s8⟩ := hSw
        go_simp
      simp only [Act.put, List.setIfInBounds_toArray, List.set_cons_zero, List.set_cons_succ, List.getElem_toArray, List.getElem_cons_zero, List.getElem_cons_succ]
      refine wpAnyH_take (i := 19) (v := undef) rfl (by kernel_rfl) (by kernel_rfl) (by kernel_rfl) (fun _ _ _ h => h) (Or.inr ⟨by rfl, rfl⟩) hS ?_
      simp only [Act.put, List.setIfInBounds_toArray, List.set_cons_zero, List.set_cons_succ, List.getElem_toArray, List.getElem_cons_zero, List.getElem_cons_succ]
      refine wpAnyH_take (i := 20) (v := undef) rfl (by kernel_rfl) (by kernel_rfl) (by kernel_rfl) (fun _ _ _ h => h) (Or.inr ⟨by rfl, rfl⟩) hS ?_
      simp only [Act.put, List.setIfInBounds_toArray, List.set_cons_zero, List.set_cons_succ, List.getElem_toArray, List.getElem_cons_zero, List.getElem_cons_succ]
      refine wpAnyH_take (i := 21) (v := undef) rfl (by kernel_rfl) (by kernel_rfl) (by kernel_rfl) (fun _ _ _ h => h) (Or.inr ⟨by rfl, rfl⟩) hS ?_
      simp only [Act.put, List.setIfInBounds_toArray, List.set_cons_zero, List.set_cons_succ, List.getElem_toArray, List.getElem_cons_zero, List.getElem_cons_succ]
      refine wpAnyH_take (i := 22) (v := (.bool false)) rfl (by kernel_rfl) (by kernel_rfl) (by kernel_rfl) (fun _ _ _ h => h) (Or.inl ⟨by rfl, ?_⟩) hS ?_
      · intro W hSw
        clear hS
        obtain ⟨sA, sB, sC, sD, s4, s5, s6, s7, s8⟩ := hSw
        go_simp
      simp only [Act.put, List.setIfInBounds_toArray, List.set_cons_zero, List.set_cons_succ, List.getElem_toArray, List.getElem_cons_zero, List.getElem_cons_succ]
      refine wpAnyH_take (i := 23) (v := (.bool false)) rfl (by kernel_rfl) (by kernel_rfl) (by kernel_rfl) (fun _ _ _ h => h) (Or.inl ⟨by rfl, ?_⟩) hS ?_
      · intro W hSw
        clear hS
        obtain ⟨sA, sB, sC, sD, s4, s5, s6, s7, s8⟩ := hSw
        go_simp
      simp only [Act.put, List.setIfInBounds_toArray, List.set_cons_zero, List.set_cons_succ, List.getElem_toArray, List.getElem_cons_zero, List.getElem_cons_succ]
      refine wpAnyH_take (i := 24) (v := undef) rfl (by kernel_rfl) (by kernel_rfl) (by kernel_rfl) (fun _ _ _ h => h) (Or.inr ⟨by rfl, rfl⟩) hS ?_
      simp only [Act.put, List.setIfInBounds_toArray, List.set_cons_zero, List.set_cons_succ, List.getElem_toArray, List.getElem_cons_zero, List.getElem_cons_succ]
      refine wpAnyH_take (i := 25) (v := undef) rfl (by kernel_rfl) (by kernel_rfl) (by kernel_rfl) (fun _ _ _ h => h) (Or.inr ⟨by rfl, rfl⟩) hS ?_
      simp only [Act.put, List.setIfInBounds_toArray, List.set_cons_zero, List.set_cons_succ, List.getElem_toArray, List.getElem_cons_zero, List.getElem_cons_succ]
      refine wpAnyH_take (i := 26) (v := undef) rfl (by kernel_rfl) (by kernel_rfl) (by kernel_rfl) (fun _ _ _ h => h) (Or.inr ⟨by rfl, rfl⟩) hS ?_
      simp only [Act.put, List.setIfInBounds_toArray, List.set_cons_zero, List.set_cons_succ, List.getElem_toArray, List.getElem_cons_zero, List.getElem_cons_succ]
      refine wpAnyH_take (i := 27) (v := (.bool false)) rfl (by kernel_rfl) (by kernel_rfl) (by kernel_rfl) (fun _ _ _ h => h) (Or.inl ⟨by rfl, ?_⟩) hS ?_
      · intro W hSw
        clear hS
        obtain ⟨sA, sB, sC, sD, s4, s5, s6, s7, s8⟩ := hSw
        go_simp
      simp only [Act.put, List.setIfInBounds_toArray, List.set_cons_zero, List.set_cons_succ, List.getElem_toArray, List.getElem_cons_zero, List.getElem_cons_succ]
      refine wpAnyH_take (i := 28) (v := (.bool false)) rfl (by kernel_rfl) (by kernel_rfl) (by kernel_rfl) (fun _ _ _ h => h) (Or.inl ⟨by rfl, ?_⟩) hS ?_
      · intro W hSw
        clear hS
        obtain ⟨sA, sB, sC, sD, s4, s5, s6, s7, s8⟩ := hSw
        go_simp
      simp only [Act.put, List.setIfInBounds_toArray, List.set_cons_zero, List.set_cons_succ, List.getElem_toArray, List.getElem_cons_zero, List.getElem_cons_succ]
      refine wpAnyH_done (by kernel_rfl) ?_ _
      clear hS
      go_wp2
      go_ret
      exact ⟨ret_bool HEQ.out.symm, ⟨_, _, _, _, HX6.out.1.below (Below.refl _ _).drew⟩, HK6.out.below (Below.refl _ _).drew hB6⟩
  · have ha' : ¬ (m : Int) ≤ 500 := by omega
    have HEQ : Hid (ordB S x = false) := by
      have e1 := HMM.out
      show ordB S x = _
      unfold ordB
      have : ¬ S.od.length < 500 := by omega
      simp [this]
    clear hdl
    refine wp_region_held (S := (fun V => V.cell? ⟨rb, 3, none⟩ = some (.slice h2'.1 m h2'.2.2) ∧ V.cell? ⟨N, 2, none⟩ = some (.int .i64 (x.node : Int)) ∧ V.cell? ⟨rb, 2, none⟩ = some (.slice h1'.1 nu h1'.2.2) ∧ V.cell? ⟨N, 3, none⟩ = some (.int .i64 (x.tag : Int)) ∧ V.cell? ⟨N, 4, none⟩ = some (.bool x.e) ∧ V.cell? ⟨N, 5, none⟩ = some (.int .u32 (x.id : Int)) ∧ V.cell? ⟨N, 6, none⟩ = some (.bool x.r) ∧ V.cell? ⟨N, 7, none⟩ = some (.int .i64 (x.dlc : Int)) ∧ V.cell? ⟨N, 8, none⟩ = some (hdV hd))) (by kernel_rfl) ?_
    have hS : (fun V => V.cell? ⟨rb, 3, none⟩ = some (.slice h2'.1 m h2'.2.2) ∧ V.cell? ⟨N, 2, none⟩ = some (.int .i64 (x.node : Int)) ∧ V.cell? ⟨rb, 2, none⟩ = some (.slice h1'.1 nu h1'.2.2) ∧ V.cell? ⟨N, 3, none⟩ = some (.int .i64 (x.tag : Int)) ∧ V.cell? ⟨N, 4, none⟩ = some (.bool x.e) ∧ V.cell? ⟨N, 5, none⟩ = some (.int .u32 (x.id : Int)) ∧ V.cell? ⟨N, 6, none⟩ = some (.bool x.r) ∧ V.cell? ⟨N, 7, none⟩ = some (.int .i64 (x.dlc : Int)) ∧ V.cell? ⟨N, 8, none⟩ = some (hdV hd)) wc.drew := ⟨y3, z2, y2, z3, z4, z5, z6, z7, z8⟩
    refine wpAnyH_take (i := 0) (v := (.pointer (some ⟨rb, 0, none⟩))) rfl (by kernel_rfl) (by kernel_rfl) (by kernel_rfl) (fun _ _ _ h => h) (Or.inl ⟨by rfl, ?_⟩) hS ?_
    · intro W hSw
      clear hS
      obtain ⟨sA, sB, sC, sD, s4, s5, s6, s7, s8⟩ := hSw
      go_simp
    simp only [Act.put, List.setIfInBounds_toArray, List.set_cons_zero, List.set_cons_succ, List.getElem_toArray, List.getElem_cons_zero]
    refine wpAnyH_take (i := 1) (v := (.pointer (some ⟨rb, 0, none⟩))) rfl (by kernel_rfl) (by kernel_rfl) (by kernel_rfl) (fun _ _ _ h => h) (Or.inl ⟨by rfl, ?_⟩) hS ?_
    · intro W hSw
      clear hS
      obtain ⟨sA, sB, sC, sD, s4, s5, s6, s7, s8⟩ := hSw
      go_simp
    simp only [Act.put, List.setIfInBounds_toArray, List.set_cons_zero, List.set_cons_succ, List.getElem_toArray, List.getElem_cons_zero, List.getElem_cons_succ]
    refine wpAnyH_take (i := 2) (v := (.pointer (some ⟨rb, 0, none⟩))) rfl (by kernel_rfl) (by kernel_rfl) (by kernel_rfl) (fun _ _ _ h => h) (Or.inl ⟨by rfl, ?_⟩) hS ?_
    · intro W hSw
      clear hS
      obtain ⟨sA, sB, sC, sD, s4, s5, s6, s7, s8⟩ := hSw
      go_simp
    simp only [Act.put, List.setIfInBounds_toArray, List.set_cons_zero, List.set_cons_succ, List.getElem_toArray, List.getElem_cons_zero, List.getElem_cons_succ]
    refine wpAnyH_take (i := 3) (v := (.pointer (some ⟨rb, 3, none⟩))) rfl (by kernel_rfl) (by kernel_rfl) (by kernel_rfl) (fun _ _ _ h => h) (Or.inl ⟨by rfl, ?_⟩) hS ?_
    · intro W hSw
      clear hS
      obtain ⟨sA, sB, sC, sD, s4, s5, s6, s7, s8⟩ := hSw
      go_simp
    simp only [Act.put, List.setIfInBounds_toArray, List.set_cons_zero, List.set_cons_succ, List.getElem_toArray, List.getElem_cons_zero, List.getElem_cons_succ]
    refine wpAnyH_take (i := 4) (v := (.slice h2'.1 m h2'.2.2)) rfl (by kernel_rfl) (by kernel_rfl) (by kernel_rfl) (fun _ _ _ h => h) (Or.inl ⟨by rfl, ?_⟩) hS ?_
    · intro W hSw
      clear hS
      obtain ⟨sA, sB, sC, sD, s4, s5, s6, s7, s8⟩ := hSw
      go_simp
    simp only [Act.put, List.setIfInBounds_toArray, List.set_cons_zero, List.set_cons_succ, List.getElem_toArray, List.getElem_cons_zero, List.getElem_cons_succ]
    refine wpAnyH_take (i := 5) (v := (.int .i64 (m : Int))) rfl (by kernel_rfl) (by kernel_rfl) (by kernel_rfl) (fun _ _ _ h => h) (Or.inl ⟨by rfl, ?_⟩) hS ?_
    · intro W hSw
      clear hS
      obtain ⟨sA, sB, sC, sD, s4, s5, s6, s7, s8⟩ := hSw
      go_simp
    simp only [Act.put, List.setIfInBounds_toArray, List.set_cons_zero, List.set_cons_succ, List.getElem_toArray, List.getElem_cons_zero, List.getElem_cons_succ]
    refine wpAnyH_take (i := 6) (v := (.bool false)) rfl (by kernel_rfl) (by kernel_rfl) (by kernel_rfl) (fun _ _ _ h => h) (Or.inl ⟨by rfl, ?_⟩) hS ?_
    · intro W hSw
      clear hS
      obtain ⟨sA, sB, sC, sD, s4, s5, s6, s7, s8⟩ := hSw
      go_simp
    simp only [Act.put, List.setIfInBounds_toArray, List.set_cons_zero, List.set_cons_succ, List.getElem_toArray, List.getElem_cons_zero, List.getElem_cons_succ]
    refine wpAnyH_take (i := 7) (v := (.bool false)) rfl (by kernel_rfl) (by kernel_rfl) (by kernel_rfl) (fun _ _ _ h => h) (Or.inl ⟨by rfl, ?_⟩) hS ?_
    · intro W hSw
      clear hS
      obtain ⟨sA, sB, sC, sD, s4, s5, s6, s7, s8⟩ := hSw
      go_simp
    simp only [Act.put, List.setIfInBounds_toArray, List.set_cons_zero, List.set_cons_succ, List.getElem_toArray, List.getElem_cons_zero, List.getElem_cons_succ]
    refine wpAnyH_take (i := 8) (v := undef) rfl (by kernel_rfl) (by kernel_rfl) (by kernel_rfl) (fun _ _ _ h => h) (Or.inr ⟨by rfl, rfl⟩) hS ?_
    simp only [Act.put, List.setIfInBounds_toArray, List.set_cons_zero, List.set_cons_succ, List.getElem_toArray, List.getElem_cons_zero, List.getElem_cons_succ]
    refine wpAnyH_take (i := 9) (v := undef) rfl (by kernel_rfl) (by kernel_rfl) (by kernel_rfl) (fun _ _ _ h => h) (Or.inr ⟨by rfl, rfl⟩) hS ?_
    simp only [Act.put, List.setIfInBounds_toArray, List.set_cons_zero, List.set_cons_succ, List.getElem_toArray, List.getElem_cons_zero, List.getElem_cons_succ]
    refine wpAnyH_take (i := 10) (v := undef) rfl (by kernel_rfl) (by kernel_rfl) (by kernel_rfl) (fun _ _ _ h => h) (Or.inr ⟨by rfl, rfl⟩) hS ?_
    simp only [Act.put, List.setIfInBounds_toArray, List.set_cons_zero, List.set_cons_succ, List.getElem_toArray, List.getElem_cons_zero, List.getElem_cons_succ]
    refine wpAnyH_take (i := 11) (v := undef) rfl (by kernel_rfl) (by kernel_rfl) (by kernel_rfl) (fun _ _ _ h => h) (Or.inr ⟨by rfl, rfl⟩) hS ?_
    simp only [Act.put, List.setIfInBounds_toArray, List.set_cons_zero, List.set_cons_succ, List.getElem_toArray, List.getElem_cons_zero, List.getElem_cons_succ]
    refine wpAnyH_take (i := 12) (v := undef) rfl (by kernel_rfl) (by kernel_rfl) (by kernel_rfl) (fun _ _ _ h => h) (Or.inr ⟨by rfl, rfl⟩) hS ?_
    simp only [Act.put, List.setIfInBounds_toArray, List.set_cons_zero, List.set_cons_succ, List.getElem_toArray, List.getElem_cons_zero, List.getElem_cons_succ]
    refine wpAnyH_take (i := 13) (v := undef) rfl (by kernel_rfl) (by kernel_rfl) (by kernel_rfl) (fun _ _ _ h => h) (Or.inr ⟨by rfl, rfl⟩) hS ?_
    simp only [Act.put, List.setIfInBounds_toArray, List.set_cons_zero, List.set_cons_succ, List.getElem_toArray, List.getElem_cons_zero, List.getElem_cons_succ]
    refine wpAnyH_take (i := 14) (v := undef) rfl (by kernel_rfl) (by kernel_rfl) (by kernel_rfl) (fun _ _ _ h => h) (Or.inr ⟨by rfl, rfl⟩) hS ?_
    simp only [Act.put, List.setIfInBounds_toArray, List.set_cons_zero, List.set_cons_succ, List.getElem_toArray, List.getElem_cons_zero, List.getElem_cons_succ]
    refine wpAnyH_take (i := 15) (v := undef) rfl (by kernel_rfl) (by kernel_rfl) (by kernel_rfl) (fun _ _ _ h => h) (Or.inr ⟨by rfl, rfl⟩) hS ?_
    simp only [Act.put, List.setIfInBounds_toArray, List.set_cons_zero, List.set_cons_succ, List.getElem_toArray, List.getElem_cons_zero, List.getElem_cons_succ]
    refine wpAnyH_take (i := 16) (v := undef) rfl (by kernel_rfl) (by kernel_rfl) (by kernel_rfl) (fun _ _ _ h => h) (Or.inr ⟨by rfl, rfl⟩) hS ?_
    simp only [Act.put, List.setIfInBounds_toArray, List.set_cons_zero, List.set_cons_succ, List.getElem_toArray, List.getElem_cons_zero, List.getElem_cons_succ]
    refine wpAnyH_take (i := 17) (v := (.bool false)) rfl (by kernel_rfl) (by kernel_rfl) (by kernel_rfl) (fun _ _ _ h => h) (Or.inl ⟨by rfl, ?_⟩) hS ?_
    · intro W hSw
      clear hS
      obtain ⟨sA, sB, sC, sD, s4, s5, s6, s7, s8⟩ := hSw
      go_simp
    simp only [Act.put, List.setIfInBounds_toArray, List.set_cons_zero, List.set_cons_succ, List.getElem_toArray, List.getElem_cons_zero, List.getElem_cons_succ]
    refine wpAnyH_take (i := 18) (v := (.bool false)) rfl (by kernel_rfl) (by kernel_rfl) (by kernel_rfl) (fun _ _ _ h => h) (Or.inl ⟨by rfl, ?_⟩) hS ?_
    · intro W hSw
      clear hS
      obtain ⟨sA, sB, sC, sD, s4, s5, s6, s7, s8⟩ := hSw
      go_simp
    simp only [Act.put, List.setIfInBounds_toArray, List.set_cons_zero, List.set_cons_succ, List.getElem_toArray, List.getElem_cons_zero, List.getElem_cons_succ]
    refine wpAnyH_take (i := 19) (v := undef) rfl (by kernel_rfl) (by kernel_rfl) (by kernel_rfl) (fun _ _ _ h => h) (Or.inr ⟨by rfl, rfl⟩) hS ?_
    simp only [Act.put, List.setIfInBounds_toArray, List.set_cons_zero, List.set_cons_succ, List.getElem_toArray, List.getElem_cons_zero, List.getElem_cons_succ]
    refine wpAnyH_take (i := 20) (v := undef) rfl (by kernel_rfl) (by kernel_rfl) (by kernel_rfl) (fun _ _ _ h => h) (Or.inr ⟨by rfl, rfl⟩) hS ?_
    simp only [Act.put, List.setIfInBounds_toArray, List.set_cons_zero, List.set_cons_succ, List.getElem_toArray, List.getElem_cons_zero, List.getElem_cons_succ]
    refine wpAnyH_take (i := 21) (v := undef) rfl (by kernel_rfl) (by kernel_rfl) (by kernel_rfl) (fun _ _ _ h => h) (Or.inr ⟨by rfl, rfl⟩) hS ?_
    simp only [Act.put, List.setIfInBounds_toArray, List.set_cons_zero, List.set_cons_succ, List.getElem_toArray, List.getElem_cons_zero, List.getElem_cons_succ]
    refine wpAnyH_take (i := 22) (v := (.bool false)) rfl (by kernel_rfl) (by kernel_rfl) (by kernel_rfl) (fun _ _ _ h => h) (Or.inl ⟨by rfl, ?_⟩) hS ?_
    · intro W hSw
      clear hS
      obtain ⟨sA, sB, sC, sD, s4, s5, s6, s7, s8⟩ := hSw
      go_simp
    simp only [Act.put, List.setIfInBounds_toArray, List.set_cons_zero, List.set_cons_succ, List.getElem_toArray, List.getElem_cons_zero, List.getElem_cons_succ]
    refine wpAnyH_take (i := 23) (v := (.bool false)) rfl (by kernel_rfl) (by kernel_rfl) (by kernel_rfl) (fun _ _ _ h => h) (Or.inl ⟨by rfl, ?_⟩) hS ?_
    · intro W hSw
      clear hS
      obtain ⟨sA, sB, sC, sD, s4, s5, s6, s7, s8⟩ := hSw
      go_simp
    simp only [Act.put, List.setIfInBounds_toArray, List.set_cons_zero, List.set_cons_succ, List.getElem_toArray, List.getElem_cons_zero, List.getElem_cons_succ]
    refine wpAnyH_take (i := 24) (v := undef) rfl (by kernel_rfl) (by kernel_rfl) (by kernel_rfl) (fun _ _ _ h => h) (Or.inr ⟨by rfl, rfl⟩) hS ?_
    simp only [Act.put, List.setIfInBounds_toArray, List.set_cons_zero, List.set_cons_succ, List.getElem_toArray, List.getElem_cons_zero, List.getElem_cons_succ]
    refine wpAnyH_take (i := 25) (v := undef) rfl (by kernel_rfl) (by kernel_rfl) (by kernel_rfl) (fun _ _ _ h => h) (Or.inr ⟨by rfl, rfl⟩) hS ?_
    simp only [Act.put, List.setIfInBounds_toArray, List.set_cons_zero, List.set_cons_succ, List.getElem_toArray, List.getElem_cons_zero, List.getElem_cons_succ]
    refine wpAnyH_take (i := 26) (v := undef) rfl (by kernel_rfl) (by kernel_rfl) (by kernel_rfl) (fun _ _ _ h => h) (Or.inr ⟨by rfl, rfl⟩) hS ?_
    simp only [Act.put, List.setIfInBounds_toArray, List.set_cons_zero, List.set_cons_succ, List.getElem_toArray, List.getElem_cons_zero, List.getElem_cons_succ]
    refine wpAnyH_take (i := 27) (v := (.bool false)) rfl (by kernel_rfl) (by kernel_rfl) (by kernel_rfl) (fun _ _ _ h => h) (Or.inl ⟨by rfl, ?_⟩) hS ?_
    · intro W hSw
      clear hS
      obtain ⟨sA, sB, sC, sD, s4, s5, s6, s7, s8⟩ := hSw
      go_simp
    simp only [Act.put, List.setIfInBounds_toArray, List.set_cons_zero, List.set_cons_succ, List.getElem_toArray, List.getElem_cons_zero, List.getElem_cons_succ]
    refine wpAnyH_take (i := 28) (v := (.bool false)) rfl (by kernel_rfl) (by kernel_rfl) (by kernel_rfl) (fun _ _ _ h => h) (Or.inl ⟨by rfl, ?_⟩) hS ?_
    · intro W hSw
      clear hS
      obtain ⟨sA, sB, sC, sD, s4, s5, s6, s7, s8⟩ := hSw
      go_simp
    simp only [Act.put, List.setIfInBounds_toArray, List.set_cons_zero, List.set_cons_succ, List.getElem_toArray, List.getElem_cons_zero, List.getElem_cons_succ]
    refine wpAnyH_done (by kernel_rfl) ?_ _
    clear hS
    go_wp2
    go_ret
    exact ⟨ret_bool HEQ.out.symm, ⟨_, _, _, _, HX6.out.1.below (Below.refl _ _).drew⟩, HK6.out.below (Below.refl _ _).drew hB6⟩
end Go.Proofs.YtfbeaekddgpmmaaGreatDoor
