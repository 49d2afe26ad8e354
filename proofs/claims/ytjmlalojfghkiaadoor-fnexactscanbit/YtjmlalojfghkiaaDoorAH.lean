import Derived.Test.YtjmlalojfghkiaaDoorAG
namespace Go.Proofs.YtjmlalojfghkiaaDoor
open Go.RowKit
set_option linter.unusedVariables false
/-- beside it: the copy that the program is handed -/
structure xS (w : World) (S : Sc) (a : Option Addr) (n cap P : Nat) (T : Sc) (aw : Option Addr) (nw kw X gx : Nat) (W : World) : Prop where
  l : lS w S a n cap P T aw nw kw W
  x : blk W X (scL S (some ⟨gx, 0, none⟩) n n) 31
  y : isBytes W (some ⟨gx, 0, none⟩) n n S.l
  r : ∃ f, rowB W gx n f
  lt : gx < W.heap.size
theorem xS.below {w : World} {S : Sc} {a : Option Addr} {n cap P : Nat} {T : Sc} {aw : Option Addr} {nw kw X gx : Nat} {W W' : World} (h : xS w S a n cap P T aw nw kw X gx W) (hb : Below W.heap.size W W') : xS w S a n cap P T aw nw kw X gx W' :=
  ⟨h.l.below hb, h.x.below hb, h.y.below hb, h.r.elim fun f hf => ⟨f, hf.below hb h.lt⟩, Nat.lt_of_lt_of_le h.lt hb.size⟩
set_option maxHeartbeats 8000000 in
set_option maxRecDepth 40000 in
/-- laws.FnExactScanBit -/
theorem lawScanBit (S : Sc) (a : Option Addr) (n cap : Nat) (bit : Int) (w : World) (hg : w.rangeAt 0 0 tabL) (hz : 0 < w.heap.size) (h : isBytes w a n cap S.l) (hn : n ≤ 9223372036854775807) :
    Calls Tryd.prog 3 #[scV S a n cap, .int .i64 bit] w fun o w' => o = .returned (.bool true) ∧ Below w.heap.size w w' := by
  have HA : Hid (Below w.heap.size w (w.alloc (.cells (scL S a n cap).toArray 27)) ∧ blk (w.alloc (.cells (scL S a n cap).toArray 27)) w.heap.size (scL S a n cap) 27) := ⟨(Below.refl _ _).alloc (Nat.le_refl _) _, blk.new w _ 27⟩
  by_cases hle : n ≤ 1048576
  · obtain ⟨T, c, hSC⟩ := SC_is S bit h.small
    have HSC : Hid (SC S bit T c) := hSC
    have HR : Hid (isBytes w a n cap S.l) := h
    have HTB : Hid (∀ W, Below w.heap.size w W → W.rangeAt 0 0 tabL ∧ 0 < W.heap.size) := fun W hW => ⟨tab_keep hg hz hz hW, Nat.lt_of_lt_of_le hz hW.size⟩
    have HSZ : Hid (∀ X, Calls Tryd.prog 5 #[scV S a n cap, .int .i64 1048576] X fun o w' => (∃ m' : Nat, o = .returned (.int .i64 (m' : Int))) ∧ Below X.heap.size X w') := fun X => (szScan_any X S a n cap 1048576 hn (Nat.le_refl _)).mono (by rintro o w' ⟨rfl, e⟩; rw [if_pos (by omega)]; exact ⟨⟨1048576 - n, by congr 2; omega⟩, e⟩)
    clear hSC h hn hg hz
    obtain ⟨f, lf, rn, lv, cr, ac, e, i, r, d, l⟩ := S
    go_enter Tryd.func3, Tryd.ntmps3
    go_wp2_with fail
    refine (HSZ.out _).mono ?_
    rintro o w1 ⟨⟨m', rfl⟩, hb1⟩
    have H1 : Hid (blk w1 w.heap.size (scL ⟨f, lf, rn, lv, cr, ac, e, i, r, d, l⟩ a n cap) 27 ∧ Below w.heap.size w w1) := ⟨HA.out.2.below hb1, HA.out.1.trans (hb1.mono HA.out.1.size)⟩
    clear hb1 HA
    go_wp2_with (first
      | (refine wpList_load_mid (P := Tryd.prog) rfl 27 (.tmp 2) rfl w.heap.size 0 rfl _ _ H1.out.1.load Tryd.underlying27 rfl sz27 ?_))
    refine (toScan_row w1 ⟨f, lf, rn, lv, cr, ac, e, i, r, d, l⟩ a n cap (HR.out.below H1.out.2) hle).mono ?_
    rintro o w2 ⟨g2, rfl, hy2, hb2, hg2, hl2, _⟩
    have H2 : Hid (blk w2 w.heap.size (scL ⟨f, lf, rn, lv, cr, ac, e, i, r, d, l⟩ a n cap) 27 ∧ Below w.heap.size w w2) := ⟨H1.out.1.below hb2, H1.out.2.trans (hb2.mono H1.out.2.size)⟩
    have HY2 : Hid (isBytes w2 (some ⟨g2, 0, none⟩) n n l) := hy2
    clear hb2 hy2 hg2 hl2 H1
    go_wp2_with fail
    refine (HSC.out.sp w2 _ n n HY2.out hle).mono ?_
    rintro o w3 ⟨aw, nw, kw, rfl, hy3, hb3⟩
    obtain ⟨hq4, hb4⟩ := new_scan (w := w3) (T := 31) (scL T aw nw kw) (scL_len T aw nw kw)
    have HL4 : Hid (lS w ⟨f, lf, rn, lv, cr, ac, e, i, r, d, l⟩ a n cap w3.heap.size T aw nw kw (World.setCells (w3.alloc (.cells z11.toArray 31)) w3.heap.size 0 (scL T aw nw kw))) := ⟨(H2.out.1.below hb3).below hb4, hq4, hy3.below hb4, (H2.out.2.trans (hb3.mono H2.out.2.size)).trans (hb4.mono (H2.out.2.trans (hb3.mono H2.out.2.size)).size)⟩
    have HT4 : Hid (World.there (w3.alloc (.cells z11.toArray 31)) w3.heap.size 0 11) := (blk.new w3 z11 31).there 0 11 (by simp)
    clear hb3 hy3 H2 HY2 hq4 hb4
    rw [scV_L]
    go_wp2_with (first
      | (refine wpList_store_mid (P := Tryd.prog) rfl 31 (.tmp 6) (.tmp 26) rfl w3.heap.size 0 (scL T aw nw kw).toArray rfl rfl HT4.out (sz31A T aw nw kw) (scL_one T aw nw kw) ?_; generalize hW5 : World.setCells (World.alloc _ _) w3.heap.size 0 _ = w5; have HL5 : Hid (lS w ⟨f, lf, rn, lv, cr, ac, e, i, r, d, l⟩ a n cap w3.heap.size T aw nw kw w5) := (hW5 ▸ HL4.out); clear hW5)
      | (refine wpList_load_mid (P := Tryd.prog) rfl 27 (.tmp 2) rfl w.heap.size 0 rfl _ _ HL5.out.p.load Tryd.underlying27 rfl sz27 ?_))
    clear HL4 HT4
    refine (toScan_row w5 ⟨f, lf, rn, lv, cr, ac, e, i, r, d, l⟩ a n cap (HR.out.below HL5.out.b) hle).mono ?_
    rintro o w6 ⟨gx, rfl, hy6, hb6, hg6, hl6, hr6⟩
    obtain ⟨hq7, hb7⟩ := new_scan (w := w6) (T := 31) (scL ⟨f, lf, rn, lv, cr, ac, e, i, r, d, l⟩ (some ⟨gx, 0, none⟩) n n) (scL_len _ _ _ _)
    have HT7 : Hid (World.there (w6.alloc (.cells z11.toArray 31)) w6.heap.size 0 11) := (blk.new w6 z11 31).there 0 11 (by simp)
    have HX7 : Hid (blk (World.setCells (w6.alloc (.cells z11.toArray 31)) w6.heap.size 0 (scL ⟨f, lf, rn, lv, cr, ac, e, i, r, d, l⟩ (some ⟨gx, 0, none⟩) n n)) w6.heap.size (scL ⟨f, lf, rn, lv, cr, ac, e, i, r, d, l⟩ (some ⟨gx, 0, none⟩) n n) 31 ∧ Below w6.heap.size w6 (World.setCells (w6.alloc (.cells z11.toArray 31)) w6.heap.size 0 (scL ⟨f, lf, rn, lv, cr, ac, e, i, r, d, l⟩ (some ⟨gx, 0, none⟩) n n))) := ⟨hq7, hb7⟩
    have HX6 : Hid (w5.heap.size ≤ gx ∧ gx < w6.heap.size ∧ isBytes w6 (some ⟨gx, 0, none⟩) n n l ∧ (∃ f, rowB w6 gx n f) ∧ Below w5.heap.size w5 w6) := ⟨hg6, hl6, hy6, hr6, hb6⟩
    have HL6 : Hid (lS w ⟨f, lf, rn, lv, cr, ac, e, i, r, d, l⟩ a n cap w3.heap.size T aw nw kw w6) := HL5.out.below hb6
    clear hq7 hb7 hg6 hl6 hy6 hr6 hb6
    rw [scV_L]
    have HX8 : Hid (xS w ⟨f, lf, rn, lv, cr, ac, e, i, r, d, l⟩ a n cap w3.heap.size T aw nw kw w6.heap.size gx (World.setCells (w6.alloc (.cells z11.toArray 31)) w6.heap.size 0 (scL ⟨f, lf, rn, lv, cr, ac, e, i, r, d, l⟩ (some ⟨gx, 0, none⟩) n n))) := ⟨HL6.out.below HX7.out.2, HX7.out.1, HX6.out.2.2.1.below HX7.out.2, HX6.out.2.2.2.1.elim fun f hf => ⟨f, hf.below HX7.out.2 HX6.out.2.1⟩, Nat.lt_of_lt_of_le HX6.out.2.1 HX7.out.2.size⟩
    have HB8 : Hid (Below w5.heap.size w5 (World.setCells (w6.alloc (.cells z11.toArray 31)) w6.heap.size 0 (scL ⟨f, lf, rn, lv, cr, ac, e, i, r, d, l⟩ (some ⟨gx, 0, none⟩) n n))) := HX6.out.2.2.2.2.trans (HX7.out.2.mono HX6.out.2.2.2.2.size)
    have HG5 : Hid (w5.heap.size ≤ gx) := HX6.out.1
    clear HX7 HX6 HL6
    go_wp2_with (first
      | (refine wpList_store_mid (P := Tryd.prog) rfl 31 (.tmp 8) (.tmp 29) rfl w6.heap.size 0 (scL ⟨f, lf, rn, lv, cr, ac, e, i, r, d, l⟩ (some ⟨gx, 0, none⟩) n n).toArray rfl rfl HT7.out (sz31A _ _ _ _) (scL_one _ _ _ _) ?_; generalize hW7 : World.setCells (World.alloc _ _) w6.heap.size 0 _ = w7; have HXS7 : Hid (xS w ⟨f, lf, rn, lv, cr, ac, e, i, r, d, l⟩ a n cap w3.heap.size T aw nw kw w6.heap.size gx w7) := (hW7 ▸ HX8.out); have HB7 : Hid (Below w5.heap.size w5 w7) := (hW7 ▸ HB8.out); clear hW7)
      | (refine wpList_load_mid (P := Tryd.prog) rfl 31 (.tmp 8) rfl w6.heap.size 0 rfl _ _ HXS7.out.x.load Tryd.underlying31 rfl sz31 ?_))
    clear HX8 HB8 HT7
    refine (HSC.out.im w7 gx n n (HTB.out _ HXS7.out.l.b).1 (HTB.out _ HXS7.out.l.b).2 HXS7.out.y hle).mono ?_
    rintro o w8 ⟨ag, ng, kg, rfl, ha8, hb8⟩
    obtain ⟨hq9, hb9⟩ := new_scan (w := w8) (T := 31) (scL T ag ng kg) (scL_len _ _ _ _)
    have HT9 : Hid (World.there (w8.alloc (.cells z11.toArray 31)) w8.heap.size 0 11) := (blk.new w8 z11 31).there 0 11 (by simp)
    have HQ9 : Hid (blk (World.setCells (w8.alloc (.cells z11.toArray 31)) w8.heap.size 0 (scL T ag ng kg)) w8.heap.size (scL T ag ng kg) 31 ∧ Below w8.heap.size w8 (World.setCells (w8.alloc (.cells z11.toArray 31)) w8.heap.size 0 (scL T ag ng kg))) := ⟨hq9, hb9⟩
    have HI8 : Hid (∀ W, Below w8.heap.size w8 W → xS w ⟨f, lf, rn, lv, cr, ac, e, i, r, d, l⟩ a n cap w3.heap.size T aw nw kw w6.heap.size gx W ∧ Below w5.heap.size w5 W) := by
      intro W hW
      have h1 : Below w7.heap.size w7 W := hb8.trans (hW.mono hb8.size)
      exact ⟨HXS7.out.below h1, HB7.out.trans (h1.mono HB7.out.size)⟩
    have HS8 : Hid (St w7.heap.size w8 (fun W => isBytes W ag ng kg T.l)) := ansB_bytes ha8 HSC.out.small
    have HM8 := ansB_mark ha8 hb8.size HSC.out.len
    have HM8' : Hid (St w7.heap.size w8 (fun W => w8.heap.size ≤ W.heap.size → Calls Tryd.prog 10 #[scV T ag ng kg, .int .i64 1] W fun o W' => (∃ q : Nat, o = .returned (.int .i64 (q : Int)) ∧ (∀ b, b < w7.heap.size → W'.heap[b]? = W.heap[b]?) ∧ W.heap.size ≤ W'.heap.size ∧ (∀ b, w8.heap.size ≤ b → b < W.heap.size → W'.heap[b]? = W.heap[b]?) ∧ Below w7.heap.size W W' ∧
      Calls Tryd.prog 11 #[scV T ag ng kg, .int .i64 1] W' fun o W'' => o = .returned (.int .i64 (q : Int)) ∧ Below W'.heap.size W' W''))) := HM8
    have HZ8 : Hid (w7.heap.size ≤ w8.heap.size ∧ gx < w7.heap.size ∧ ng ≤ 1048576 ∧ nw ≤ 1048576) := ⟨hb8.size, HXS7.out.lt, by have := (HS8.out.now).len; have := HSC.out.len; omega, by have := HXS7.out.l.o.len; have := HSC.out.len; omega⟩
    clear hq9 hb9 ha8 hb8 HM8
    rw [scV_L]
    go_wp2_with (first
      | (refine wpList_store_mid (P := Tryd.prog) rfl 31 (.tmp 9) (.tmp 34) rfl w8.heap.size 0 (scL T ag ng kg).toArray rfl rfl HT9.out (sz31A _ _ _ _) (scL_one _ _ _ _) ?_; generalize hW9 : World.setCells (World.alloc _ _) w8.heap.size 0 _ = w9; have HG9 : Hid (blk w9 w8.heap.size (scL T ag ng kg) 31) := (hW9 ▸ HQ9.out.1); have HW9 : Hid (Below w8.heap.size w8 w9) := (hW9 ▸ HQ9.out.2); clear hW9)
      | (refine wpList_load_mid (P := Tryd.prog) rfl 31 (.tmp 9) rfl w8.heap.size 0 rfl _ _ HG9.out.load Tryd.underlying31 rfl (sz31L _ _ _ _) ?_)
      | (refine wpList_load_mid (P := Tryd.prog) rfl 31 (.tmp 6) rfl w3.heap.size 0 rfl _ _ (HI8.out _ HW9.out).1.l.q.load Tryd.underlying31 rfl (sz31L _ _ _ _) ?_))
    clear HQ9 HT9
    rw [← scV_L, ← scV_L]
    refine (eqScan_same w9 T ag ng kg ((St.below HS8.out HW9.out).now) aw nw kw (HI8.out _ HW9.out).1.l.o HZ8.out.2.2.1).mono ?_
    rintro o w10 ⟨rfl, hb10⟩
    have HW10 : Hid (Below w8.heap.size w8 w10) := HW9.out.trans (hb10.mono HW9.out.size)
    have HG10 : Hid (blk w10 w8.heap.size (scL T ag ng kg) 31) := HG9.out.below hb10
    clear hb10 HW9 HG9
    go_wp2_with fail
    refine wp_region_held (S := (fun W => Below w10.heap.size w10 W)) (by kernel_rfl) ?_
    have hS : Below w10.heap.size w10 w10.drew := (Below.refl _ _).drew
    have HX10 : Hid (xS w ⟨f, lf, rn, lv, cr, ac, e, i, r, d, l⟩ a n cap w3.heap.size T aw nw kw w6.heap.size gx w10) := (HI8.out _ HW10.out).1
    refine wpAnyH_take (i := 0) (v := .agg (scL ⟨f, lf, rn, lv, cr, ac, e, i, r, d, l⟩ (some ⟨gx, 0, none⟩) n n).toArray) rfl (by kernel_rfl) (by kernel_rfl) (by kernel_rfl) (fun _ _ _ h => h) (yieldsIf_load_mid (by rfl) 31 (.tmp 8) rfl w6.heap.size 0 rfl (scL ⟨f, lf, rn, lv, cr, ac, e, i, r, d, l⟩ (some ⟨gx, 0, none⟩) n n) _ (fun W h => (HX10.out.below h).x.load) Tryd.underlying31 rfl (sz31L _ _ _ _)) hS ?_
    simp only [Act.put, List.setIfInBounds_toArray, List.set_cons_zero, List.set_cons_succ, List.getElem_toArray, List.getElem_cons_zero]
    refine wpAnyH_take (i := 1) (v := .agg (scL ⟨f, lf, rn, lv, cr, ac, e, i, r, d, l⟩ a n cap).toArray) rfl (by kernel_rfl) (by kernel_rfl) (by kernel_rfl) (fun _ _ _ h => h) (yieldsIf_load_mid (by rfl) 27 (.tmp 2) rfl w.heap.size 0 rfl (scL ⟨f, lf, rn, lv, cr, ac, e, i, r, d, l⟩ a n cap) _ (fun W h => (HX10.out.below h).l.p.load) Tryd.underlying27 rfl (sz27L _ _ _ _)) hS ?_
    simp only [Act.put, List.setIfInBounds_toArray, List.set_cons_zero, List.set_cons_succ, List.getElem_toArray, List.getElem_cons_zero, List.getElem_cons_succ]
    refine wpAnyH_all (rs := [2]) (by kernel_rfl) (by simp) ?_
    refine AllReadyH.cons rfl (fun K hK => ?_) AllReadyH.nil
    go_simp
    refine (toScan_row _ ⟨f, lf, rn, lv, cr, ac, e, i, r, d, l⟩ a n cap (HR.out.below (HX10.out.below hS).l.b) hle).mono ?_
    rintro o w11 ⟨gy, rfl, hy11, hb11, _, _, _⟩
    have HY11 : Hid (isBytes w11 (some ⟨gy, 0, none⟩) n n l) := hy11
    have hS11 : Below w10.heap.size w10 w11 := hS.trans (hb11.mono hS.size)
    clear hy11 hb11
    go_wp2_with fail
    refine hK.out _ _ hS11 (fun hS2 => ?_)
    clear hS hK K hS11
    have hS := hS2
    clear hS2
    refine wpAnyH_all (rs := [3]) (by kernel_rfl) (by simp) ?_
    refine AllReadyH.cons rfl (fun K hK => ?_) AllReadyH.nil
    go_simp
    refine (eqScan_same _ ⟨f, lf, rn, lv, cr, ac, e, i, r, d, l⟩ _ n n (HX10.out.below hS).y _ n n HY11.out hle).mono ?_
    rintro o w12 ⟨rfl, hb12⟩
    have hS12 : Below w10.heap.size w10 w12 := hS.trans (hb12.mono hS.size)
    clear hb12
    go_wp2_with fail
    refine hK.out _ _ hS12 (fun hS2 => ?_)
    clear hS hK K hS12
    have hS := hS2
    clear hS2
    refine wpAnyH_take (i := 4) (v := .bool false) rfl (by kernel_rfl) (by kernel_rfl) (by kernel_rfl) (fun _ _ _ h => h) (Or.inl ⟨by rfl, ?_⟩) hS ?_
    · intro W hSw
      clear hS
      go_simp
    simp only [Act.put, List.setIfInBounds_toArray, List.set_cons_zero, List.set_cons_succ, List.getElem_toArray, List.getElem_cons_zero, List.getElem_cons_succ]
    refine wpAnyH_done (by kernel_rfl) ?_ _
    have HW12 : Hid (Below w8.heap.size w8 w12) := HW10.out.trans (hS.mono HW10.out.size)
    have HX12 : Hid (xS w ⟨f, lf, rn, lv, cr, ac, e, i, r, d, l⟩ a n cap w3.heap.size T aw nw kw w6.heap.size gx w12) := HX10.out.below hS
    have HG12 : Hid (blk w12 w8.heap.size (scL T ag ng kg) 31) := HG10.out.below hS
    clear hS HY11 HX10 HG10 HW10
    go_wp2_with (first
      | (refine wpList_load_mid (P := Tryd.prog) rfl 31 (.tmp 8) rfl w6.heap.size 0 rfl _ _ HX12.out.x.load Tryd.underlying31 rfl (sz31L _ _ _ _) ?_))
    rw [← scV_L]
    obtain ⟨fx, hfx⟩ := HX12.out.r
    refine (markScan_row w12 ⟨f, lf, rn, lv, cr, ac, e, i, r, d, l⟩ gx n n 1 fx hfx HX12.out.lt (Nat.le_refl _) hle (by decide)).mono ?_
    rintro o w13 ⟨rfl, hm13⟩
    have hgx7 := HZ8.out.2.1
    have hgx5 := HG5.out
    have h87 := HZ8.out.1
    have HL13 : Hid (lS w ⟨f, lf, rn, lv, cr, ac, e, i, r, d, l⟩ a n cap w3.heap.size T aw nw kw w13) := HL5.out.below ((HI8.out _ HW12.out).2.trans (hm13.bel.mono hgx5))
    have HB13 : Hid (Below w5.heap.size w5 w13) := (HI8.out _ HW12.out).2.trans (hm13.bel.mono hgx5)
    have k1 : Kp w7.heap.size w12 w13 := ⟨fun b h1 h2 => hm13.oth b (by omega) h2, hm13.bel.size⟩
    have HG13 : Hid (blk w13 w8.heap.size (scL T ag ng kg) 31) := HG12.out.kept (hm13.oth _ (by omega) HG12.out.lt)
    have HS13 : Hid (St w7.heap.size w13 (fun W => isBytes W ag ng kg T.l)) := St.kp (St.below HS8.out HW12.out) k1
    have HM13 := St.kp (St.below HM8'.out HW12.out) k1
    have HM13' : Hid (St w7.heap.size w13 (fun W => w8.heap.size ≤ W.heap.size → Calls Tryd.prog 10 #[scV T ag ng kg, .int .i64 1] W fun o W' => (∃ q : Nat, o = .returned (.int .i64 (q : Int)) ∧ (∀ b, b < w7.heap.size → W'.heap[b]? = W.heap[b]?) ∧ W.heap.size ≤ W'.heap.size ∧ (∀ b, w8.heap.size ≤ b → b < W.heap.size → W'.heap[b]? = W.heap[b]?) ∧ Below w7.heap.size W W' ∧
      Calls Tryd.prog 11 #[scV T ag ng kg, .int .i64 1] W' fun o W'' => o = .returned (.int .i64 (q : Int)) ∧ Below W'.heap.size W' W''))) := HM13
    have HZ13 : Hid (w8.heap.size ≤ w13.heap.size) := by have := HW12.out.size; have := hm13.bel.size; show _ ≤ _; omega
    clear hm13 k1 HM13 HW12 HX12 HG12 hfx hgx7 hgx5 h87 HI8 HM8' HS8
    generalize hq1 : 1 + n = q1 at *
    have hq0 : ¬ (q1 : Int) < 0 := by omega
    clear hq1
    go_wp2_with (first
      | (refine wpList_load_midG (by rfl) 31 (.tmp 9) rfl w8.heap.size 0 rfl _ _ HG13.out.load Tryd.underlying31 rfl (sz31L _ _ _ _) ?_)
      | (refine wpList_load_midG (by rfl) 31 (.tmp 6) rfl w3.heap.size 0 rfl _ _ HL13.out.q.load Tryd.underlying31 rfl (sz31L _ _ _ _) ?_))
    rw [← scV_L, ← scV_L]
    refine (eqScan_same w13 T ag ng kg HS13.out.now aw nw kw HL13.out.o HZ8.out.2.2.1).mono ?_
    rintro o w14 ⟨rfl, hb14⟩
    have HG14 : Hid (blk w14 w8.heap.size (scL T ag ng kg) 31) := HG13.out.below hb14
    have HB14 : Hid (Below w5.heap.size w5 w14) := HB13.out.trans (hb14.mono HB13.out.size)
    have hM14 := (St.below HM13'.out hb14).now (Nat.le_trans HZ13.out hb14.size)
    have HM14 : Hid (Calls Tryd.prog 10 #[scV T ag ng kg, .int .i64 1] w14 fun o W' => (∃ q : Nat, o = .returned (.int .i64 (q : Int)) ∧ (∀ b, b < w7.heap.size → W'.heap[b]? = w14.heap[b]?) ∧ w14.heap.size ≤ W'.heap.size ∧ (∀ b, w8.heap.size ≤ b → b < w14.heap.size → W'.heap[b]? = w14.heap[b]?) ∧ Below w7.heap.size w14 W' ∧
      Calls Tryd.prog 11 #[scV T ag ng kg, .int .i64 1] W' fun o W'' => o = .returned (.int .i64 (q : Int)) ∧ Below W'.heap.size W' W'')) := hM14
    have H57 : Hid (w5.heap.size ≤ w7.heap.size) := HB7.out.size
    clear hb14 hM14 HG13 HB13 HM13' HL13 HS13 HZ13 hq0
    go_wp2_with (first
      | (refine wpList_load_mid (P := Tryd.prog) rfl 31 (.tmp 9) rfl w8.heap.size 0 rfl _ _ HG14.out.load Tryd.underlying31 rfl (sz31L _ _ _ _) ?_))
    rw [← scV_L]
    refine HM14.out.mono ?_
    rintro o w15 ⟨q, rfl, _, hz15, h15, hb15, hq15⟩
    have HG15 : Hid (blk w15 w8.heap.size (scL T ag ng kg) 31) := HG14.out.kept (h15 _ (Nat.le_refl _) HG14.out.lt)
    have HB15 : Hid (Below w5.heap.size w5 w15) := HB14.out.trans (hb15.mono H57.out)
    have HQ15 : Hid (Calls Tryd.prog 11 #[scV T ag ng kg, .int .i64 1] w15 fun o W'' => o = .returned (.int .i64 (q : Int)) ∧ Below w15.heap.size w15 W'') := hq15
    clear hz15 h15 hb15 hq15 HM14 HG14 HB14
    have hq0 : ¬ (q : Int) < 0 := by omega
    go_wp2_with (first
      | (refine wpList_load_mid (P := Tryd.prog) rfl 31 (.tmp 9) rfl w8.heap.size 0 rfl _ _ HG15.out.load Tryd.underlying31 rfl (sz31L _ _ _ _) ?_))
    rw [← scV_L]
    refine HQ15.out.mono ?_
    rintro o w16 ⟨rfl, hb16⟩
    have HL16 : Hid (lS w ⟨f, lf, rn, lv, cr, ac, e, i, r, d, l⟩ a n cap w3.heap.size T aw nw kw w16) := HL5.out.below (HB15.out.trans (hb16.mono HB15.out.size))
    clear hb16 HB15 HG15 HQ15
    go_wp2_with (first
      | (refine wpList_load_mid (P := Tryd.prog) rfl 27 (.tmp 2) rfl w.heap.size 0 rfl _ _ HL16.out.p.load Tryd.underlying27 rfl sz27 ?_))
    refine (toScan_row w16 ⟨f, lf, rn, lv, cr, ac, e, i, r, d, l⟩ a n cap (HR.out.below HL16.out.b) hle).mono ?_
    rintro o w17 ⟨gz, rfl, hy17, hb17, _, _, _⟩
    have HL17 : Hid (lS w ⟨f, lf, rn, lv, cr, ac, e, i, r, d, l⟩ a n cap w3.heap.size T aw nw kw w17) := HL16.out.below hb17
    have HY17 : Hid (isBytes w17 (some ⟨gz, 0, none⟩) n n l) := hy17
    clear hb17 hy17 HL16
    go_wp2_with fail
    refine (HSC.out.im w17 gz n n (HTB.out _ HL17.out.b).1 (HTB.out _ HL17.out.b).2 HY17.out hle).mono ?_
    rintro o w18 ⟨ah, nh, kh, rfl, ha18, hb18⟩
    obtain ⟨hq19, hb19⟩ := new_scan (w := w18) (T := 31) (scL T ah nh kh) (scL_len _ _ _ _)
    have HT19 : Hid (World.there (w18.alloc (.cells z11.toArray 31)) w18.heap.size 0 11) := (blk.new w18 z11 31).there 0 11 (by simp)
    have HQ19 : Hid (blk (World.setCells (w18.alloc (.cells z11.toArray 31)) w18.heap.size 0 (scL T ah nh kh)) w18.heap.size (scL T ah nh kh) 31 ∧ isBytes (World.setCells (w18.alloc (.cells z11.toArray 31)) w18.heap.size 0 (scL T ah nh kh)) ah nh kh T.l ∧ lS w ⟨f, lf, rn, lv, cr, ac, e, i, r, d, l⟩ a n cap w3.heap.size T aw nw kw (World.setCells (w18.alloc (.cells z11.toArray 31)) w18.heap.size 0 (scL T ah nh kh))) := ⟨hq19, (ansB_bytes ha18 HSC.out.small).now.below hb19, (HL17.out.below hb18).below hb19⟩
    have HN19 : Hid (nh ≤ 1048576) := by have := (ansB_bytes ha18 HSC.out.small).now.len; have := HSC.out.len; show _ ≤ _; omega
    clear hq19 hb19 ha18 hb18 HL17 HY17
    rw [scV_L]
    go_wp2_with (first
      | (refine wpList_store_mid (P := Tryd.prog) rfl 31 (.tmp 14) (.tmp 82) rfl w18.heap.size 0 (scL T ah nh kh).toArray rfl rfl HT19.out (sz31A _ _ _ _) (scL_one _ _ _ _) ?_; generalize hW19 : World.setCells (World.alloc _ _) w18.heap.size 0 _ = w19; have HG19 : Hid (blk w19 w18.heap.size (scL T ah nh kh) 31 ∧ isBytes w19 ah nh kh T.l ∧ lS w ⟨f, lf, rn, lv, cr, ac, e, i, r, d, l⟩ a n cap w3.heap.size T aw nw kw w19) := (hW19 ▸ HQ19.out); clear hW19)
      | (refine wpList_load_mid (P := Tryd.prog) rfl 31 (.tmp 14) rfl w18.heap.size 0 rfl _ _ HG19.out.1.load Tryd.underlying31 rfl (sz31L _ _ _ _) ?_)
      | (refine wpList_load_mid (P := Tryd.prog) rfl 31 (.tmp 6) rfl w3.heap.size 0 rfl _ _ HG19.out.2.2.q.load Tryd.underlying31 rfl (sz31L _ _ _ _) ?_))
    rw [← scV_L, ← scV_L]
    refine (eqScan_same w19 T ah nh kh HG19.out.2.1 aw nw kw HG19.out.2.2.o HN19.out).mono ?_
    rintro o w20 ⟨rfl, hb20⟩
    have HL20 : Hid (Below w.heap.size w w20) := (HG19.out.2.2.below hb20).b
    clear hb20 HG19 HQ19 HT19
    go_wp2_with fail
    go_ret
    exact ⟨rfl, HL20.out⟩
  · have HSZ : Hid (∀ X, Calls Tryd.prog 5 #[scV S a n cap, .int .i64 1048576] X fun o w' => o = .returned (.int .i64 (-1)) ∧ Below X.heap.size X w') := fun X => (szScan_any X S a n cap 1048576 hn (Nat.le_refl _)).mono (by rintro o w' ⟨rfl, e⟩; rw [if_neg (by omega)]; exact ⟨rfl, e⟩)
    clear h hn hle hg hz
    obtain ⟨f, lf, rn, lv, cr, ac, e, i, r, d, l⟩ := S
    go_enter Tryd.func3, Tryd.ntmps3
    go_wp2_with fail
    refine (HSZ.out _).mono ?_
    rintro o w1 ⟨rfl, hb1⟩
    have HB1 : Hid (Below w.heap.size w w1) := HA.out.1.trans (hb1.mono HA.out.1.size)
    clear hb1
    go_wp2_with fail
    go_ret
    exact ⟨rfl, HB1.out⟩
end Go.Proofs.YtjmlalojfghkiaaDoor
