import Derived.Test.YtfbeaekddgpmmaaGreatDoorK35
import Derived.Test.YtfbeaekddgpmmaaGreatDoorK34
import Derived.Test.YtfbeaekddgpmmaaGreatDoorK37
import Derived.Test.YtfbeaekddgpmmaaGreatDoorK18
import Derived.Test.YtfbeaekddgpmmaaGreatDoorK02
namespace Go.Proofs.YtfbeaekddgpmmaaGreatDoor
open Go.RowKit Kd
set_option linter.unusedVariables false
/-- the package's variables that the reading meets -/
structure glb (w : World) (m : Int) : Prop where
  g0 : w.cell? ⟨0, 0, none⟩ = some (.iface 114 (.agg #[.pointer (some ⟨7, 37, none⟩)]))
  g3 : w.cell? ⟨3, 0, none⟩ = some (.int .i64 m)
  tab : Lib.TabIs Tryz.prog w "strings.asciiSpace" .u8 Lib.asciiSpaceTab
theorem glb.below {w w' : World} {m : Int} (h : glb w m) (hb : Below w.heap.size w w') : glb w' m := by
  refine ⟨(hb.cell (World.block_lt_of_cell? w _ h.g0)).trans h.g0, (hb.cell (World.block_lt_of_cell? w _ h.g3)).trans h.g3, ?_⟩
  have ht := h.tab
  unfold Lib.TabIs World.var? at ht ⊢
  cases hg : Tryz.prog.globalNamed "strings.asciiSpace" with
  | none => rw [hg] at ht; cases ht
  | some g =>
    rw [hg] at ht
    simp only [Option.bind_some] at ht ⊢
    have hlt : g < w.heap.size := by
      cases hh : w.heap[g]? with
      | none => rw [hh] at ht; cases ht
      | some o => exact lt_of_some hh
    rw [hb.block g hlt]
    exact ht
theorem rdS.setL {B rb gr : Nat} {S : Sc} {ln : Int} {bg : Bool} {us : List (Su × Hd)} {os : List (Od × Hd)} {h1 h2 : Hd} {W : World} (h : rdS B rb gr S ln bg us os h1 h2 W) (l : Int) : rdS B rb gr S l bg us os h1 h2 (W.setCell ⟨rb, 6, none⟩ (.int .i64 l)) ∧ Ky [73] B W (W.setCell ⟨rb, 6, none⟩ (.int .i64 l)) := by
  have k : Ky [73] B W (W.setCell ⟨rb, 6, none⟩ (.int .i64 l)) := (Ky.refl _ _ _).setCell _ _ _ h.lo ⟨_, _, _, h.r, by simp⟩
  exact ⟨⟨h.r.set 6 (.int .i64 l), h.su.ky k (by decide) (by decide), h.od.ky k (by decide) (by decide), h.eu, h.eo, k.blk h.lr (by decide), h.lo⟩, k⟩
set_option maxHeartbeats 2000000 in
set_option maxRecDepth 20000 in
/-- read of a line without words -/
theorem read_nil (rb : Nat) (a : Option Addr) (cp : Nat) (w : World) : Calls Tryz.prog 32 #[.pointer (some ⟨rb, 0, none⟩), .slice a 0 cp] w fun o w' => o = .returned .nilIface ∧ Below w.heap.size w w' := by
  go_enter Tryz.func32, Tryz.ntmps32
  go_wp2
  go_ret
  exact ⟨rfl, (Below.refl _ _).alloc (Nat.le_refl _) _⟩
/-- what read answers, whatever the line -/
theorem read_line {B rb gr : Nat} {S : Sc} {ln : Int} {bg : Bool} {us : List (Su × Hd)} {os : List (Od × Hd)} {h1 h2 : Hd} (ws : List (List UInt8)) (w : World) (hR : rdS B rb gr S ln bg us os h1 h2 w) (hS : okS S) (hok : okWs ws) (hl : ws.length ≤ 20001) :
    Calls Tryz.prog 32 #[.pointer (some ⟨rb, 0, none⟩), .slice (some ⟨w.heap.size, 0, none⟩) ws.length ws.length] (w.alloc (.cells (sv ws).toArray 9)) fun o w' => ((ws.length = 0 ∧ o = .returned .nilIface ∧ rdE B rb gr S ln bg w') ∨ (ws.length ≠ 0 ∧ (stepZ S bg ws).1 = 0 ∧ o = .returned .nilIface ∧ rdE B rb gr (stepZ S bg ws).2 ln (bodyZ bg ws) w') ∨
      (ws.length ≠ 0 ∧ (stepZ S bg ws).1 ≠ 0 ∧ (o = .returned (.iface 41 (.agg #[.int .i64 ((stepZ S bg ws).1 : Int), .int .i64 ln])) ∨ ∃ s, o = .returned (.iface 141 (.agg #[.string s, .iface 41 (.agg #[.int .i64 ((stepZ S bg ws).1 : Int), .int .i64 ln])]))))) ∧ Ky [55, 60, 67, 73] B w w' := by
  have hB : B ≤ w.heap.size := Nat.le_trans hR.lo (Nat.le_of_lt hR.r.lt)
  have hb0 : Below w.heap.size w (w.alloc (.cells (sv ws).toArray 9)) := (Below.refl _ _).alloc (Nat.le_refl _) _
  have hk0 : Ky [55, 60, 67, 73] B w (w.alloc (.cells (sv ws).toArray 9)) := Ky.of hb0 hB
  have hp := blk.new w (sv ws) 9
  cases ws with
  | nil =>
    refine (read_nil rb _ _ _).mono ?_
    rintro o w' ⟨rfl, hb⟩
    exact ⟨.inl ⟨rfl, rfl, _, _, _, _, (hR.below hb0).below hb⟩, hk0.below hb (Nat.le_trans hB hb0.size)⟩
  | cons x rest =>
    refine (read_any w.heap.size (rest.length + 1) x rest _ (hR.below hb0) hS hok (Nat.le_refl _) (by simp only [List.length_cons] at hl; omega) (hp.cell 0 _ rfl) (fun j hj => hp.cell (1 + j) _ (by rw [sv_at _ (1 + j) (by simp only [List.length_cons]; omega)]; simp [Nat.add_comm 1 j]))).mono ?_
    rintro o w' ⟨h, hk⟩
    refine ⟨?_, hk0.trans hk⟩
    rcases h with ⟨a, b, c⟩ | ⟨a, b⟩
    · exact .inr (.inl ⟨by simp, a, b, c⟩)
    · exact .inr (.inr ⟨by simp, a, b⟩)
theorem sz73 : (Tryz.prog.info? 73).map (·.size) = some 8 := by kernel_rfl
theorem one73 (h1 h2 : Hd) (t : Int) (gr : Nat) (ln : Int) (bg : Bool) : (rdL h1 h2 t gr ln bg).toArray.all (·.oneCell') = true := all_oneCell_toArray (by simp [Value.oneCell'])
theorem okD_ws {S : Sc} {bg : Bool} {ws : List (List UInt8)} (hd : okD S) (hz : ws.length ≠ 0) (hc : (stepZ S bg ws).1 = 0) : okD (stepZ S bg ws).2 := by
  cases ws with
  | nil => exact absurd rfl hz
  | cons x rest => exact hd.step hc
/-- what readScript answers -/
def rsP (w : World) (p : Nat × Nat × Sc) (o : Ending) (w' : World) : Prop :=
  (∃ err h1 h2 t, o = .returned (.tuple #[scV 0 0 h1 h2 t, err]) ∧ ((p.1 = 0 ∧ p.2.1 = 0 ∧ err = .nilIface ∧ t = (p.2.2.ticks : Int) ∧ ∃ us os, isSc w.heap.size us os h1 h2 p.2.2 w') ∨ (p.1 ≠ 0 ∧ p.2.2 = noSc ∧ (err = .iface 41 (.agg #[.int .i64 (p.1 : Int), .int .i64 (p.2.1 : Int)]) ∨ ∃ s, err = .iface 141 (.agg #[.string s, .iface 41 (.agg #[.int .i64 (p.1 : Int), .int .i64 (p.2.1 : Int)])]))))) ∧ Below w.heap.size w w'
/-- the loop over the lines -/
def rsI (w : World) (ls : List (List UInt8)) (rb gr gl k : Nat) (wr : World) : Prop := ∃ S bg ln, okS S ∧ okD S ∧ rdE w.heap.size rb gr S ln bg wr ∧ goS ls 0 false noSc = goS (ls.drop k) k bg S ∧ blk wr gl (sv ls) 9 ∧ blk wr w.heap.size (scL 0 0 noH noH 0) 25 ∧ Below w.heap.size w wr
set_option maxHeartbeats 8000000 in
set_option maxRecDepth 40000 in
/-- impl.readScript -/
theorem readScript_any (s : ByteArray) (m : Int) (w : World) (hg : glb w m) : Calls Tryz.prog 14 #[.string s] w (rsP w (parseZ s)) := by
  have HT := hidYY (fun W => isText_any s W)
  have HG := hidYY hg
  have HP0 := hidYY (blk.new w (scL 0 0 noH noH 0) 25)
  have HB0 : Hid (Below w.heap.size w (w.alloc (.cells (scL 0 0 noH noH 0).toArray 25))) := (Below.refl _ _).alloc (Nat.le_refl _) _
  clear hg
  cases hok : okTx s
  · have HPZ : Hid (parseZ s = (1, 0, noSc)) := by show parseZ s = _; unfold parseZ; rw [hok]; rfl
    rw [hok] at HT
    go_enter Tryz.func14, Tryz.ntmps14
    go_wp2_with fail
    refine (HT.out _).mono ?_
    rintro o w1 ⟨rfl, hb1⟩
    have HP1 := hidYY (HP0.out.below hb1)
    have HB1 := hidYY (HB0.out.trans (hb1.mono HB0.out.size))
    clear hb1
    go_wp2_with (first | (refine wpList_store_mid (P := Tryz.prog) rfl 25 (.tmp 2) (.tmp 11) rfl w.heap.size 0 (scL 0 0 noH noH 0).toArray rfl rfl (HP1.out.there 0 5 (by simp)) sz25 (one25 _ _ _ _ _) ?_; generalize hX : World.setCells _ w.heap.size 0 _ = w2; have HX : Hid (World.setCells w1 w.heap.size 0 (scL 0 0 noH noH 0) = w2) := hX; clear hX))
    have e2 := HX.out
    have hF : blk w2 w.heap.size (scL 0 0 noH noH 0) 25 := e2 ▸ blk_all HP1.out rfl
    have hB2 : Below w.heap.size w w2 := e2 ▸ setCells_below (Nat.le_refl _) 0 _ HB1.out
    have hL := run_loadVar_mid (P := Tryz.prog) w2 w.heap.size 0 25 _ _ hF.load Tryz.underlying25 rfl sz25
    refine bodyPost_ret (v := .tuple #[scV 0 0 noH noH 0, .iface 41 (.agg #[.int .i64 1, .int .i64 0])]) (Kd.results_cell_tmp Tryz.results14 _ w2 w.heap.size _ rfl hL) rfl ?_
    rw [HPZ.out]
    exact ⟨⟨_, noH, noH, 0, rfl, .inr ⟨by simp, rfl, .inl rfl⟩⟩, hB2⟩
  · have hs : s.size ≤ 20000 := by
      unfold okTx at hok
      rw [Bool.and_eq_true, decide_eq_true_eq] at hok
      exact hok.1
    have HPZ : Hid (parseZ s = goS (cutB 10 s) 0 false noSc) := by show parseZ s = _; unfold parseZ; rw [hok]; rfl
    have HLO := hidYY (lines_ok s hok)
    have HLL : Hid ((cutB 10 s).length ≤ 20001) := by
      have := cutA_len 10 s.data.toList []
      have hz : s.data.toList.length = s.size := by simp
      unfold Hid cutB
      omega
    have HSP := hidYY (fun W (hm : World.cell? W ⟨3, 0, none⟩ = some (.int .i64 m)) => split_call 10 s hs m W hm)
    rw [hok] at HT
    clear hok
    generalize cutB 10 s = ls at *
    go_enter Tryz.func14, Tryz.ntmps14
    go_wp2_with fail
    refine (HT.out _).mono ?_
    rintro o w1 ⟨rfl, hb1⟩
    have HP1 := hidYY (HP0.out.below hb1)
    have HB1 := hidYY (HB0.out.trans (hb1.mono HB0.out.size))
    clear hb1
    have HLR := hidYY (lineRows_any w1)
    go_wp2_with fail
    refine HLR.out.mono ?_
    rintro o w2 ⟨rfl, rfl⟩
    have HP2 := hidYY (HP1.out.alloc (.cells lrC.toArray 102))
    have HR2 := hidYY (blk.new w1 lrC 102)
    have HB2 := hidYY (HB1.out.alloc HB1.out.size (.cells lrC.toArray 102))
    obtain ⟨gr, hgr⟩ : ∃ gr, w1.heap.size = gr := ⟨_, rfl⟩
    rw [hgr] at HR2 ⊢
    generalize w1.alloc (.cells lrC.toArray 102) = w2 at *
    have HZ := hidYY (blk.new w2 [.int .i64 0, .int .i64 0, .slice none 0 0, .slice none 0 0, .int .i64 0, .slice none 0 0, .int .i64 0, .bool false] 73)
    have HZB : Hid (Below w2.heap.size w2 (w2.alloc (.cells [.int .i64 0, .int .i64 0, .slice none 0 0, .slice none 0 0, .int .i64 0, .slice none 0 0, .int .i64 0, .bool false].toArray 73))) := (Below.refl _ _).alloc (Nat.le_refl _) _
    go_upto_region 4 with (first | (refine wpList_store_mid (P := Tryz.prog) rfl 73 (.tmp 4) (.tmp 15) rfl w2.heap.size 0 (rdL noH noH 0 gr 0 false).toArray rfl rfl (HZ.out.there 0 8 (by simp)) sz73 (one73 _ _ _ _ _ _) ?_; generalize hX : World.setCells _ w2.heap.size 0 _ = w3; have HX : Hid (World.setCells (w2.alloc (.cells [.int .i64 0, .int .i64 0, .slice none 0 0, .slice none 0 0, .int .i64 0, .slice none 0 0, .int .i64 0, .bool false].toArray 73)) w2.heap.size 0 (rdL noH noH 0 gr 0 false) = w3) := hX; clear hX))
    have HB23 : Hid (Below w2.heap.size w2 w3) := by show Below _ _ _; rw [← HX.out]; exact setCells_below (Nat.le_refl _) 0 _ HZB.out
    have HR3 : Hid (blk w3 w2.heap.size (rdL noH noH 0 gr 0 false) 73) := by show blk _ _ _ _; rw [← HX.out]; exact blk_all HZ.out rfl
    have HP3 := hidYY (HP2.out.below HB23.out)
    have HL3 := hidYY (HR2.out.below HB23.out)
    have HB3 := hidYY (HB2.out.trans (HB23.out.mono HB2.out.size))
    have HBR : Hid (w.heap.size ≤ w2.heap.size) := HB2.out.size
    generalize w2.heap.size = rb at *
    clear HX HZ HZB HB23 HP2 HR2 HB2 HP1 HB1 HLR hgr HP0 HB0
    have HS3 := hidYY (HSP.out w3 ((HG.out.below HB3.out).g3))
    go_wp2_with fail
    refine HS3.out.mono ?_
    rintro o w4 ⟨rfl, rfl⟩
    have hb4 : Below w3.heap.size w3 (w3.alloc (.cells (sv ls).toArray 9)) := (Below.refl _ _).alloc (Nat.le_refl _) _
    have HI0 : Hid (rsI w ls rb gr w3.heap.size 0 (w3.alloc (.cells (sv ls).toArray 9))) := ⟨noSc, false, 0, okS.zero, (by intro x hx; cases hx), ⟨[], [], noH, noH, ⟨HR3.out.below hb4, rcR.e0 _ _, rcR.e0 _ _, rfl, rfl, HL3.out.below hb4, HBR.out⟩⟩, rfl, blk.new w3 (sv ls) 9, HP3.out.below hb4, HB3.out.trans (hb4.mono HB3.out.size)⟩
    generalize w3.heap.size = gl at *
    clear hb4 HR3 HP3 HL3 HB3 HS3 HSP HT
    obtain ⟨N, hN⟩ : ∃ N, ls.length = N := ⟨_, rfl⟩
    have HNN := hidYY hN
    have hN1 : N ≤ 20001 := by rw [← hN]; exact HLL.out
    rw [hN]
    clear hN
    go_wp2
    go_loopw [19] (fun i wr => ∃ k : Nat, k ≤ N ∧ i = .int .i64 (k : Int) ∧ rsI w ls rb gr gl k wr) (fun i _ => N - (intOf i).toNat)
    case atStart => exact ⟨0, Nat.zero_le _, rfl, HI0.out⟩
    case round =>
      clear HI0
      obtain ⟨k, hk, rfl, S, bg, ln, hS, hD, ⟨us, os, h1, h2, hR⟩, hgo, hl, hp, hb⟩ := hrel
      have HR := hidYY hR
      have HL := hidYY hl
      have HP := hidYY hp
      have HB := hidYY hb
      have HSD := hidYY (And.intro hS hD)
      have HGO := hidYY hgo
      by_cases hlt : k < N
      · have hk' : k < ls.length := by rw [HNN.out]; exact hlt
        have cl : wr.cell? ⟨gl, k, none⟩ = some (.string (wd ls[k])) := hl.cell k _ (sv_at ls k hk')
        have c6 := hR.r.cell 6 _ rfl
        have f6 := hR.r.free 6
        have hdr : ls.drop k = ls[k] :: ls.drop (k + 1) := List.drop_eq_getElem_cons hk'
        have hlk := HLO.out ls[k] (List.getElem_mem hk')
        have HW := hidYY (hR.setL ((k : Int) + 1))
        have hw1 : IntKind.i64.wrap ((k : Int) + 1) = (k : Int) + 1 := i64_wrap _ (by omega) (by omega)
        have HBW : Hid (Below w.heap.size w (wr.setCell ⟨rb, 6, none⟩ (.int .i64 ((k : Int) + 1)))) := hb.trans HW.out.2.low
        have HFC := hidYY (fields_call (wd ls[k]) hlk.1 (fun b hb => hlk.2 b hb) (wr.setCell ⟨rb, 6, none⟩ (.int .i64 ((k : Int) + 1))) (HG.out.below HBW.out).tab)
        have HRL := hidYY (read_line (wordsB (wd ls[k])) (wr.setCell ⟨rb, 6, none⟩ (.int .i64 ((k : Int) + 1))) HW.out.1 hS (words_ok ls[k] hlk.1 (fun b hb => (hlk.2 b hb).2)) (words_len ls[k] hlk.1))
        rw [hdr] at HGO
        clear hR hl hp hb hS hD hgo hdr hlk
        have HKW : Hid (Ky [73] w.heap.size wr (wr.setCell ⟨rb, 6, none⟩ (.int .i64 ((k : Int) + 1)))) := HW.out.2
        obtain ⟨ws, hws⟩ : ∃ ws, wordsB (wd ls[k]) = ws := ⟨_, rfl⟩
        have HWS := hidYY hws
        have HG0 : Hid (ws.length = 0 → goS (ls[k] :: ls.drop (k + 1)) k bg S = goS (ls.drop (k + 1)) (k + 1) bg S) := fun hz => by rw [goS, hws, if_pos hz]
        have HG1 : Hid (ws.length ≠ 0 → (stepZ S bg ws).1 = 0 → goS (ls[k] :: ls.drop (k + 1)) k bg S = goS (ls.drop (k + 1)) (k + 1) (bodyZ bg ws) (stepZ S bg ws).2) := fun hz hc => by rw [goS, hws, if_neg hz, if_pos hc]
        have HG2 : Hid (ws.length ≠ 0 → (stepZ S bg ws).1 ≠ 0 → goS (ls[k] :: ls.drop (k + 1)) k bg S = ((stepZ S bg ws).1, k + 1, noSc)) := fun hz hc => by rw [goS, hws, if_neg hz, if_neg hc]
        rw [hws] at HFC HRL
        have esz : (wr.setCell ⟨rb, 6, none⟩ (.int .i64 ((k : Int) + 1))).heap.size = wr.heap.size := by simp
        rw [esz] at HFC HRL
        clear esz
        clear hws
        generalize wd ls[k] = lk at *
        go_wp2_with fail
        refine HFC.out.mono ?_
        rintro o w5 ⟨rfl, rfl⟩
        go_wp2_with fail
        refine HRL.out.mono ?_
        rintro o w6 ⟨hoo, hk6⟩
        have HK6 := hidYY ((HKW.out.mono (by simp) (Nat.le_refl _) : Ky [55, 60, 67, 73] w.heap.size wr _).trans hk6)
        have HL6 := hidYY (HK6.out.blk HL.out (by decide))
        have HP6 := hidYY (HK6.out.blk HP.out (by decide))
        have HB6 := hidYY (HB.out.trans HK6.out.low)
        clear hk6
        rcases hoo with ⟨hz, rfl, hE⟩ | ⟨hz, hc, rfl, hE⟩ | ⟨hz, hc, hee⟩
        · have HI : Hid (rsI w ls rb gr gl (k + 1) w6) := ⟨S, bg, _, HSD.out.1, HSD.out.2, hE, HGO.out.trans (HG0.out hz), HL6.out, HP6.out, HB6.out⟩
          clear hE hz
          go_wp2
          go_roundw
          case rel => exact ⟨k + 1, by omega, by go_num, HI.out⟩
          case measure => simp [intOf]; omega
        · have HI : Hid (rsI w ls rb gr gl (k + 1) w6) := ⟨_, _, _, HSD.out.1.step bg ws hc, okD_ws HSD.out.2 hz hc, hE, HGO.out.trans (HG1.out hz hc), HL6.out, HP6.out, HB6.out⟩
          clear hE hz hc
          go_wp2
          go_roundw
          case rel => exact ⟨k + 1, by omega, by go_num, HI.out⟩
          case measure => simp [intOf]; omega
        · have HPE : Hid (parseZ s = ((stepZ S bg ws).1, k + 1, noSc)) := by show parseZ s = _; exact HPZ.out.trans (HGO.out.trans (HG2.out hz hc))
          have HHC := hidYY hc
          generalize (stepZ S bg ws).1 = cc at *
          clear hz hc
          rcases hee with rfl | ⟨sw, rfl⟩
          · go_wp2_with (first | (refine wpList_store_mid (P := Tryz.prog) rfl 25 (.tmp 2) (.tmp 32) rfl w.heap.size 0 (scL 0 0 noH noH 0).toArray rfl rfl (HP6.out.there 0 5 (by simp)) sz25 (one25 _ _ _ _ _) ?_; generalize hX : World.setCells _ w.heap.size 0 _ = w9; have HX : Hid (World.setCells w6 w.heap.size 0 (scL 0 0 noH noH 0) = w9) := hX; clear hX))
            have e2 := HX.out
            have hF : blk w9 w.heap.size (scL 0 0 noH noH 0) 25 := e2 ▸ blk_all HP6.out rfl
            have hky : Ky [25] w.heap.size w6 w9 := e2 ▸ (Ky.refl _ _ _).setCells _ _ _ (Nat.le_refl _) ⟨_, _, _, HP6.out, by simp⟩
            have hB9 : Below w.heap.size w w9 := HB6.out.trans hky.low
            have hL := run_loadVar_mid (P := Tryz.prog) w9 w.heap.size 0 25 _ _ hF.load Tryz.underlying25 rfl sz25
            refine bodyPost_ret (v := .tuple #[.agg (scL 0 0 noH noH 0).toArray, .iface 41 (.agg #[.int .i64 (cc : Int), .int .i64 ((k : Int) + 1)])]) (Kd.results_cell_tmp Tryz.results14 _ w9 w.heap.size _ rfl hL) rfl ?_
            rw [HPE.out]
            exact ⟨⟨_, noH, noH, 0, rfl, .inr ⟨HHC.out, rfl, .inl rfl⟩⟩, hB9⟩
          · go_wp2_with (first | (refine wpList_store_mid (P := Tryz.prog) rfl 25 (.tmp 2) (.tmp 32) rfl w.heap.size 0 (scL 0 0 noH noH 0).toArray rfl rfl (HP6.out.there 0 5 (by simp)) sz25 (one25 _ _ _ _ _) ?_; generalize hX : World.setCells _ w.heap.size 0 _ = w9; have HX : Hid (World.setCells w6 w.heap.size 0 (scL 0 0 noH noH 0) = w9) := hX; clear hX))
            have e2 := HX.out
            have hF : blk w9 w.heap.size (scL 0 0 noH noH 0) 25 := e2 ▸ blk_all HP6.out rfl
            have hky : Ky [25] w.heap.size w6 w9 := e2 ▸ (Ky.refl _ _ _).setCells _ _ _ (Nat.le_refl _) ⟨_, _, _, HP6.out, by simp⟩
            have hB9 : Below w.heap.size w w9 := HB6.out.trans hky.low
            have hL := run_loadVar_mid (P := Tryz.prog) w9 w.heap.size 0 25 _ _ hF.load Tryz.underlying25 rfl sz25
            refine bodyPost_ret (v := .tuple #[.agg (scL 0 0 noH noH 0).toArray, .iface 141 (.agg #[.string sw, .iface 41 (.agg #[.int .i64 (cc : Int), .int .i64 ((k : Int) + 1)])])]) (Kd.results_cell_tmp Tryz.results14 _ w9 w.heap.size _ rfl hL) rfl ?_
            rw [HPE.out]
            exact ⟨⟨_, noH, noH, 0, rfl, .inr ⟨HHC.out, rfl, .inr ⟨sw, rfl⟩⟩⟩, hB9⟩
      · have hke : k = N := by omega
        have hnl : ¬ (k : Int) < (N : Int) := by omega
        have hdr : ls.drop k = [] := List.drop_eq_nil_of_le (by rw [HNN.out]; omega)
        rw [hdr] at HGO
        have r2 := hR.r.cell 2 _ rfl
        have hul := hR.ul.2
        obtain ⟨nu, hnu⟩ : ∃ nu, h1.2.1 = nu := ⟨_, rfl⟩
        simp only [hdV] at r2
        rw [hnu] at r2 hul
        have HHN := hidYY hnu
        clear hR hl hp hb hS hD hgo hdr hke hnu
        by_cases h0 : nu = 0
        · have h0' : ((nu : Int) == 0) = true := by simp [h0]
          have HPE : Hid (parseZ s = (7, 0, noSc)) := by show parseZ s = _; rw [HPZ.out, HGO.out]; unfold goS; rw [if_pos (by omega)]
          clear hul h0
          go_wp2_with (first | (refine wpList_store_mid (P := Tryz.prog) rfl 25 (.tmp 2) (.tmp 40) rfl w.heap.size 0 (scL 0 0 noH noH 0).toArray rfl rfl (HP.out.there 0 5 (by simp)) sz25 (one25 _ _ _ _ _) ?_; generalize hX : World.setCells _ w.heap.size 0 _ = w9; have HX : Hid (World.setCells wr w.heap.size 0 (scL 0 0 noH noH 0) = w9) := hX; clear hX))
          have e2 := HX.out
          have hF : blk w9 w.heap.size (scL 0 0 noH noH 0) 25 := e2 ▸ blk_all HP.out rfl
          have hky : Ky [25] w.heap.size wr w9 := e2 ▸ (Ky.refl _ _ _).setCells _ _ _ (Nat.le_refl _) ⟨_, _, _, HP.out, by simp⟩
          have hB9 : Below w.heap.size w w9 := HB.out.trans hky.low
          have hL := run_loadVar_mid (P := Tryz.prog) w9 w.heap.size 0 25 _ _ hF.load Tryz.underlying25 rfl sz25
          refine bodyPost_ret (v := .tuple #[.agg (scL 0 0 noH noH 0).toArray, .iface 41 (.agg #[.int .i64 7, .int .i64 0])]) (Kd.results_cell_tmp Tryz.results14 _ w9 w.heap.size _ rfl hL) rfl ?_
          rw [HPE.out]
          exact ⟨⟨_, noH, noH, 0, rfl, .inr ⟨by simp, rfl, .inl rfl⟩⟩, hB9⟩
        · have h0' : ((nu : Int) == 0) = false := by simp [h0]
          have HPE : Hid (parseZ s = (0, 0, S)) := by show parseZ s = _; rw [HPZ.out, HGO.out]; unfold goS; rw [if_neg (by omega)]
          clear hul h0
          go_wp2_with (first | (refine wpList_load_mid (P := Tryz.prog) rfl 25 (.tmp 43) rfl rb 0 rfl (scL 0 0 h1 h2 (S.ticks : Int)) _ (blk.loadAt [] (scL 0 0 h1 h2 (S.ticks : Int)) [.slice (some ⟨gr, 0, none⟩) 9 9, .int .i64 ln, .bool bg] HR.out.r) Tryz.underlying25 rfl sz25 ?_) | (refine wpList_store_mid (P := Tryz.prog) rfl 25 (.tmp 2) (.tmp 44) rfl w.heap.size 0 (scL 0 0 h1 h2 (S.ticks : Int)).toArray rfl rfl (HP.out.there 0 5 (by simp)) sz25 (one25 _ _ _ _ _) ?_; generalize hX : World.setCells _ w.heap.size 0 _ = w9; have HX : Hid (World.setCells wr w.heap.size 0 (scL 0 0 h1 h2 (S.ticks : Int)) = w9) := hX; clear hX))
          have e2 := HX.out
          have hF : blk w9 w.heap.size (scL 0 0 h1 h2 (S.ticks : Int)) 25 := e2 ▸ blk_all HP.out rfl
          have hky : Ky [25] w.heap.size wr w9 := e2 ▸ (Ky.refl _ _ _).setCells _ _ _ (Nat.le_refl _) ⟨_, _, _, HP.out, by simp⟩
          have hB9 : Below w.heap.size w w9 := HB.out.trans hky.low
          have hL := run_loadVar_mid (P := Tryz.prog) w9 w.heap.size 0 25 _ _ hF.load Tryz.underlying25 rfl sz25
          refine bodyPost_ret (v := .tuple #[.agg (scL 0 0 h1 h2 (S.ticks : Int)).toArray, .nilIface]) (Kd.results_cell_tmp Tryz.results14 _ w9 w.heap.size _ rfl hL) rfl ?_
          rw [HPE.out]
          exact ⟨⟨_, h1, h2, (S.ticks : Int), rfl, .inl ⟨rfl, rfl, rfl, rfl, us, os, HR.out.su.ky hky (by decide) (by decide), HR.out.od.ky hky (by decide) (by decide), HR.out.eu, HR.out.eo⟩⟩, hB9⟩
/-- what a ParseScript answers -/
def psP (w : World) (p : Nat × Nat × Sc) (o : Ending) (w' : World) : Prop := (∃ h1 h2 us os, o = .returned (.agg (scL (p.1 : Int) (p.2.1 : Int) h1 h2 (p.2.2.ticks : Int)).toArray) ∧ isSc w.heap.size us os h1 h2 p.2.2 w') ∧ Below w.heap.size w w'
theorem isSc.ky {B : Nat} {us : List (Su × Hd)} {os : List (Od × Hd)} {h1 h2 : Hd} {S : Sc} {W V : World} {L : List Nat} {B' : Nat} (h : isSc B us os h1 h2 S W) (hk : Ky L B' W V) (hL : 55 ∉ L ∧ 60 ∉ L ∧ 67 ∉ L ∧ 5 ∉ L) : isSc B us os h1 h2 S V := ⟨h.su.ky hk hL.1 hL.2.1, h.od.ky hk hL.2.2.1 hL.2.2.2, h.eu, h.eo⟩
theorem isSc.lower {B B' : Nat} {us : List (Su × Hd)} {os : List (Od × Hd)} {h1 h2 : Hd} {S : Sc} {W : World} (h : isSc B us os h1 h2 S W) (hB : B' ≤ B) : isSc B' us os h1 h2 S W := ⟨h.su.lower hB, h.od.lower hB, h.eu, h.eo⟩
set_option maxHeartbeats 8000000 in
set_option maxRecDepth 40000 in
/-- impl.ParseScript -/
theorem implParse_any (s : ByteArray) (m : Int) (w : World) (hg : glb w m) : Calls Tryz.prog 5 #[.string s] w (psP w (parseZ s)) := by
  have HG := hidYY hg
  have HP0 := hidYY (blk.new w (scL 0 0 noH noH 0) 25)
  have HB0 : Hid (Below w.heap.size w (w.alloc (.cells (scL 0 0 noH noH 0).toArray 25))) := (Below.refl _ _).alloc (Nat.le_refl _) _
  have HRS := hidYY (readScript_any s m _ (hg.below HB0.out))
  clear hg
  obtain ⟨⟨p1, p2, S⟩, hpz⟩ : ∃ p, parseZ s = p := ⟨_, rfl⟩
  rw [hpz] at HRS ⊢
  clear hpz
  go_enter Tryz.func5, Tryz.ntmps5
  go_wp2_with fail
  refine HRS.out.mono ?_
  rintro o w1 ⟨⟨err, h1, h2, t, rfl, hoo⟩, hb1⟩
  have HP1 := hidYY (HP0.out.below hb1)
  have HB1 := hidYY (HB0.out.trans (hb1.mono HB0.out.size))
  have HO : Hid ((p1 = 0 ∧ p2 = 0 ∧ err = .nilIface ∧ t = (S.ticks : Int) ∧ ∃ us os, isSc w.heap.size us os h1 h2 S w1) ∨ (p1 ≠ 0 ∧ S = noSc ∧ (err = .iface 41 (.agg #[.int .i64 (p1 : Int), .int .i64 (p2 : Int)]) ∨ ∃ s, err = .iface 141 (.agg #[.string s, .iface 41 (.agg #[.int .i64 (p1 : Int), .int .i64 (p2 : Int)])])))) := by
    rcases hoo with ⟨a, b, c, d, us, os, e⟩ | h
    · exact .inl ⟨a, b, c, d, us, os, e.lower HB0.out.size⟩
    · exact .inr h
  clear hb1 hoo HRS HP0 HB0
  have HZ := hidYY (blk.new w1 (scL 0 0 noH noH 0) 25)
  have HZB : Hid (Below w1.heap.size w1 (w1.alloc (.cells (scL 0 0 noH noH 0).toArray 25))) := (Below.refl _ _).alloc (Nat.le_refl _) _
  go_upto_region 2 with (first | (refine wpList_store_mid (P := Tryz.prog) rfl 25 (.tmp 3) (.tmp 9) rfl w1.heap.size 0 (scL 0 0 h1 h2 t).toArray rfl rfl (HZ.out.there 0 5 (by simp)) sz25 (one25 _ _ _ _ _) ?_; generalize hX : World.setCells _ w1.heap.size 0 _ = w2; have HX : Hid (World.setCells (w1.alloc (.cells (scL 0 0 noH noH 0).toArray 25)) w1.heap.size 0 (scL 0 0 h1 h2 t) = w2) := hX; clear hX))
  have HB12 : Hid (Below w1.heap.size w1 w2) := by show Below _ _ _; rw [← HX.out]; exact setCells_below (Nat.le_refl _) 0 _ HZB.out
  have HV2 : Hid (blk w2 w1.heap.size (scL 0 0 h1 h2 t) 25) := by show blk _ _ _ _; rw [← HX.out]; exact blk_all HZ.out rfl
  have HP2 := hidYY (HP1.out.below HB12.out)
  have HB2 := hidYY (HB1.out.trans (HB12.out.mono HB1.out.size))
  clear HX HZ HZB
  have hb23 : Below w2.heap.size w2 (w2.alloc (.cells [.int .i64 0, .int .i64 0].toArray 41)) := (Below.refl _ _).alloc (Nat.le_refl _) _
  have HT3 := hidYY (blk.new w2 [.int .i64 0, .int .i64 0] 41)
  have HP3 := hidYY (HP2.out.below hb23)
  have HV3 := hidYY (HV2.out.below hb23)
  have HB3 := hidYY (HB2.out.trans (hb23.mono HB2.out.size))
  have HB13 := hidYY (HB12.out.trans (hb23.mono HB12.out.size))
  have HTR : Hid (w.heap.size < w2.heap.size) := HP2.out.lt
  generalize hw3 : w2.alloc (.cells [.int .i64 0, .int .i64 0].toArray 41) = w3 at *
  obtain ⟨tb, htb⟩ : ∃ tb, w2.heap.size = tb := ⟨_, rfl⟩
  rw [htb] at HT3 HTR
  clear hb23
  rcases HO.out with ⟨rfl, rfl, rfl, rfl, us, os, hsc⟩ | ⟨hne, rfl, rfl | ⟨sw, rfl⟩⟩
  · have HSC := hidYY hsc
    have HAS := hidYY (fun t W => as_nil t W)
    clear hsc HO
    go_upto_region 3 with fail
    try rw [hw3]
    try rw [htb]
    go_wp2_with (first | (go_at_call 15; refine (HAS.out _ _).mono ?_; rintro o w4 ⟨rfl, hw4⟩; rw [hw4]; clear hw4 w4) | (refine wpList_load_mid (P := Tryz.prog) rfl 25 (.tmp 3) rfl w1.heap.size 0 rfl (scL 0 0 h1 h2 (S.ticks : Int)) _ HV3.out.load Tryz.underlying25 rfl sz25 ?_) | (refine wpList_store_mid (P := Tryz.prog) rfl 25 (.tmp 2) (.tmp 19) rfl w.heap.size 0 (scL 0 0 h1 h2 (S.ticks : Int)).toArray rfl rfl (HP3.out.there 0 5 (by simp)) sz25 (one25 _ _ _ _ _) ?_; generalize hX : World.setCells _ w.heap.size 0 _ = w9; have HX : Hid (World.setCells w3 w.heap.size 0 (scL 0 0 h1 h2 (S.ticks : Int)) = w9) := hX; clear hX))
    have e2 := HX.out
    have hF : blk w9 w.heap.size (scL 0 0 h1 h2 (S.ticks : Int)) 25 := e2 ▸ blk_all HP3.out rfl
    have hky : Ky [25] w.heap.size w3 w9 := e2 ▸ (Ky.refl _ _ _).setCells _ _ _ (Nat.le_refl _) ⟨_, _, _, HP3.out, by simp⟩
    have hB9 : Below w.heap.size w w9 := HB3.out.trans hky.low
    have hL := run_loadVar_mid (P := Tryz.prog) w9 w.heap.size 0 25 _ _ hF.load Tryz.underlying25 rfl sz25
    refine bodyPost_ret (v := .agg (scL 0 0 h1 h2 (S.ticks : Int)).toArray) (Kd.results_cell Tryz.results5 _ w9 w.heap.size _ rfl hL) rfl ?_
    exact ⟨⟨h1, h2, us, os, rfl, (HSC.out.below HB13.out).ky hky (by decide)⟩, hB9⟩
  · clear HO
    go_upto_region 3 with fail
    try rw [hw3]
    try rw [htb]
    have HAS := hidYY (as_hit (p1 : Int) (p2 : Int) tb (.int .i64 0) (.int .i64 0) w3 (HG.out.below HB3.out).g0 (HT3.out.cell 0 _ rfl) (HT3.out.cell 1 _ rfl) (HT3.out.free 0) (HT3.out.free 1))
    go_wp2_with fail
    refine HAS.out.mono ?_
    rintro o w4 ⟨rfl, hb4⟩
    have hT4 : blk ((w3.setCell ⟨tb, 0, none⟩ (.int .i64 (p1 : Int))).setCell ⟨tb, 1, none⟩ (.int .i64 (p2 : Int))) tb [.int .i64 (p1 : Int), .int .i64 (p2 : Int)] 41 := (HT3.out.set 0 (.int .i64 (p1 : Int))).set 1 (.int .i64 (p2 : Int))
    have hs4 : ((w3.setCell ⟨tb, 0, none⟩ (.int .i64 (p1 : Int))).setCell ⟨tb, 1, none⟩ (.int .i64 (p2 : Int))).heap.size = w3.heap.size := by simp
    have hb4' : Below ((w3.setCell ⟨tb, 0, none⟩ (.int .i64 (p1 : Int))).setCell ⟨tb, 1, none⟩ (.int .i64 (p2 : Int))).heap.size ((w3.setCell ⟨tb, 0, none⟩ (.int .i64 (p1 : Int))).setCell ⟨tb, 1, none⟩ (.int .i64 (p2 : Int))) w4 := by rw [hs4]; exact hb4
    have HT4 := hidYY (hT4.below hb4')
    have HP4 := hidYY (((HP3.out.setOther (b' := tb) (by have := HTR.out; omega) 0 (.int .i64 (p1 : Int))).setOther (b' := tb) (by have := HTR.out; omega) 1 (.int .i64 (p2 : Int))).below hb4')
    have hbb : Below w.heap.size w ((w3.setCell ⟨tb, 0, none⟩ (.int .i64 (p1 : Int))).setCell ⟨tb, 1, none⟩ (.int .i64 (p2 : Int))) := (HB3.out.setCell (p := ⟨tb, 0, none⟩) (Nat.le_of_lt HTR.out) _).setCell (p := ⟨tb, 1, none⟩) (Nat.le_of_lt HTR.out) _
    have HB4 := hidYY (hbb.trans (hb4'.mono hbb.size))
    have t0 := HT4.out.cell 0 _ rfl
    have t1 := HT4.out.cell 1 _ rfl
    clear hb4 hT4 hs4 hb4' hbb HAS
    go_wp2_with (first | (refine wpList_store_mid (P := Tryz.prog) rfl 25 (.tmp 2) (.tmp 18) rfl w.heap.size 0 (scL (p1 : Int) (p2 : Int) noH noH 0).toArray rfl rfl (HP4.out.there 0 5 (by simp)) sz25 (one25 _ _ _ _ _) ?_; generalize hX : World.setCells _ w.heap.size 0 _ = w9; have HX : Hid (World.setCells w4 w.heap.size 0 (scL (p1 : Int) (p2 : Int) noH noH 0) = w9) := hX; clear hX))
    have e2 := HX.out
    have hF : blk w9 w.heap.size (scL (p1 : Int) (p2 : Int) noH noH 0) 25 := e2 ▸ blk_all HP4.out rfl
    have hky : Ky [25] w.heap.size w4 w9 := e2 ▸ (Ky.refl _ _ _).setCells _ _ _ (Nat.le_refl _) ⟨_, _, _, HP4.out, by simp⟩
    have hB9 : Below w.heap.size w w9 := HB4.out.trans hky.low
    have hL := run_loadVar_mid (P := Tryz.prog) w9 w.heap.size 0 25 _ _ hF.load Tryz.underlying25 rfl sz25
    refine bodyPost_ret (v := .agg (scL (p1 : Int) (p2 : Int) noH noH 0).toArray) (Kd.results_cell Tryz.results5 _ w9 w.heap.size _ rfl hL) rfl ?_
    exact ⟨⟨noH, noH, [], [], rfl, rcR.e0 _ _, rcR.e0 _ _, rfl, rfl⟩, hB9⟩
  · clear HO
    go_upto_region 3 with fail
    try rw [hw3]
    try rw [htb]
    have HAS := hidYY (as_word sw (p1 : Int) (p2 : Int) tb (.int .i64 0) (.int .i64 0) w3 (HG.out.below HB3.out).g0 (HT3.out.cell 0 _ rfl) (HT3.out.cell 1 _ rfl) (HT3.out.free 0) (HT3.out.free 1))
    go_wp2_with fail
    refine HAS.out.mono ?_
    rintro o w4 ⟨rfl, hb4⟩
    have hT4 : blk ((w3.setCell ⟨tb, 0, none⟩ (.int .i64 (p1 : Int))).setCell ⟨tb, 1, none⟩ (.int .i64 (p2 : Int))) tb [.int .i64 (p1 : Int), .int .i64 (p2 : Int)] 41 := (HT3.out.set 0 (.int .i64 (p1 : Int))).set 1 (.int .i64 (p2 : Int))
    have hs4 : ((w3.setCell ⟨tb, 0, none⟩ (.int .i64 (p1 : Int))).setCell ⟨tb, 1, none⟩ (.int .i64 (p2 : Int))).heap.size = w3.heap.size := by simp
    have hb4' : Below ((w3.setCell ⟨tb, 0, none⟩ (.int .i64 (p1 : Int))).setCell ⟨tb, 1, none⟩ (.int .i64 (p2 : Int))).heap.size ((w3.setCell ⟨tb, 0, none⟩ (.int .i64 (p1 : Int))).setCell ⟨tb, 1, none⟩ (.int .i64 (p2 : Int))) w4 := by rw [hs4]; exact hb4
    have HT4 := hidYY (hT4.below hb4')
    have HP4 := hidYY (((HP3.out.setOther (b' := tb) (by have := HTR.out; omega) 0 (.int .i64 (p1 : Int))).setOther (b' := tb) (by have := HTR.out; omega) 1 (.int .i64 (p2 : Int))).below hb4')
    have hbb : Below w.heap.size w ((w3.setCell ⟨tb, 0, none⟩ (.int .i64 (p1 : Int))).setCell ⟨tb, 1, none⟩ (.int .i64 (p2 : Int))) := (HB3.out.setCell (p := ⟨tb, 0, none⟩) (Nat.le_of_lt HTR.out) _).setCell (p := ⟨tb, 1, none⟩) (Nat.le_of_lt HTR.out) _
    have HB4 := hidYY (hbb.trans (hb4'.mono hbb.size))
    have t0 := HT4.out.cell 0 _ rfl
    have t1 := HT4.out.cell 1 _ rfl
    clear hb4 hT4 hs4 hb4' hbb HAS
    go_wp2_with (first | (refine wpList_store_mid (P := Tryz.prog) rfl 25 (.tmp 2) (.tmp 18) rfl w.heap.size 0 (scL (p1 : Int) (p2 : Int) noH noH 0).toArray rfl rfl (HP4.out.there 0 5 (by simp)) sz25 (one25 _ _ _ _ _) ?_; generalize hX : World.setCells _ w.heap.size 0 _ = w9; have HX : Hid (World.setCells w4 w.heap.size 0 (scL (p1 : Int) (p2 : Int) noH noH 0) = w9) := hX; clear hX))
    have e2 := HX.out
    have hF : blk w9 w.heap.size (scL (p1 : Int) (p2 : Int) noH noH 0) 25 := e2 ▸ blk_all HP4.out rfl
    have hky : Ky [25] w.heap.size w4 w9 := e2 ▸ (Ky.refl _ _ _).setCells _ _ _ (Nat.le_refl _) ⟨_, _, _, HP4.out, by simp⟩
    have hB9 : Below w.heap.size w w9 := HB4.out.trans hky.low
    have hL := run_loadVar_mid (P := Tryz.prog) w9 w.heap.size 0 25 _ _ hF.load Tryz.underlying25 rfl sz25
    refine bodyPost_ret (v := .agg (scL (p1 : Int) (p2 : Int) noH noH 0).toArray) (Kd.results_cell Tryz.results5 _ w9 w.heap.size _ rfl hL) rfl ?_
    exact ⟨⟨noH, noH, [], [], rfl, rcR.e0 _ _, rcR.e0 _ _, rfl, rfl⟩, hB9⟩
end Go.Proofs.YtfbeaekddgpmmaaGreatDoor
