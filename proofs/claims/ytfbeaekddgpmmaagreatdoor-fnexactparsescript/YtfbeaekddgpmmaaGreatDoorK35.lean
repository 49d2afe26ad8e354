import Derived.Test.YtfbeaekddgpmmaaGreatDoorK34
namespace Go.Proofs.YtfbeaekddgpmmaaGreatDoor
open Go.RowKit Kd
set_option linter.unusedVariables false
theorem lr_sz4 (r : List UInt8 × Bool × List UInt8 × Nat) : (Tryz.prog.info? 102).map (·.size) = some (lrV r).length := lr_sz
theorem one4 (r : List UInt8 × Bool × List UInt8 × Nat) : (lrV r).toArray.all (·.oneCell') = true := all_oneCell_toArray (by simp [lrV, Value.oneCell'])
theorem fn_rows : ∀ r ∈ lrs, r.2.2.2 = 49 ∨ r.2.2.2 = 50 ∨ r.2.2.2 = 51 ∨ r.2.2.2 = 52 ∨ r.2.2.2 = 53 ∨ r.2.2.2 = 54 ∨ r.2.2.2 = 55 ∨ r.2.2.2 = 56 ∨ r.2.2.2 = 57 := by
  intro r hr
  simp only [lrs, List.mem_cons, List.not_mem_nil, or_false] at hr
  rcases hr with rfl | rfl | rfl | rfl | rfl | rfl | rfl | rfl | rfl <;> simp
/-- what read answers of a line -/
def rdP (B rb gr : Nat) (S : Sc) (ln : Int) (bg : Bool) (w : World) (ws : List (List UInt8)) (o : Ending) (w' : World) : Prop :=
  (((stepZ S bg ws).1 = 0 ∧ o = .returned .nilIface ∧ rdE B rb gr (stepZ S bg ws).2 ln (bg || !(((wk ws 0).toList == wNode) || ((wk ws 0).toList == wAccept))) w') ∨
   ((stepZ S bg ws).1 ≠ 0 ∧ (o = .returned (.iface 41 (.agg #[.int .i64 ((stepZ S bg ws).1 : Int), .int .i64 ln])) ∨ ∃ s, o = .returned (.iface 141 (.agg #[.string s, .iface 41 (.agg #[.int .i64 ((stepZ S bg ws).1 : Int), .int .i64 ln])])))))
  ∧ Ky [55, 60, 67, 73] B w w'
set_option maxHeartbeats 8000000 in
set_option maxRecDepth 40000 in
/-- (*reader).read -/
theorem read_any {B rb gr : Nat} {S : Sc} {ln : Int} {bg : Bool} {us : List (Su × Hd)} {os : List (Od × Hd)} {h1 h2 : Hd} (g cp : Nat) (x : List UInt8) (rest : List (List UInt8)) (w : World) (hR : rdS B rb gr S ln bg us os h1 h2 w) (hS : okS S) (hok : okWs (x :: rest)) (hcp : rest.length + 1 ≤ cp) (hrl : rest.length ≤ 20000) (hw0 : w.cell? ⟨g, 0, none⟩ = some (.string ⟨x.toArray⟩)) (hws : wordsAt w g rest) :
    Calls Tryz.prog 32 #[.pointer (some ⟨rb, 0, none⟩), .slice (some ⟨g, 0, none⟩) (rest.length + 1) cp] w (rdP B rb gr S ln bg w (x :: rest)) := by
  have hgl : g < w.heap.size := World.block_lt_of_cell? w _ hw0
  have hBl : B ≤ w.heap.size := Nat.le_trans hR.lo (Nat.le_of_lt hR.r.lt)
  have HOK := hidYY hok
  have HWS := hidYY hws
  have HR := hidYY hR
  have HB0 : Hid (Below w.heap.size w (w.alloc (.cells #[.slice (some ⟨g, 0, none⟩) (rest.length + 1) cp] 31))) := (Below.refl _ _).alloc (Nat.le_refl _) _
  have HP0 := hidYY (blk.new w [.slice (some ⟨g, 0, none⟩) (rest.length + 1) cp] 31)
  obtain ⟨n, hn⟩ : ∃ n, rest.length + 1 = n := ⟨_, rfl⟩
  have HN := hidYY hn
  have hn1 : 1 ≤ n := by omega
  have hn2 : n ≤ 20001 := by omega
  rw [hn] at HB0 HP0 hcp ⊢
  have HW0 := hidYY hw0
  clear hn hok hws hR hrl hw0
  have hnz : ((n : Int) == 0) = false := by simp; omega
  generalize hV : w.alloc (.cells #[.slice (some ⟨g, 0, none⟩) n cp] 31) = V at *
  obtain ⟨b, hb⟩ : ∃ b, w.heap.size = b := ⟨_, rfl⟩
  have HBE := hidYY hb
  have HRV := hidYY (HR.out.below HB0.out)
  have z0 : V.cell? ⟨b, 0, none⟩ = some (.slice (some ⟨g, 0, none⟩) n cp) := by rw [← hb]; exact HP0.out.cell 0 _ rfl
  have r5 := HRV.out.r.cell 5 _ rfl
  have HIX := hidYY (idx59 gr b g n cp x V HRV.out.lr.load HRV.out.lr.lt z0 (by omega) ((HB0.out.cell (by exact hgl)).trans HW0.out))
  have HKV := hidYY (Ky.of (S := [55, 60, 67, 73]) (B := B) HB0.out hBl)
  have hBV : B ≤ V.heap.size := Nat.le_trans hBl HB0.out.size
  rw [hb] at HP0
  go_enter Tryz.func32, Tryz.ntmps32
  try rw [hV]
  try rw [hb]
  go_wp2_with fail
  refine HIX.out.mono ?_
  rintro o w1 ⟨rfl, hb1⟩
  have HR1 := hidYY (HRV.out.below hb1)
  have HK1 := hidYY (HKV.out.below hb1 hBV)
  have HB1 := hidYY (HB0.out.trans (hb1.mono HB0.out.size))
  have HP1 := hidYY (HP0.out.below hb1)
  have r6 := HR1.out.r.cell 6 _ rfl
  have hB1 : B ≤ w1.heap.size := Nat.le_trans hBV hb1.size
  clear hb1
  rcases lrAt_cases x with ⟨hat, hsh⟩ | ⟨i, r, hi, hat, hrx, hi9⟩
  · have HST := hidYY (step_word S bg x rest hsh)
    have HFT := hidYY (fault_any rb ln 2 w1 r6)
    rw [hat]
    clear hsh hat
    go_wp2_with (first | (go_at_call 61; refine HFT.out.mono ?_; rintro o w4 ⟨rfl, rfl⟩))
    go_ret
    refine ⟨.inr ⟨by rw [HST.out]; simp, .inl (by rw [HST.out]; rfl)⟩, HK1.out⟩
  · subst hrx
    have hr : r ∈ lrs := List.mem_of_getElem? hi
    have HRO := hidYY (rows_ok r hr)
    have HRM := hidYY hr
    obtain ⟨r', hr', hrg⟩ := lr_row i hi9 gr w1 HR1.out.lr.load
    have er : r' = r := by rw [hi] at hr'; exact (Option.some.inj hr').symm
    subst er
    rw [hat]
    have r5' := HR1.out.r.cell 5 _ rfl
    have HRG := hidYY hrg
    have hi0 : ¬ (i : Int) < 0 := by omega
    have hi1 : (i : Int) < 9 := by omega
    clear hr' hi hat hrg
    have HZ := hidYY (blk.new w1 [.string ⟨#[]⟩, .bool false, .string ⟨#[]⟩, .nilFunc] 102)
    have HZB : Hid (Below w1.heap.size w1 (w1.alloc (.cells [.string ⟨#[]⟩, .bool false, .string ⟨#[]⟩, .nilFunc].toArray 102))) := (Below.refl _ _).alloc (Nat.le_refl _) _
    go_upto_region 7 with (first | (refine wpList_load_mid (P := Tryz.prog) rfl 102 (.tmp 27) rfl gr (i * 4) rfl (lrV r') _ HRG.out Tryz.underlying102 rfl (lr_sz4 r') ?_) | (refine wpList_store_mid (P := Tryz.prog) rfl 102 (.tmp 6) (.tmp 28) rfl w1.heap.size 0 (lrV r').toArray rfl rfl (HZ.out.there 0 4 (by simp)) (lr_sz4 r') (one4 r') ?_; generalize hX : World.setCells _ w1.heap.size 0 _ = w2; have HX : Hid (World.setCells (w1.alloc (.cells [.string ⟨#[]⟩, .bool false, .string ⟨#[]⟩, .nilFunc].toArray 102)) w1.heap.size 0 (lrV r') = w2) := hX; clear hX))
    have HB2 : Hid (Below w1.heap.size w1 w2) := by show Below _ _ _; rw [← HX.out]; exact setCells_below (Nat.le_refl _) 0 _ HZB.out
    have HL2 : Hid (blk w2 w1.heap.size (lrV r') 102) := by show blk _ _ _ _; rw [← HX.out]; exact blk_all HZ.out rfl
    have HR2 := hidYY (HR1.out.below HB2.out)
    have HK2 := hidYY (HK1.out.below HB2.out hB1)
    have HP2 := hidYY (HP1.out.below HB2.out)
    have HBW2 := hidYY (HB1.out.trans (HB2.out.mono HB1.out.size))
    have hB2 : B ≤ w2.heap.size := Nat.le_trans hB1 HB2.out.size
    generalize w1.heap.size = N2 at *
    clear HX HZ HZB HB2 HRG HR1 HK1 HP1 HB1 r5 r5' r6 z0 HIX HKV HRV HB0 HP0
    obtain ⟨su, esu⟩ : ∃ su, r'.2.1 = su := ⟨_, rfl⟩
    obtain ⟨kd, ekd⟩ : ∃ kd, r'.2.2.1 = kd := ⟨_, rfl⟩
    have HSU := hidYY esu
    have HKD := hidYY ekd
    have y0 : w2.cell? ⟨b, 0, none⟩ = some (.slice (some ⟨g, 0, none⟩) n cp) := HP2.out.cell 0 _ rfl
    have l1 : w2.cell? ⟨N2, 1, none⟩ = some (.bool su) := by rw [← esu]; exact HL2.out.cell 1 _ rfl
    have l2 : w2.cell? ⟨N2, 2, none⟩ = some (.string ⟨kd.toArray⟩) := by rw [← ekd]; exact HL2.out.cell 2 _ rfl
    have l3 : w2.cell? ⟨N2, 3, none⟩ = some (.func (Fn.func r'.2.2.2) #[] #[]) := HL2.out.cell 3 _ rfl
    have q6 := HR2.out.r.cell 6 _ rfl
    have q7 := HR2.out.r.cell 7 _ rfl
    have qf7 := HR2.out.r.free 7
    have hkl : (⟨kd.toArray⟩ : ByteArray).size = kd.length := rfl
    have hk5 : kd.length ≤ 5 := by rw [← ekd]; exact HRO.out.le
    have hk1 : 1 ≤ kd.length := by rw [← ekd]; exact HRO.out.pos
    obtain ⟨ks, hks⟩ : ∃ ks, (⟨kd.toArray⟩ : ByteArray) = ks := ⟨_, rfl⟩
    have HKS := hidYY hks
    rw [hks] at l2 hkl
    clear esu ekd hks
    by_cases hct : n = 1 + kd.length
    · have hct' : ((n : Int) != 1 + (ks.size : Int)) = false := by rw [hkl]; simp; omega
      have HCT := hidYY hct
      have HLR : Hid (rest.length = r'.2.2.1.length) := by show _ = _; have := HN.out; rw [HKD.out]; omega
      by_cases hpl : (su && bg) = true
      · obtain ⟨rfl, rfl⟩ : su = true ∧ bg = true := by simpa using hpl
        have HST := hidYY (step_place (S := S) (bg := true) HRO.out (rest := rest) HLR.out (by rw [HSU.out]; rfl))
        have HFT := hidYY (fault_any rb ln 4 w2 q6)
        clear hpl hct
        go_wp2_with (first | (go_at_call 61; refine HFT.out.mono ?_; rintro o w4 ⟨rfl, rfl⟩))
        go_ret
        refine ⟨.inr ⟨by rw [HST.out]; simp, .inl (by rw [HST.out]; rfl)⟩, HK2.out⟩
      · have hpl' : (su && bg) = false := by simpa using hpl
        have HPL := hidYY hpl'
        have hcc : su = false ∨ (su = true ∧ bg = false) := by
          cases su
          · exact .inl rfl
          · exact .inr ⟨rfl, by simpa using hpl'⟩
        have HBG : Hid ((!su) = (bg || !(((wd r'.1).toList == wNode) || ((wd r'.1).toList == wAccept)))) := by
          show (!su) = _
          rw [HRO.out.su, HSU.out]
          cases su
          · cases bg <;> rfl
          · have : bg = false := by simpa using hpl'
            rw [this]; rfl
        have HR3 := hidYY (HR2.out.setB (!su))
        have hgr : g ≠ rb := by
          intro e
          have c1 := HW0.out
          have c2 := HR.out.r.cell 0 _ rfl
          rw [e, c2] at c1
          cases c1
        have hbN : N2 ≠ rb := by
          intro e
          have c1 := l1
          have c2 := HR2.out.r.cell 1 _ rfl
          rw [e, c2] at c1
          cases c1
        have HWC : Hid (∀ W, Below (w2.setCell ⟨rb, 7, none⟩ (.bool (!su))).heap.size (w2.setCell ⟨rb, 7, none⟩ (.bool (!su))) W → wordsAt W g rest) := fun W hW j hj => by
          have c0 := HWS.out j hj
          have c1 := (HBW2.out.cell (World.block_lt_of_cell? w _ c0)).trans c0
          have c2 : (w2.setCell ⟨rb, 7, none⟩ (.bool (!su))).cell? ⟨g, 1 + j, none⟩ = some (.string ⟨rest[j].toArray⟩) := cell_up c1 (heap_setCell_other _ _ _ _ hgr)
          exact (hW.cell (World.block_lt_of_cell? _ _ c2)).trans c2
        have HVA : Hid (∀ W, Below (w2.setCell ⟨rb, 7, none⟩ (.bool (!su))).heap.size (w2.setCell ⟨rb, 7, none⟩ (.bool (!su))) W → Calls Tryz.prog 62 #[.pointer (some ⟨rb, 0, none⟩), .string ks, .slice (some ⟨g, 1, none⟩) kd.length (cp - 1)] W fun o w' => ∃ x y, o = .returned (.tuple #[x, y]) ∧ ((allForm kd rest = true ∧ y = .nilIface ∧ ∃ rs, rcR kV W.heap.size x rs w' ∧ rs.map (·.1) = vals kd rest) ∨ (allForm kd rest = false ∧ ∃ s, y = .iface 141 (.agg #[.string s, .iface 41 (.agg #[.int .i64 5, .int .i64 ln])]))) ∧ Below W.heap.size W w') := fun W hW => by
          rw [← HKS.out]
          refine (values_any rb g (cp - 1) ln kd rest W (fun c hc => HRO.out.kd c (by rw [HKD.out]; exact hc)) (by omega) (by rw [← HKD.out]; exact HLR.out) (HWC.out W hW) (fun y hy => HOK.out y (List.mem_cons_of_mem _ hy)) ((HR3.out.1.below hW).r.cell 6 _ rfl)).mono ?_
          rintro o w' ⟨⟨hf, v, rs, rfl, hrc, hmm⟩ | ⟨hf, s, rfl⟩, hb⟩
          · exact ⟨_, _, rfl, .inl ⟨hf, rfl, rs, hrc, hmm⟩, hb⟩
          · exact ⟨_, _, rfl, .inr ⟨hf, s, rfl⟩, hb⟩
        have HL3 := hidYY (HL2.out.setOther hbN 7 (.bool (!su)))
        have HK3 := hidYY (HK2.out.trans (HR3.out.2.mono (by simp) (Nat.le_refl _) : Ky [55, 60, 67, 73] B w2 _))
        have HFR : Hid (∀ W (rs : List (Vl × Hd)) v, rcR kV (w2.setCell ⟨rb, 7, none⟩ (.bool (!su))).heap.size v rs W → ∀ q ∈ rs, ∀ r ∈ os, ∀ y, r.2.1 = some y → q.2.1 ≠ some y) := fun W rs v hrc q hq r hr y hy => HR3.out.1.od.fresh (Nat.le_refl _) (hrc.dat q hq) r hr y hy
        clear hpl
        subst hct
        have hn1' : ¬ ((1 : Int) + (kd.length : Int) < 1) := by omega
        have hcp1 : (1 : Int) ≤ (cp : Int) := by omega
        have hcp2 : ¬ cp = 1 := by omega
        have HB3 : Hid (B ≤ (w2.setCell ⟨rb, 7, none⟩ (.bool (!su))).heap.size) := Nat.le_trans hB2 HR3.out.2.size
        rcases hcc with rfl | ⟨rfl, rfl⟩
        · go_upto_region 12 with fail
          go_cut [7, 8] (fun x y wx => ((allForm kd rest = true ∧ y = .nilIface ∧ ∃ rs, rcR kV (w2.setCell ⟨rb, 7, none⟩ (.bool true)).heap.size x rs wx ∧ rs.map (·.1) = vals kd rest) ∨ (allForm kd rest = false ∧ ∃ s, y = .iface 141 (.agg #[.string s, .iface 41 (.agg #[.int .i64 5, .int .i64 ln])]))) ∧ Below (w2.setCell ⟨rb, 7, none⟩ (.bool true)).heap.size (w2.setCell ⟨rb, 7, none⟩ (.bool true)) wx)
          case first =>
            go_region_with (go_at_call 62; refine (HVA.out _ ?_).mono ?_; exact (Below.refl _ _).drew; rintro o w5 ⟨vx, vy, rfl, hoo, hb5⟩)
            all_goals
              go_wp2_with fail
              go_meet
              case rel => exact ⟨hoo, (Below.refl _ _).drew.trans hb5⟩
          case rest =>
          obtain ⟨hoo, hb5⟩ := hcut
          have HR4 := hidYY (HR3.out.1.below hb5)
          have HK4 := hidYY (HK3.out.below hb5 HB3.out)
          have HL4 := hidYY (HL3.out.below hb5)
          have hB4 : B ≤ wc.heap.size := Nat.le_trans HB3.out hb5.size
          have m3 := HL4.out.cell 3 _ rfl
          have m6 := HR4.out.r.cell 6 _ rfl
          rcases hoo with ⟨hf, rfl, rs, hrc, hmm⟩ | ⟨hf, s, rfl⟩
          · have HTK := hidYY (take_row r' HRM.out rest u7 rs wc HR4.out hS hrc HB3.out (by rw [HKD.out]; exact hmm) (by rw [HKD.out]; exact hf) HLR.out (HFR.out wc rs _ hrc))
            have HST := hidYY (step_go (S := S) (bg := bg) HRO.out (rest := rest) HLR.out (by rw [HSU.out]; exact HPL.out) (by rw [HKD.out]; exact hf))
            clear hrc hmm hf hb5
            go_upto_region 15 with fail
            go_cut [71] (fun x wx => ∃ bb : Bool, x = .bool (!bb) ∧ (bb = true → (goL S (r'.1 :: rest)).1 = 0 ∧ rdE B rb gr (goL S (r'.1 :: rest)).2 ln true wx) ∧ (bb = false → (goL S (r'.1 :: rest)).1 = 6) ∧ Ky [55, 60, 67, 73] B w wx ∧ wx.cell? ⟨rb, 6, none⟩ = some (.int .i64 ln))
            case first =>
              have hF : r'.2.2.2 = 49 ∨ r'.2.2.2 = 50 ∨ r'.2.2.2 = 51 ∨ r'.2.2.2 = 52 ∨ r'.2.2.2 = 53 ∨ r'.2.2.2 = 54 ∨ r'.2.2.2 = 55 ∨ r'.2.2.2 = 56 ∨ r'.2.2.2 = 57 := fn_rows r' HRM.out
              rcases hF with e | e | e | e | e | e | e | e | e
              all_goals
                rw [e] at m3 HTK
                go_wp2_with fail
                refine HTK.out.mono ?_
                rintro o w7 ⟨⟨bb, rfl, hy, hn⟩, hk7, hl7⟩
                have hk := HK4.out.trans hk7
                go_wp2_with fail
                go_meet
                case rel => exact ⟨bb, rfl, hy, hn, hk, hl7⟩
            case rest =>
            obtain ⟨bb, rfl, hy, hn, hk7, hl7⟩ := hcut
            have HK7 := hidYY hk7
            cases bb
            · have h6 := hn rfl
              have HFT := hidYY (fault_any rb ln 6 wc hl7)
              have HH6 := hidYY h6
              clear hy hn hk7 h6 hl7
              go_wp2_with (first | (go_at_call 61; refine HFT.out.mono ?_; rintro o w4 ⟨rfl, rfl⟩))
              go_ret
              refine ⟨.inr ⟨by rw [HST.out, HH6.out]; simp, .inl (by rw [HST.out, HH6.out]; rfl)⟩, HK7.out⟩
            · obtain ⟨h0, hE⟩ := hy rfl
              have HE := hidYY (And.intro h0 hE)
              clear hy hn hk7 h0 hE hl7
              go_wp2_with fail
              go_ret
              refine ⟨.inl ⟨by rw [HST.out]; exact HE.out.1, rfl, ?_⟩, HK7.out⟩
              rw [HST.out, wk_zero, ← HBG.out]
              exact HE.out.2
          · have HST := hidYY (step_form (S := S) (bg := bg) HRO.out (rest := rest) HLR.out (by rw [HSU.out]; exact HPL.out) (by rw [HKD.out]; exact hf))
            clear hf hb5
            go_wp2_with fail
            go_ret
            refine ⟨.inr ⟨by rw [HST.out]; simp, .inr ⟨s, by rw [HST.out]; rfl⟩⟩, HK4.out⟩
        · go_upto_region 12 with fail
          go_cut [7, 8] (fun x y wx => ((allForm kd rest = true ∧ y = .nilIface ∧ ∃ rs, rcR kV (w2.setCell ⟨rb, 7, none⟩ (.bool false)).heap.size x rs wx ∧ rs.map (·.1) = vals kd rest) ∨ (allForm kd rest = false ∧ ∃ s, y = .iface 141 (.agg #[.string s, .iface 41 (.agg #[.int .i64 5, .int .i64 ln])]))) ∧ Below (w2.setCell ⟨rb, 7, none⟩ (.bool false)).heap.size (w2.setCell ⟨rb, 7, none⟩ (.bool false)) wx)
          case first =>
            go_region_with (go_at_call 62; refine (HVA.out _ ?_).mono ?_; exact (Below.refl _ _).drew; rintro o w5 ⟨vx, vy, rfl, hoo, hb5⟩)
            all_goals
              go_wp2_with fail
              go_meet
              case rel => exact ⟨hoo, (Below.refl _ _).drew.trans hb5⟩
          case rest =>
          obtain ⟨hoo, hb5⟩ := hcut
          have HR4 := hidYY (HR3.out.1.below hb5)
          have HK4 := hidYY (HK3.out.below hb5 HB3.out)
          have HL4 := hidYY (HL3.out.below hb5)
          have hB4 : B ≤ wc.heap.size := Nat.le_trans HB3.out hb5.size
          have m3 := HL4.out.cell 3 _ rfl
          have m6 := HR4.out.r.cell 6 _ rfl
          rcases hoo with ⟨hf, rfl, rs, hrc, hmm⟩ | ⟨hf, s, rfl⟩
          · have HTK := hidYY (take_row r' HRM.out rest u7 rs wc HR4.out hS hrc HB3.out (by rw [HKD.out]; exact hmm) (by rw [HKD.out]; exact hf) HLR.out (HFR.out wc rs _ hrc))
            have HST := hidYY (step_go (S := S) (bg := false) HRO.out (rest := rest) HLR.out (by rw [HSU.out]; exact HPL.out) (by rw [HKD.out]; exact hf))
            clear hrc hmm hf hb5
            go_upto_region 15 with fail
            go_cut [71] (fun x wx => ∃ bb : Bool, x = .bool (!bb) ∧ (bb = true → (goL S (r'.1 :: rest)).1 = 0 ∧ rdE B rb gr (goL S (r'.1 :: rest)).2 ln false wx) ∧ (bb = false → (goL S (r'.1 :: rest)).1 = 6) ∧ Ky [55, 60, 67, 73] B w wx ∧ wx.cell? ⟨rb, 6, none⟩ = some (.int .i64 ln))
            case first =>
              have hF : r'.2.2.2 = 49 ∨ r'.2.2.2 = 50 ∨ r'.2.2.2 = 51 ∨ r'.2.2.2 = 52 ∨ r'.2.2.2 = 53 ∨ r'.2.2.2 = 54 ∨ r'.2.2.2 = 55 ∨ r'.2.2.2 = 56 ∨ r'.2.2.2 = 57 := fn_rows r' HRM.out
              rcases hF with e | e | e | e | e | e | e | e | e
              all_goals
                rw [e] at m3 HTK
                go_wp2_with fail
                refine HTK.out.mono ?_
                rintro o w7 ⟨⟨bb, rfl, hy, hn⟩, hk7, hl7⟩
                have hk := HK4.out.trans hk7
                go_wp2_with fail
                go_meet
                case rel => exact ⟨bb, rfl, hy, hn, hk, hl7⟩
            case rest =>
            obtain ⟨bb, rfl, hy, hn, hk7, hl7⟩ := hcut
            have HK7 := hidYY hk7
            cases bb
            · have h6 := hn rfl
              have HFT := hidYY (fault_any rb ln 6 wc hl7)
              have HH6 := hidYY h6
              clear hy hn hk7 h6 hl7
              go_wp2_with (first | (go_at_call 61; refine HFT.out.mono ?_; rintro o w4 ⟨rfl, rfl⟩))
              go_ret
              refine ⟨.inr ⟨by rw [HST.out, HH6.out]; simp, .inl (by rw [HST.out, HH6.out]; rfl)⟩, HK7.out⟩
            · obtain ⟨h0, hE⟩ := hy rfl
              have HE := hidYY (And.intro h0 hE)
              clear hy hn hk7 h0 hE hl7
              go_wp2_with fail
              go_ret
              refine ⟨.inl ⟨by rw [HST.out]; exact HE.out.1, rfl, ?_⟩, HK7.out⟩
              rw [HST.out, wk_zero, ← HBG.out]
              exact HE.out.2
          · have HST := hidYY (step_form (S := S) (bg := false) HRO.out (rest := rest) HLR.out (by rw [HSU.out]; exact HPL.out) (by rw [HKD.out]; exact hf))
            clear hf hb5
            go_wp2_with fail
            go_ret
            refine ⟨.inr ⟨by rw [HST.out]; simp, .inr ⟨s, by rw [HST.out]; rfl⟩⟩, HK4.out⟩
    · have hct' : ((n : Int) != 1 + (ks.size : Int)) = true := by rw [hkl]; simp; omega
      have HST := hidYY (step_count (S := S) (bg := bg) HRO.out (rest := rest) (by have := HN.out; rw [HKD.out]; omega))
      have HFT := hidYY (fault_any rb ln 3 w2 q6)
      clear hct
      go_wp2_with (first | (go_at_call 61; refine HFT.out.mono ?_; rintro o w4 ⟨rfl, rfl⟩))
      go_ret
      refine ⟨.inr ⟨by rw [HST.out]; simp, .inl (by rw [HST.out]; rfl)⟩, HK2.out⟩
end Go.Proofs.YtfbeaekddgpmmaaGreatDoor
