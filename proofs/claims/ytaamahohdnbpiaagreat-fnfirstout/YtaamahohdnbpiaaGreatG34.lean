import Derived.Test.YtaamahohdnbpiaaGreatG33
import Derived.Test.YtaamahohdnbpiaaGreatG30
import Derived.Test.YtaamahohdnbpiaaGreatG22
import Derived.Deep.RegionHeld3
import Derived.Test.YtaamahohdnbpiaaGreatG02
import Derived.Test.YtaamahohdnbpiaaGreatRB
import Derived.Test.YtaamahohdnbpiaaGreatNP
import Derived.Test.YtaamahohdnbpiaaGreatOA
import Derived.Test.YtaamahohdnbpiaaGreatG04
namespace Go.Proofs.YtaamahohdnbpiaaGreat
open Go.RowKit
set_option linter.unusedVariables false
set_option maxHeartbeats 8000000 in
set_option maxRecDepth 20000 in
theorem changed57 (w : World) (H : Ho) (s : Sl) (Bt Bf : Nat) (t : Int) (F : R5) (fa : Option Addr) (fm fc : Nat) (h : isHo w H s) (hs : slSome s) (hn : H.le 1048576) (yt : w.cell? ⟨Bt, 0, none⟩ = some (.int .i64 t)) (yf : blk w Bf [.bool F.e, .int .u32 (F.i : Int), .bool F.r, .int .i64 F.d, .slice fa fm fc] 25) (hf : isBytes w fa fm fc F.l) (hfm : fm ≤ 1048576) (hwt : (Lit.int .i64 t).wf = true) :
    Calls Tryz.prog 56 #[.agg (hoL H s).toArray, .func (.func 57) #[] #[.pointer (some ⟨Bt, 0, none⟩), .pointer (some ⟨Bf, 0, none⟩)]] w fun o w' => (okHo H ∧ toldQ w (subHo H t F) o w') ∨ (¬ okHo H ∧ o = .returned (.agg [.int .i64 0, .int .i64 0, .int .i64 0, .int .i64 0, .slice none 0 0, .slice none 0 0, .slice none 0 0, .slice none 0 0, .int .i64 0, .int .i64 0].toArray) ∧ Below w.heap.size w w') := by
  have H0 : Hid (dtS w H s ((w.alloc (.cells (hoL H s).toArray 35)).alloc (.cells [.int .i64 0, .int .i64 0, .int .i64 0, .int .i64 0, .slice none 0 0, .slice none 0 0, .slice none 0 0, .slice none 0 0, .int .i64 0, .int .i64 0].toArray 35))) := dtS.new w H s
  have HYB : Hid (∀ W, Below w.heap.size w W → W.cell? ⟨Bt, 0, none⟩ = some (.int .i64 t) ∧ blk W Bf [.bool F.e, .int .u32 (F.i : Int), .bool F.r, .int .i64 F.d, .slice fa fm fc] 25 ∧ isBytes W fa fm fc F.l) := fun W hW => ⟨(hW.cell (by exact World.block_lt_of_cell? w _ yt)).trans yt, yf.below hW, hf.below hW⟩
  have HWF : Hid ((Lit.int .i64 t).wf = true) := hwt
  clear yt yf hf hwt
  by_cases hok : okHo H
  · have HV : Hid (∀ W, Below w.heap.size w W → Calls Tryz.prog 60 #[.agg (hoL H s).toArray] W fun o w' => o = .returned (.bool true) ∧ Below W.heap.size W w') := fun W hW => vOk W H s (h.below hW) hn hok
    have HO : Hid (∀ W, Below w.heap.size w W → Calls Tryz.prog 61 #[.agg (hoL H s).toArray] W fun o w' => ∃ P, o = .returned (.pointer (some ⟨P, 0, none⟩)) ∧ Below W.heap.size W w' ∧ Calls Tryz.prog 57 #[.pointer (some ⟨P, 0, none⟩), .pointer (some ⟨Bt, 0, none⟩), .pointer (some ⟨Bf, 0, none⟩)] w' fun o w2 => o = .returned (.tuple #[]) ∧ Below W.heap.size W w2 ∧ Calls Tryz.prog 118 #[.pointer (some ⟨P, 0, none⟩)] w2 (toldQ w2 (subHo H t F))) := fun W hW => open_submit W H s Bt Bf t F fa fm fc (h.below hW) hs hok hn (HYB.out W hW).1 (HYB.out W hW).2.1 (HYB.out W hW).2.2 hfm HWF.out
    have HOK : Hid (okHo H) := hok
    clear h hn hok hs
    go_enter Tryz.func56, Tryz.ntmps56
    go_wp2_with (first
      | (refine wpList_load_mid (P := Tryz.prog) rfl 35 _ rfl w.heap.size 0 rfl (hoL H s) _ H0.out.p.load Tryz.underlying35 rfl (sz41L H s) ?_))
    refine (HV.out _ H0.out.b).mono ?_
    rintro o w1 ⟨rfl, hb1⟩
    have H1 : Hid (dtS w H s w1) := H0.out.below hb1
    clear H0 hb1
    go_wp2_with (first
      | (refine wpList_load_mid (P := Tryz.prog) rfl 35 _ rfl w.heap.size 0 rfl (hoL H s) _ H1.out.p.load Tryz.underlying35 rfl (sz41L H s) ?_))
    refine (HO.out _ H1.out.b).mono ?_
    rintro o w2 ⟨P, rfl, hb2, hc2⟩
    have HC2 : Hid (Calls Tryz.prog 57 #[.pointer (some ⟨P, 0, none⟩), .pointer (some ⟨Bt, 0, none⟩), .pointer (some ⟨Bf, 0, none⟩)] w2 fun o w3 => o = .returned (.tuple #[]) ∧ Below w1.heap.size w1 w3 ∧ Calls Tryz.prog 118 #[.pointer (some ⟨P, 0, none⟩)] w3 (toldQ w3 (subHo H t F))) := hc2
    clear hc2 hb2
    go_wp2_with fail
    refine (Calls.mono HC2.out) ?_
    rintro o w3 ⟨rfl, hb3, hc3⟩
    have H3 : Hid (dtS w H s w3) := H1.out.below hb3
    have HC3 : Hid (Calls Tryz.prog 118 #[.pointer (some ⟨P, 0, none⟩)] w3 (toldQ w3 (subHo H t F))) := hc3
    clear hc3 hb3 HC2 H1
    go_wp2_with fail
    refine (Calls.mono HC3.out) ?_
    rintro o w4 ⟨s4, rfl, q1, q2, q3, q4, hb4⟩
    have H4 : Hid (dtS w H s w4) := H3.out.below hb4
    have HQ : Hid (St w3.heap.size w4 (fun W => isHo W (subHo H t F) s4.sl) ∧ whS w3.heap.size w4.heap.size w4 s4 ∧ whD s4 ∧ whE s4) := ⟨q1, q2, q3, q4⟩
    clear q1 q2 q3 q4 hb4 HC3
    go_wp2_with (first
      | (refine wpList_store_mid (P := Tryz.prog) rfl 35 _ _ rfl (w.heap.size + 1) 0 (hoL (subHo H t F) s4.sl).toArray rfl rfl (H4.out.r.there 0 _ (by rw [List.size_toArray, hoL_len]; decide)) (sz41A (subHo H t F) s4.sl) (hoL_one (subHo H t F) s4.sl) ?_; generalize hW8 : World.setCells _ (w.heap.size + 1) 0 _ = w8; have HW8 : Hid (_ = w8) := hW8; clear hW8))
    have e8 := HW8.out
    have hF : blk w8 (w.heap.size + 1) (hoL (subHo H t F) s4.sl) 35 := by
      rw [← e8]
      have := blk.put [] Z10 [] (hoL (subHo H t F) s4.sl) (w := w4) (b := w.heap.size + 1) (T := 35) (by simpa using H4.out.r) (by rw [hoL_len]; rfl)
      simpa using this
    have hL := run_loadVar_mid (P := Tryz.prog) w8 (w.heap.size + 1) 0 35 _ _ hF.load Tryz.underlying35 rfl (sz41L (subHo H t F) s4.sl)
    refine bodyPost_ret (v := .agg (hoL (subHo H t F) s4.sl).toArray) (results_cell Tryz.results56 _ w8 (w.heap.size + 1) _ rfl hL) rfl ?_
    have oth : ∀ x, x ≠ w.heap.size + 1 → w8.heap[x]? = w4.heap[x]? := fun x hx => by rw [← e8]; exact setCells_other _ x hx _ _ _
    have hsz : w8.heap.size = w4.heap.size := by rw [← e8]; exact setCells_size ..
    have hp := toldQ.put (w := w) H3.out.b.size H3.out.r.lt HQ.out.1 HQ.out.2.1 oth hsz
    exact Or.inl ⟨HOK.out, s4, rfl, hp.1, hp.2, HQ.out.2.2.1, HQ.out.2.2.2, by rw [← e8]; exact setCells_below (by omega) 0 _ H4.out.b⟩
  · have HV : Hid (∀ W, Below w.heap.size w W → Calls Tryz.prog 60 #[.agg (hoL H s).toArray] W fun o w' => o = .returned (.bool false) ∧ Below W.heap.size W w') := fun W hW => vBad W H s (h.below hW) hn hok
    have HOK : Hid (¬ okHo H) := hok
    clear h hn hok hs
    go_enter Tryz.func56, Tryz.ntmps56
    go_wp2_with (first
      | (refine wpList_load_mid (P := Tryz.prog) rfl 35 _ rfl w.heap.size 0 rfl (hoL H s) _ H0.out.p.load Tryz.underlying35 rfl (sz41L H s) ?_))
    refine (HV.out _ H0.out.b).mono ?_
    rintro o w1 ⟨rfl, hb1⟩
    have H1 : Hid (dtS w H s w1) := H0.out.below hb1
    clear H0 hb1
    go_wp2_with (first
      | (refine wpList_store_mid (P := Tryz.prog) rfl 35 _ _ rfl (w.heap.size + 1) 0 [.int .i64 0, .int .i64 0, .int .i64 0, .int .i64 0, .slice none 0 0, .slice none 0 0, .slice none 0 0, .slice none 0 0, .int .i64 0, .int .i64 0].toArray rfl rfl (H1.out.r.there 0 10 (by simp [Z10])) sz41 (all_oneCell_toArray (by simp [Value.oneCell'])) ?_; generalize hW8 : World.setCells _ (w.heap.size + 1) 0 _ = w8; have HW8 : Hid (_ = w8) := hW8; clear hW8))
    have e8 := HW8.out
    have hF : blk w8 (w.heap.size + 1) [.int .i64 0, .int .i64 0, .int .i64 0, .int .i64 0, .slice none 0 0, .slice none 0 0, .slice none 0 0, .slice none 0 0, .int .i64 0, .int .i64 0] 35 := by
      rw [← e8]
      have := blk.put [] Z10 [] [.int .i64 0, .int .i64 0, .int .i64 0, .int .i64 0, .slice none 0 0, .slice none 0 0, .slice none 0 0, .slice none 0 0, .int .i64 0, .int .i64 0] (w := w1) (b := w.heap.size + 1) (T := 35) (by simpa using H1.out.r) rfl
      simpa using this
    have hL := run_loadVar_mid (P := Tryz.prog) w8 (w.heap.size + 1) 0 35 _ _ hF.load Tryz.underlying35 rfl sz41
    refine bodyPost_ret (v := .agg [.int .i64 0, .int .i64 0, .int .i64 0, .int .i64 0, .slice none 0 0, .slice none 0 0, .slice none 0 0, .slice none 0 0, .int .i64 0, .int .i64 0].toArray) (results_cell Tryz.results56 _ w8 (w.heap.size + 1) _ rfl hL) rfl ?_
    exact Or.inr ⟨HOK.out, rfl, by rw [← e8]; exact setCells_below (by omega) 0 _ H1.out.b⟩
structure itM (w : World) (L : List Value) (t : Int) (FL : List Value) (W : World) : Prop where
  p : blk W w.heap.size L 35
  x : blk W (w.heap.size + 1) [.int .i64 t] 3
  f : blk W (w.heap.size + 1 + 1) FL 25
  r : blk W (w.heap.size + 1 + 1 + 1) Z10 35
  b : Below w.heap.size w W
theorem itM.below {w : World} {L : List Value} {t : Int} {FL : List Value} {W W' : World} (h : itM w L t FL W) (hb : Below W.heap.size W W') : itM w L t FL W' := ⟨h.p.below hb, h.x.below hb, h.f.below hb, h.r.below hb, h.b.trans (hb.mono h.b.size)⟩
theorem itM.new (w : World) (L : List Value) (t : Int) (FL : List Value) : itM w L t FL ((((w.alloc (.cells L.toArray 35)).alloc (.cells #[.int .i64 t] 3)).alloc (.cells FL.toArray 25)).alloc (.cells Z10.toArray 35)) := by
  refine ⟨(((blk.new w _ 35).alloc _).alloc _).alloc _, ?_, ?_, ?_, ((((Below.refl _ _).alloc (Nat.le_refl _) _).alloc (by simp) _).alloc (by simp; omega) _).alloc (by simp; omega) _⟩
  · have := ((blk.new (w.alloc (.cells L.toArray 35)) [.int .i64 t] 3).alloc (.cells FL.toArray 25)).alloc (.cells Z10.toArray 35)
    simpa using this
  · have := (blk.new ((w.alloc (.cells L.toArray 35)).alloc (.cells #[.int .i64 t] 3)) FL 25).alloc (.cells Z10.toArray 35)
    have e : ((w.alloc (.cells L.toArray 35)).alloc (.cells #[.int .i64 t] 3)).heap.size = w.heap.size + 1 + 1 := by simp
    rw [e] at this
    exact this
  · have := blk.new (((w.alloc (.cells L.toArray 35)).alloc (.cells #[.int .i64 t] 3)).alloc (.cells FL.toArray 25)) Z10 35
    have e : (((w.alloc (.cells L.toArray 35)).alloc (.cells #[.int .i64 t] 3)).alloc (.cells FL.toArray 25)).heap.size = w.heap.size + 1 + 1 + 1 := by simp
    rw [e] at this
    exact this
set_option maxHeartbeats 8000000 in
set_option maxRecDepth 20000 in
theorem implSubmit_any (w : World) (H : Ho) (s : Sl) (t : Int) (F : R5) (fa : Option Addr) (fm fc : Nat) (h : isHo w H s) (hs : slSome s) (hn : H.le 1048576) (hf : isBytes w fa fm fc F.l) (hfm : fm ≤ 1048576) (hwt : (Lit.int .i64 t).wf = true) :
    Calls Tryz.prog 15 #[.agg (hoL H s).toArray, .int .i64 t, frV F.e F.i F.r F.d fa fm fc] w fun o w' => (okHo H ∧ toldQ w (subHo H t F) o w') ∨ (¬ okHo H ∧ o = .returned (.agg [.int .i64 0, .int .i64 0, .int .i64 0, .int .i64 0, .slice none 0 0, .slice none 0 0, .slice none 0 0, .slice none 0 0, .int .i64 0, .int .i64 0].toArray) ∧ Below w.heap.size w w') := by
  have H0 : Hid (itM w (hoL H s) t [.bool F.e, .int .u32 (F.i : Int), .bool F.r, .int .i64 F.d, .slice fa fm fc] ((((w.alloc (.cells (hoL H s).toArray 35)).alloc (.cells #[.int .i64 t] 3)).alloc (.cells [.bool F.e, .int .u32 (F.i : Int), .bool F.r, .int .i64 F.d, .slice fa fm fc].toArray 25)).alloc (.cells [.int .i64 0, .int .i64 0, .int .i64 0, .int .i64 0, .slice none 0 0, .slice none 0 0, .slice none 0 0, .slice none 0 0, .int .i64 0, .int .i64 0].toArray 35))) := itM.new w _ t _
  have HC : Hid (∀ W, itM w (hoL H s) t [.bool F.e, .int .u32 (F.i : Int), .bool F.r, .int .i64 F.d, .slice fa fm fc] W → Calls Tryz.prog 56 #[.agg (hoL H s).toArray, .func (.func 57) #[] #[.pointer (some ⟨w.heap.size + 1, 0, none⟩), .pointer (some ⟨w.heap.size + 1 + 1, 0, none⟩)]] W fun o w' => (okHo H ∧ toldQ W (subHo H t F) o w') ∨ (¬ okHo H ∧ o = .returned (.agg [.int .i64 0, .int .i64 0, .int .i64 0, .int .i64 0, .slice none 0 0, .slice none 0 0, .slice none 0 0, .slice none 0 0, .int .i64 0, .int .i64 0].toArray) ∧ Below W.heap.size W w')) := fun W hW => changed57 W H s (w.heap.size + 1) (w.heap.size + 1 + 1) t F fa fm fc (h.below hW.b) hs hn (hW.x.cell 0 _ rfl) hW.f (hf.below hW.b) hfm hwt
  have hmf : ∀ (fn : Fn) (first cap : Array Value) (w : World), (Instr.makeFunc fn first cap).run Tryz.prog w = .ok (.func fn first cap) w := fun _ _ _ _ => rfl
  clear h hn hs hf hwt
  go_enter Tryz.func15, Tryz.ntmps15
  go_wp2_with (first
    | (refine wpList_load_mid (P := Tryz.prog) rfl 35 _ rfl w.heap.size 0 rfl (hoL H s) _ H0.out.p.load Tryz.underlying35 rfl (sz41L H s) ?_))
  refine (HC.out _ H0.out).mono ?_
  rintro o w1 (⟨hok, s4, rfl, q1, q2, q3, q4, hb4⟩ | ⟨hok, rfl, hb4⟩)
  · have H4 : Hid (itM w (hoL H s) t [.bool F.e, .int .u32 (F.i : Int), .bool F.r, .int .i64 F.d, .slice fa fm fc] w1) := H0.out.below hb4
    have HQ : Hid (St ((((w.alloc (.cells (hoL H s).toArray 35)).alloc (.cells #[.int .i64 t] 3)).alloc (.cells [.bool F.e, .int .u32 (F.i : Int), .bool F.r, .int .i64 F.d, .slice fa fm fc].toArray 25)).alloc (.cells [.int .i64 0, .int .i64 0, .int .i64 0, .int .i64 0, .slice none 0 0, .slice none 0 0, .slice none 0 0, .slice none 0 0, .int .i64 0, .int .i64 0].toArray 35)).heap.size w1 (fun W => isHo W (subHo H t F) s4.sl) ∧ whS ((((w.alloc (.cells (hoL H s).toArray 35)).alloc (.cells #[.int .i64 t] 3)).alloc (.cells [.bool F.e, .int .u32 (F.i : Int), .bool F.r, .int .i64 F.d, .slice fa fm fc].toArray 25)).alloc (.cells [.int .i64 0, .int .i64 0, .int .i64 0, .int .i64 0, .slice none 0 0, .slice none 0 0, .slice none 0 0, .slice none 0 0, .int .i64 0, .int .i64 0].toArray 35)).heap.size w1.heap.size w1 s4 ∧ whD s4 ∧ whE s4) := ⟨q1, q2, q3, q4⟩
    have HOK : Hid (okHo H) := hok
    have HZ : Hid (w.heap.size ≤ ((((w.alloc (.cells (hoL H s).toArray 35)).alloc (.cells #[.int .i64 t] 3)).alloc (.cells [.bool F.e, .int .u32 (F.i : Int), .bool F.r, .int .i64 F.d, .slice fa fm fc].toArray 25)).alloc (.cells [.int .i64 0, .int .i64 0, .int .i64 0, .int .i64 0, .slice none 0 0, .slice none 0 0, .slice none 0 0, .slice none 0 0, .int .i64 0, .int .i64 0].toArray 35)).heap.size ∧ w.heap.size + 1 + 1 + 1 < ((((w.alloc (.cells (hoL H s).toArray 35)).alloc (.cells #[.int .i64 t] 3)).alloc (.cells [.bool F.e, .int .u32 (F.i : Int), .bool F.r, .int .i64 F.d, .slice fa fm fc].toArray 25)).alloc (.cells [.int .i64 0, .int .i64 0, .int .i64 0, .int .i64 0, .slice none 0 0, .slice none 0 0, .slice none 0 0, .slice none 0 0, .int .i64 0, .int .i64 0].toArray 35)).heap.size) := ⟨H0.out.b.size, H0.out.r.lt⟩
    clear q1 q2 q3 q4 hb4 hok HC H0
    go_wp2_with (first
      | (refine wpList_store_mid (P := Tryz.prog) rfl 35 _ _ rfl (w.heap.size + 1 + 1 + 1) 0 (hoL (subHo H t F) s4.sl).toArray rfl rfl (H4.out.r.there 0 _ (by rw [List.size_toArray, hoL_len]; decide)) (sz41A (subHo H t F) s4.sl) (hoL_one (subHo H t F) s4.sl) ?_; generalize hW8 : World.setCells _ (w.heap.size + 1 + 1 + 1) 0 _ = w8; have HW8 : Hid (_ = w8) := hW8; clear hW8))
    have e8 := HW8.out
    have hF : blk w8 (w.heap.size + 1 + 1 + 1) (hoL (subHo H t F) s4.sl) 35 := by
      rw [← e8]
      have := blk.put [] Z10 [] (hoL (subHo H t F) s4.sl) (w := w1) (b := w.heap.size + 1 + 1 + 1) (T := 35) (by simpa using H4.out.r) (by rw [hoL_len]; rfl)
      simpa using this
    have hL := run_loadVar_mid (P := Tryz.prog) w8 (w.heap.size + 1 + 1 + 1) 0 35 _ _ hF.load Tryz.underlying35 rfl (sz41L (subHo H t F) s4.sl)
    refine bodyPost_ret (v := .agg (hoL (subHo H t F) s4.sl).toArray) (results_cell Tryz.results15 _ w8 (w.heap.size + 1 + 1 + 1) _ rfl hL) rfl ?_
    have oth : ∀ x, x ≠ w.heap.size + 1 + 1 + 1 → w8.heap[x]? = w1.heap[x]? := fun x hx => by rw [← e8]; exact setCells_other _ x hx _ _ _
    have hsz : w8.heap.size = w1.heap.size := by rw [← e8]; exact setCells_size ..
    have hp := toldQ.put (w := w) HZ.out.1 HZ.out.2 HQ.out.1 HQ.out.2.1 oth hsz
    exact Or.inl ⟨HOK.out, s4, rfl, hp.1, hp.2, HQ.out.2.2.1, HQ.out.2.2.2, by rw [← e8]; exact setCells_below (by omega) 0 _ H4.out.b⟩
  · have H4 : Hid (itM w (hoL H s) t [.bool F.e, .int .u32 (F.i : Int), .bool F.r, .int .i64 F.d, .slice fa fm fc] w1) := H0.out.below hb4
    have HOK : Hid (¬ okHo H) := hok
    clear hb4 hok HC H0
    go_wp2_with (first
      | (refine wpList_store_mid (P := Tryz.prog) rfl 35 _ _ rfl (w.heap.size + 1 + 1 + 1) 0 [.int .i64 0, .int .i64 0, .int .i64 0, .int .i64 0, .slice none 0 0, .slice none 0 0, .slice none 0 0, .slice none 0 0, .int .i64 0, .int .i64 0].toArray rfl rfl (H4.out.r.there 0 10 (by simp [Z10])) sz41 (all_oneCell_toArray (by simp [Value.oneCell'])) ?_; generalize hW8 : World.setCells _ (w.heap.size + 1 + 1 + 1) 0 _ = w8; have HW8 : Hid (_ = w8) := hW8; clear hW8))
    have e8 := HW8.out
    have hF : blk w8 (w.heap.size + 1 + 1 + 1) [.int .i64 0, .int .i64 0, .int .i64 0, .int .i64 0, .slice none 0 0, .slice none 0 0, .slice none 0 0, .slice none 0 0, .int .i64 0, .int .i64 0] 35 := by
      rw [← e8]
      have := blk.put [] Z10 [] [.int .i64 0, .int .i64 0, .int .i64 0, .int .i64 0, .slice none 0 0, .slice none 0 0, .slice none 0 0, .slice none 0 0, .int .i64 0, .int .i64 0] (w := w1) (b := w.heap.size + 1 + 1 + 1) (T := 35) (by simpa using H4.out.r) rfl
      simpa using this
    have hL := run_loadVar_mid (P := Tryz.prog) w8 (w.heap.size + 1 + 1 + 1) 0 35 _ _ hF.load Tryz.underlying35 rfl sz41
    refine bodyPost_ret (v := .agg [.int .i64 0, .int .i64 0, .int .i64 0, .int .i64 0, .slice none 0 0, .slice none 0 0, .slice none 0 0, .slice none 0 0, .int .i64 0, .int .i64 0].toArray) (results_cell Tryz.results15 _ w8 (w.heap.size + 1 + 1 + 1) _ rfl hL) rfl ?_
    exact Or.inr ⟨HOK.out, rfl, by rw [← e8]; exact setCells_below (by omega) 0 _ H4.out.b⟩
end Go.Proofs.YtaamahohdnbpiaaGreat
namespace Go.Proofs.YtaamahohdnbpiaaGreat
open Go.RowKit
set_option linter.unusedVariables false
structure lfA (w : World) (H : Ho) (s : Sl) (F : R5) (fa : Option Addr) (fm fc : Nat) (W : World) : Prop where
  p : blk W w.heap.size (hoL H s) 61
  f : blk W (w.heap.size + 1) [.bool F.e, .int .u32 (F.i : Int), .bool F.r, .int .i64 F.d, .slice fa fm fc] 71
  h : isHo W H s
  d : isBytes W fa fm fc F.l
  b : Below w.heap.size w W
theorem lfA.below {w : World} {H : Ho} {s : Sl} {F : R5} {fa : Option Addr} {fm fc : Nat} {W W' : World} (h : lfA w H s F fa fm fc W) (hb : Below W.heap.size W W') : lfA w H s F fa fm fc W' := ⟨h.p.below hb, h.f.below hb, h.h.below hb, h.d.below hb, h.b.trans (hb.mono h.b.size)⟩
theorem lfA.new {w : World} {H : Ho} {s : Sl} {F : R5} {fa : Option Addr} {fm fc : Nat} (h : isHo w H s) (hf : isBytes w fa fm fc F.l) : lfA w H s F fa fm fc ((w.alloc (.cells (hoL H s).toArray 61)).alloc (.cells [.bool F.e, .int .u32 (F.i : Int), .bool F.r, .int .i64 F.d, .slice fa fm fc].toArray 71)) := by
  have hb : Below w.heap.size w ((w.alloc (.cells (hoL H s).toArray 61)).alloc (.cells [.bool F.e, .int .u32 (F.i : Int), .bool F.r, .int .i64 F.d, .slice fa fm fc].toArray 71)) := ((Below.refl _ _).alloc (Nat.le_refl _) _).alloc (by simp) _
  refine ⟨(blk.new w _ 61).alloc _, ?_, h.below hb, hf.below hb, hb⟩
  have := blk.new (w.alloc (.cells (hoL H s).toArray 61)) [.bool F.e, .int .u32 (F.i : Int), .bool F.r, .int .i64 F.d, .slice fa fm fc] 71
  have e : (w.alloc (.cells (hoL H s).toArray 61)).heap.size = w.heap.size + 1 := by simp
  rw [e] at this
  exact this
theorem lfA.put {w : World} {H : Ho} {s : Sl} {F : R5} {fa : Option Addr} {fm fc : Nat} {W : World} (h : lfA w H s F fa fm fc W) (h0 : isHo w H s) (hf : isBytes w fa fm fc F.l) {x : Nat} (hx : w.heap.size + 1 < x) (l : List Value) : lfA w H s F fa fm fc (W.setCells x 0 l) := by
  have hb : Below w.heap.size w (W.setCells x 0 l) := setCells_below (by omega) 0 l h.b
  exact ⟨h.p.other (by omega) _ _, h.f.other (by omega) _ _, h0.below hb, hf.below hb, hb⟩
structure lfS (w : World) (H : Ho) (s : Sl) (F : R5) (fa : Option Addr) (fm fc : Nat) (T : Ho) (bw : Nat) (sw : Sl) (W : World) : Prop where
  a : lfA w H s F fa fm fc W
  q : blk W bw (hoL T sw) 35
  t : isHo W T sw
theorem lfS.below {w : World} {H : Ho} {s : Sl} {F : R5} {fa : Option Addr} {fm fc : Nat} {T : Ho} {bw : Nat} {sw : Sl} {W W' : World} (h : lfS w H s F fa fm fc T bw sw W) (hb : Below W.heap.size W W') : lfS w H s F fa fm fc T bw sw W' := ⟨h.a.below hb, h.q.below hb, h.t.below hb⟩
structure lfX (w : World) (H : Ho) (s : Sl) (F : R5) (fa : Option Addr) (fm fc : Nat) (T : Ho) (bw : Nat) (sw : Sl) (w4 : World) (T5 bx : Nat) (sx : Wh) (W : World) : Prop where
  l : lfS w H s F fa fm fc T bw sw W
  x : blk W bx (hoL H sx.sl) 35
  xh : isHo W H sx.sl
  xw : whS w4.heap.size T5 W sx
  z : bw < w4.heap.size ∧ w.heap.size + 1 < w4.heap.size ∧ w4.heap.size ≤ T5 ∧ T5 ≤ bx
  b4 : Below w4.heap.size w4 W
theorem lfX.below {w : World} {H : Ho} {s : Sl} {F : R5} {fa : Option Addr} {fm fc : Nat} {T : Ho} {bw : Nat} {sw : Sl} {w4 : World} {T5 bx : Nat} {sx : Wh} {W W' : World} (h : lfX w H s F fa fm fc T bw sw w4 T5 bx sx W) (hb : Below W.heap.size W W') : lfX w H s F fa fm fc T bw sw w4 T5 bx sx W' := ⟨h.l.below hb, h.x.below hb, h.xh.below hb, h.xw.same (fun x _ hx => hb.block x (by have := h.x.lt; have := h.z; omega)), h.z, h.b4.trans (hb.mono h.b4.size)⟩
structure lfY (w : World) (H : Ho) (s : Sl) (F : R5) (fa : Option Addr) (fm fc : Nat) (T : Ho) (bw : Nat) (sw : Sl) (w4 : World) (T5 bx : Nat) (sx : Wh) (gx b2 : Nat) (W : World) : Prop where
  y : lfX w H s F fa fm fc T bw sw w4 T5 bx sx W
  f : blk W b2 [.bool F.e, .int .u32 (F.i : Int), .bool F.r, .int .i64 F.d, .slice (some ⟨gx, 0, none⟩) fm fm] 25
  d : isBytes W (some ⟨gx, 0, none⟩) fm fm F.l
  r : rowF W gx fm
  k : bx < gx ∧ gx < b2
theorem lfY.below {w : World} {H : Ho} {s : Sl} {F : R5} {fa : Option Addr} {fm fc : Nat} {T : Ho} {bw : Nat} {sw : Sl} {w4 : World} {T5 bx : Nat} {sx : Wh} {gx b2 : Nat} {W W' : World} (h : lfY w H s F fa fm fc T bw sw w4 T5 bx sx gx b2 W) (hb : Below W.heap.size W W') : lfY w H s F fa fm fc T bw sw w4 T5 bx sx gx b2 W' := ⟨h.y.below hb, h.f.below hb, h.d.below hb, h.r.up (hb.block _ (by have := h.f.lt; have := h.k; omega)), h.k⟩
structure lfG (w : World) (H : Ho) (s : Sl) (F : R5) (fa : Option Addr) (fm fc : Nat) (T : Ho) (bw : Nat) (sw : Sl) (w4 : World) (b2 B6 : Nat) (w7 : World) (bg : Nat) (sg : Sl) (W : World) : Prop where
  l : lfS w H s F fa fm fc T bw sw W
  g : blk W bg (hoL T sg) 35
  k : ∀ x, B6 ≤ x → x < w7.heap.size → W.heap[x]? = w7.heap[x]?
  z : b2 < B6 ∧ B6 ≤ w7.heap.size ∧ w7.heap.size ≤ bg
  y : bw < w4.heap.size ∧ w.heap.size + 1 < w4.heap.size ∧ w4.heap.size ≤ b2
  b4 : Below w4.heap.size w4 W
theorem lfG.below {w : World} {H : Ho} {s : Sl} {F : R5} {fa : Option Addr} {fm fc : Nat} {T : Ho} {bw : Nat} {sw : Sl} {w4 : World} {b2 B6 : Nat} {w7 : World} {bg : Nat} {sg : Sl} {W W' : World} (h : lfG w H s F fa fm fc T bw sw w4 b2 B6 w7 bg sg W) (hb : Below W.heap.size W W') : lfG w H s F fa fm fc T bw sw w4 b2 B6 w7 bg sg W' := ⟨h.l.below hb, h.g.below hb, fun x h1 h2 => (hb.block x (by have := h.g.lt; have := h.z; omega)).trans (h.k x h1 h2), h.z, h.y, h.b4.trans (hb.mono h.b4.size)⟩
end Go.Proofs.YtaamahohdnbpiaaGreat
namespace Go.Proofs.YtaamahohdnbpiaaGreat
open Go.RowKit
set_option linter.unusedVariables false
theorem far.symm {a b : R8} (h : far a b) : far b a := fun h1 h2 => ⟨fun e => (h h2 h1).1 e.symm, fun e => (h h2 h1).2 e.symm⟩
theorem okBxs.far {st : Int} {bx : List R8} (h : okBxs st bx) {i j : Nat} (hi : i < bx.length) (hj : j < bx.length) (hne : i ≠ j) : far bx[i] bx[j] := by
  by_cases e : i < j
  · exact h.2.1 i j hi hj e
  · exact (h.2.1 j i hj hi (by omega)).symm
theorem okBx.up {st st' : Int} {b : R8} (h : okBx st b) (hst : st ≤ st') : okBx st' b := by
  unfold okBx at h ⊢
  split at h
  · rename_i e; rw [if_pos e]; exact h
  · rename_i e; rw [if_neg e]; exact ⟨h.1, h.2.1, ⟨h.2.2.1.1, by omega⟩, h.2.2.2⟩
theorem okBxs.set {st st' : Int} {bx : List R8} (h : okBxs st bx) (hst : st ≤ st') (i : Nat) (hi : i < bx.length) (b : R8) (hb : okBx st' b) (hf : ∀ j (hj : j < bx.length), j ≠ i → Go.Proofs.YtaamahohdnbpiaaGreat.far b bx[j]) (hc : busyN (bx.set i b) ≤ 1) : okBxs st' (bx.set i b) := by
  refine ⟨fun j hj => ?_, fun j k hj hk hjk => ?_, hc⟩
  · rw [List.getElem_set]
    split
    · exact hb
    · exact (h.1 j (by simpa using hj)).up hst
  · rw [List.getElem_set, List.getElem_set]
    have hj' : j < bx.length := by simpa using hj
    have hk' : k < bx.length := by simpa using hk
    split
    · rename_i e
      rw [if_neg (by omega)]
      exact hf k hk' (by omega)
    · split
      · exact (hf j hj' (by omega)).symm
      · exact h.2.1 j k hj' hk' hjk
theorem busyN_set {bx : List R8} {i : Nat} (hi : i < bx.length) (b : R8) : busyN (bx.set i b) = busyN bx - (if (bx[i].x != 0 && bx[i].x != 1) = true then 1 else 0) + (if (b.x != 0 && b.x != 1) = true then 1 else 0) := List.countP_set hi
theorem busyN_pos {bx : List R8} {i : Nat} (hi : i < bx.length) (h : (bx[i].x != 0 && bx[i].x != 1) = true) : 1 ≤ busyN bx := List.countP_pos_iff.2 ⟨_, List.getElem_mem hi, h⟩
theorem loP_ok {c3 : Int} {qu : List R8} {lo : Int} (h : 0 ≤ lo ∧ lo ≤ 100000) : 0 ≤ loP c3 qu lo ∧ loP c3 qu lo ≤ 100000 := by
  unfold loP
  split
  · exact h
  · split
    · omega
    · exact h
theorem okHo.post {H : Ho} (h : okHo H) {ev : R8} (he : okEv ev = true) : okHo (postHo H ev) := by
  refine ⟨h.cf, h.fs, h.nb, h.nf, ?_, ?_, ?_, h.s0, h.s1, h.ff, ?_, h.bx⟩
  · show ((quP H.c3 H.qu ev).length : Int) ≤ H.c3
    have := h.nq
    unfold quP
    split
    · rw [List.length_append, List.length_singleton]; omega
    · exact h.nq
  · exact (loP_ok ⟨h.l0, h.l1⟩).1
  · exact (loP_ok ⟨h.l0, h.l1⟩).2
  · show (quP H.c3 H.qu ev).all okEv = true
    unfold quP
    split
    · rw [List.all_append, h.qu]; simp [he]
    · exact h.qu
theorem okHo.boxes {H : Ho} (h : okHo H) (bx : List R8) (st : Int) (hl : bx.length = H.bx.length) (hb : okBxs st bx) (hs : 0 ≤ st ∧ st ≤ 1000000) : okHo { H with bx := bx, st := st } :=
  ⟨h.cf, h.fs, by rw [hl]; exact h.nb, h.nf, h.nq, h.l0, h.l1, hs.1, hs.2, h.ff, h.qu, hb⟩
theorem z8_ok (st : Int) : okBx st z8 := by
  unfold okBx
  rw [if_pos rfl]
  exact ⟨rfl, rfl, rfl, rfl, rfl, rfl, rfl⟩
theorem okHo.free {H : Ho} (h : okHo H) (k : Nat) : okHo (freeHo H k) := by
  by_cases hk : k < H.bx.length
  · refine h.boxes (H.bx.set k z8) H.st (by simp) (h.bx.set (Int.le_refl _) k hk z8 (z8_ok _) (fun j hj _ h1 _ => absurd rfl h1) ?_) ⟨h.s0, h.s1⟩
    rw [busyN_set hk]
    have := h.bx.2.2
    have e : (z8.x != 0 && z8.x != 1) = false := rfl
    rw [e]
    simp only [Bool.false_eq_true, if_false]
    omega
  · have e : H.bx.set k z8 = H.bx := List.set_eq_of_length_le (by omega)
    unfold freeHo
    rw [e]
    exact h
theorem okHo.state {H : Ho} (h : okHo H) (k : Nat) (hk : k < H.bx.length) (hx : H.bx[k].x ≠ 0) (v : Int) (hv : 1 ≤ v ∧ v ≤ 3) (hb : v = 1 ∨ (H.bx[k].x != 0 && H.bx[k].x != 1) = true ∨ busyN H.bx = 0) : okHo (stHo H k v) := by
  unfold stHo
  rw [dif_pos hk]
  have hbk := h.bx.1 k hk
  unfold okBx at hbk
  rw [if_neg hx] at hbk
  refine h.boxes _ H.st (by simp) (h.bx.set (Int.le_refl _) k hk _ ?_ (fun j hj hne => ?_) ?_) ⟨h.s0, h.s1⟩
  · unfold okBx
    rw [if_neg (by show ¬ v = 0; omega)]
    exact ⟨hv, hbk.2⟩
  · have := h.bx.far hk hj (fun e => hne e.symm)
    exact fun _ h2 => this hx h2
  · rw [busyN_set hk]
    have hn := h.bx.2.2
    rcases hb with rfl | e | e
    · have : (({ H.bx[k] with x := 1 } : R8).x != 0 && ({ H.bx[k] with x := 1 } : R8).x != 1) = false := rfl
      rw [this]
      simp only [Bool.false_eq_true, if_false]
      omega
    · rw [if_pos e]
      have := busyN_pos hk e
      split <;> omega
    · rw [e]
      split <;> split <;> omega
theorem tag_ev {x y z : Int} (hx : 1 ≤ x ∧ x ≤ 12) (hy : 0 ≤ y ∧ y ≤ 9999) (hz : 0 ≤ z ∧ z ≤ 9) : okEv (ev3 x y z) = true := by
  unfold okEv
  rw [Bool.and_eq_true]
  exact ⟨decide_eq_true ⟨hx, hy, hz⟩, rfl⟩
theorem okHo.sub {H : Ho} (h : okHo H) (t : Int) (F : R5) : okHo (subHo H t F) := by
  unfold subHo
  by_cases h1 : 0 ≤ t ∧ t ≤ 9999
  · rw [if_neg (fun e => e h1)]
    by_cases h2 : validB F.e F.i F.r F.d F.l.length = false
    · rw [if_pos h2]; exact h.post (tag_ev (by omega) (by omega) (by omega))
    · rw [if_neg h2]
      have hv : validB F.e F.i F.r F.d F.l.length = true := by simpa using h2
      by_cases h3 : tagIx H.bx t < H.bx.length
      · rw [if_pos h3]; exact h.post (tag_ev (by omega) (by omega) (by omega))
      · rw [if_neg h3]
        by_cases h4 : H.st = 1000000
        · rw [if_pos h4]; exact h.post (tag_ev (by omega) (by omega) (by omega))
        · rw [if_neg h4]
          by_cases h5 : freeIx H.bx < H.bx.length
          · rw [if_pos h5]
            have hs0 := h.s0
            have hs1 := h.s1
            have hfx : H.bx[freeIx H.bx].x = 0 := by
              have : (H.bx[freeIx H.bx].x == 0) = true := List.findIdx_getElem (w := h5)
              simpa using this
            refine h.boxes _ (H.st + 1) (by simp) (h.bx.set (by omega) _ h5 _ ?_ (fun j hj hne _ hj0 => ?_) ?_) ⟨by omega, by omega⟩
            · unfold okBx
              rw [if_neg (by show ¬ (1 : Int) = 0; decide)]
              exact ⟨⟨by show (1 : Int) ≤ 1; decide, by show (1 : Int) ≤ 3; decide⟩, h1, ⟨hs0, by show H.st < H.st + 1; omega⟩, hv⟩
            · have hj1 := h.bx.1 j hj
              unfold okBx at hj1
              rw [if_neg hj0] at hj1
              refine ⟨fun e => h3 ?_, fun e => by have e' : H.st = H.bx[j].z := e; omega⟩
              have e' : t = H.bx[j].y := e
              unfold tagIx
              exact List.findIdx_lt_length_of_exists ⟨H.bx[j], List.getElem_mem hj, by unfold tagBb; simp [hj0, e'.symm]⟩
            · rw [busyN_set h5]
              have hn := h.bx.2.2
              rw [hfx]
              simp
              omega
          · rw [if_neg h5]; exact h.post (tag_ev (by omega) (by omega) (by omega))
  · rw [if_pos h1]; exact h.post (tag_ev (by omega) (by omega) (by omega))
theorem okHo.take {H : Ho} (h : okHo H) (i : Int) : okHo (takeHo H i) := by
  unfold takeHo takeB
  by_cases h1 : 0 ≤ i ∧ i < (H.bx.length : Int)
  · rw [dif_pos h1]
    by_cases h2 : (H.bx[i.toNat]'(by omega)).x = 1 ∧ (∀ b ∈ H.bx, ¬ (b.x = 2 ∨ b.x = 3))
    · rw [if_pos h2]
      have hk : i.toNat < H.bx.length := by omega
      have hz : busyN H.bx = 0 := by
        unfold busyN
        rw [List.countP_eq_zero]
        intro b hb hbb
        obtain ⟨j, hj, rfl⟩ := List.getElem_of_mem hb
        have hj1 := h.bx.1 j hj
        have := h2.2 _ hb
        simp at hbb
        unfold okBx at hj1
        rw [if_neg hbb.1] at hj1
        omega
      have := h.state i.toNat hk (by rw [h2.1]; decide) 2 (by omega) (Or.inr (Or.inr hz))
      unfold stHo at this
      rw [dif_pos hk] at this
      exact this
    · rw [if_neg h2]; exact h
  · rw [dif_neg h1]; exact h
theorem wire_at {bx : List R8} (h : wireIx bx < bx.length) : bx[wireIx bx].x = 2 ∨ bx[wireIx bx].x = 3 := by
  have : onWb bx[wireIx bx] = true := List.findIdx_getElem (w := h)
  unfold onWb at this
  simpa using this
theorem okHo.rel {H : Ho} (h : okHo H) (sent : Bool) : okHo (relHo H sent) := by
  unfold relHo
  split
  · rename_i hw
    have hx := wire_at hw
    have hb := h.bx.1 _ hw
    unfold okBx at hb
    rw [if_neg (by omega)] at hb
    split
    · refine (h.free _).post ?_
      unfold okEv
      rw [Bool.and_eq_true]
      exact ⟨decide_eq_true ⟨⟨by show (1 : Int) ≤ 1; decide, by show (1 : Int) ≤ 12; decide⟩, hb.2.1, ⟨by show (0 : Int) ≤ 0; decide, by show (0 : Int) ≤ 9; decide⟩⟩, hb.2.2.2⟩
    · split
      · exact (h.free _).post (tag_ev (by omega) hb.2.1 (by omega))
      · exact h.state _ hw (by omega) 1 (by omega) (Or.inl rfl)
  · exact h
theorem okHo.new {m : Nat} {b c d : Int} (h : okCf m b c d = true) : okHo ⟨m, b, c, d, [], List.replicate m bx0, [], [], 0, 0⟩ := by
  have hc := of_decide_eq_true h
  refine ⟨h, rfl, by simp, by show ((0 : Nat) : Int) ≤ b; omega, by show ((0 : Nat) : Int) ≤ d; omega, by show (0 : Int) ≤ 0; decide, by show (0 : Int) ≤ 100000; decide, by show (0 : Int) ≤ 0; decide, by show (0 : Int) ≤ 1000000; decide, rfl, rfl, fun j hj => ?_, fun i j hi hj _ h1 => ?_, ?_⟩
  · rw [List.getElem_replicate]
    exact z8_ok _
  · rw [List.getElem_replicate] at h1
    exact absurd rfl h1
  · unfold busyN
    rw [List.countP_replicate]
    simp [bx0]
end Go.Proofs.YtaamahohdnbpiaaGreat
namespace Go.Proofs.YtaamahohdnbpiaaGreat
open Go.RowKit
set_option linter.unusedVariables false
set_option maxHeartbeats 8000000 in
set_option maxRecDepth 20000 in
theorem changed63 (w : World) (H : Ho) (s : Sl) (Bx : Nat) (sent : Bool) (h : isHo w H s) (hs : slSome s) (hn : H.le 1048576) (yb : w.cell? ⟨Bx, 0, none⟩ = some (.bool sent)) :
    Calls Tryz.prog 56 #[.agg (hoL H s).toArray, .func (.func 63) #[] #[.pointer (some ⟨Bx, 0, none⟩)]] w fun o w' => (okHo H ∧ toldQ w (relHo H sent) o w') ∨ (¬ okHo H ∧ o = .returned (.agg [.int .i64 0, .int .i64 0, .int .i64 0, .int .i64 0, .slice none 0 0, .slice none 0 0, .slice none 0 0, .slice none 0 0, .int .i64 0, .int .i64 0].toArray) ∧ Below w.heap.size w w') := by
  have H0 : Hid (dtS w H s ((w.alloc (.cells (hoL H s).toArray 35)).alloc (.cells [.int .i64 0, .int .i64 0, .int .i64 0, .int .i64 0, .slice none 0 0, .slice none 0 0, .slice none 0 0, .slice none 0 0, .int .i64 0, .int .i64 0].toArray 35))) := dtS.new w H s
  have HYB : Hid (∀ W, Below w.heap.size w W → W.cell? ⟨Bx, 0, none⟩ = some (.bool sent)) := fun W hW => (hW.cell (by exact World.block_lt_of_cell? w _ yb)).trans yb
  clear yb
  by_cases hok : okHo H
  · have HV : Hid (∀ W, Below w.heap.size w W → Calls Tryz.prog 60 #[.agg (hoL H s).toArray] W fun o w' => o = .returned (.bool true) ∧ Below W.heap.size W w') := fun W hW => vOk W H s (h.below hW) hn hok
    have HO : Hid (∀ W, Below w.heap.size w W → Calls Tryz.prog 61 #[.agg (hoL H s).toArray] W fun o w' => ∃ P, o = .returned (.pointer (some ⟨P, 0, none⟩)) ∧ Below W.heap.size W w' ∧ Calls Tryz.prog 63 #[.pointer (some ⟨P, 0, none⟩), .pointer (some ⟨Bx, 0, none⟩)] w' fun o w2 => o = .returned (.tuple #[]) ∧ Below W.heap.size W w2 ∧ Calls Tryz.prog 118 #[.pointer (some ⟨P, 0, none⟩)] w2 (toldQ w2 (relHo H sent))) := fun W hW => open_release W H s Bx sent (h.below hW) hs hok hn (HYB.out W hW)
    have HOK : Hid (okHo H) := hok
    clear h hn hok hs
    go_enter Tryz.func56, Tryz.ntmps56
    go_wp2_with (first
      | (refine wpList_load_mid (P := Tryz.prog) rfl 35 _ rfl w.heap.size 0 rfl (hoL H s) _ H0.out.p.load Tryz.underlying35 rfl (sz41L H s) ?_))
    refine (HV.out _ H0.out.b).mono ?_
    rintro o w1 ⟨rfl, hb1⟩
    have H1 : Hid (dtS w H s w1) := H0.out.below hb1
    clear H0 hb1
    go_wp2_with (first
      | (refine wpList_load_mid (P := Tryz.prog) rfl 35 _ rfl w.heap.size 0 rfl (hoL H s) _ H1.out.p.load Tryz.underlying35 rfl (sz41L H s) ?_))
    refine (HO.out _ H1.out.b).mono ?_
    rintro o w2 ⟨P, rfl, hb2, hc2⟩
    have HC2 : Hid (Calls Tryz.prog 63 #[.pointer (some ⟨P, 0, none⟩), .pointer (some ⟨Bx, 0, none⟩)] w2 fun o w3 => o = .returned (.tuple #[]) ∧ Below w1.heap.size w1 w3 ∧ Calls Tryz.prog 118 #[.pointer (some ⟨P, 0, none⟩)] w3 (toldQ w3 (relHo H sent))) := hc2
    clear hc2 hb2
    go_wp2_with fail
    refine (Calls.mono HC2.out) ?_
    rintro o w3 ⟨rfl, hb3, hc3⟩
    have H3 : Hid (dtS w H s w3) := H1.out.below hb3
    have HC3 : Hid (Calls Tryz.prog 118 #[.pointer (some ⟨P, 0, none⟩)] w3 (toldQ w3 (relHo H sent))) := hc3
    clear hc3 hb3 HC2 H1
    go_wp2_with fail
    refine (Calls.mono HC3.out) ?_
    rintro o w4 ⟨s4, rfl, q1, q2, q3, q4, hb4⟩
    have H4 : Hid (dtS w H s w4) := H3.out.below hb4
    have HQ : Hid (St w3.heap.size w4 (fun W => isHo W (relHo H sent) s4.sl) ∧ whS w3.heap.size w4.heap.size w4 s4 ∧ whD s4 ∧ whE s4) := ⟨q1, q2, q3, q4⟩
    clear q1 q2 q3 q4 hb4 HC3
    go_wp2_with (first
      | (refine wpList_store_mid (P := Tryz.prog) rfl 35 (.tmp 4) _ rfl (w.heap.size + 1) 0 (hoL (relHo H sent) s4.sl).toArray rfl rfl (H4.out.r.there 0 _ (by rw [List.size_toArray, hoL_len]; decide)) (sz41A (relHo H sent) s4.sl) (hoL_one (relHo H sent) s4.sl) ?_; generalize hW8 : World.setCells _ (w.heap.size + 1) 0 _ = w8; have HW8 : Hid (_ = w8) := hW8; clear hW8))
    have e8 := HW8.out
    have hF : blk w8 (w.heap.size + 1) (hoL (relHo H sent) s4.sl) 35 := by
      rw [← e8]
      have := blk.put [] Z10 [] (hoL (relHo H sent) s4.sl) (w := w4) (b := w.heap.size + 1) (T := 35) (by simpa using H4.out.r) (by rw [hoL_len]; rfl)
      simpa using this
    have hL := run_loadVar_mid (P := Tryz.prog) w8 (w.heap.size + 1) 0 35 _ _ hF.load Tryz.underlying35 rfl (sz41L (relHo H sent) s4.sl)
    refine bodyPost_ret (v := .agg (hoL (relHo H sent) s4.sl).toArray) (results_cell Tryz.results56 _ w8 (w.heap.size + 1) _ rfl hL) rfl ?_
    have oth : ∀ x, x ≠ w.heap.size + 1 → w8.heap[x]? = w4.heap[x]? := fun x hx => by rw [← e8]; exact setCells_other _ x hx _ _ _
    have hsz : w8.heap.size = w4.heap.size := by rw [← e8]; exact setCells_size ..
    have hp := toldQ.put (w := w) H3.out.b.size H3.out.r.lt HQ.out.1 HQ.out.2.1 oth hsz
    exact Or.inl ⟨HOK.out, s4, rfl, hp.1, hp.2, HQ.out.2.2.1, HQ.out.2.2.2, by rw [← e8]; exact setCells_below (by omega) 0 _ H4.out.b⟩
  · have HV : Hid (∀ W, Below w.heap.size w W → Calls Tryz.prog 60 #[.agg (hoL H s).toArray] W fun o w' => o = .returned (.bool false) ∧ Below W.heap.size W w') := fun W hW => vBad W H s (h.below hW) hn hok
    have HOK : Hid (¬ okHo H) := hok
    clear h hn hok hs
    go_enter Tryz.func56, Tryz.ntmps56
    go_wp2_with (first
      | (refine wpList_load_mid (P := Tryz.prog) rfl 35 _ rfl w.heap.size 0 rfl (hoL H s) _ H0.out.p.load Tryz.underlying35 rfl (sz41L H s) ?_))
    refine (HV.out _ H0.out.b).mono ?_
    rintro o w1 ⟨rfl, hb1⟩
    have H1 : Hid (dtS w H s w1) := H0.out.below hb1
    clear H0 hb1
    go_wp2_with (first
      | (refine wpList_store_mid (P := Tryz.prog) rfl 35 (.tmp 4) _ rfl (w.heap.size + 1) 0 [.int .i64 0, .int .i64 0, .int .i64 0, .int .i64 0, .slice none 0 0, .slice none 0 0, .slice none 0 0, .slice none 0 0, .int .i64 0, .int .i64 0].toArray rfl rfl (H1.out.r.there 0 10 (by simp [Z10])) sz41 (all_oneCell_toArray (by simp [Value.oneCell'])) ?_; generalize hW8 : World.setCells _ (w.heap.size + 1) 0 _ = w8; have HW8 : Hid (_ = w8) := hW8; clear hW8))
    have e8 := HW8.out
    have hF : blk w8 (w.heap.size + 1) [.int .i64 0, .int .i64 0, .int .i64 0, .int .i64 0, .slice none 0 0, .slice none 0 0, .slice none 0 0, .slice none 0 0, .int .i64 0, .int .i64 0] 35 := by
      rw [← e8]
      have := blk.put [] Z10 [] [.int .i64 0, .int .i64 0, .int .i64 0, .int .i64 0, .slice none 0 0, .slice none 0 0, .slice none 0 0, .slice none 0 0, .int .i64 0, .int .i64 0] (w := w1) (b := w.heap.size + 1) (T := 35) (by simpa using H1.out.r) rfl
      simpa using this
    have hL := run_loadVar_mid (P := Tryz.prog) w8 (w.heap.size + 1) 0 35 _ _ hF.load Tryz.underlying35 rfl sz41
    refine bodyPost_ret (v := .agg [.int .i64 0, .int .i64 0, .int .i64 0, .int .i64 0, .slice none 0 0, .slice none 0 0, .slice none 0 0, .slice none 0 0, .int .i64 0, .int .i64 0].toArray) (results_cell Tryz.results56 _ w8 (w.heap.size + 1) _ rfl hL) rfl ?_
    exact Or.inr ⟨HOK.out, rfl, by rw [← e8]; exact setCells_below (by omega) 0 _ H1.out.b⟩
structure itR (w : World) (H : Ho) (s : Sl) (sent : Bool) (W : World) : Prop where
  p : blk W w.heap.size (hoL H s) 35
  x : blk W (w.heap.size + 1) [.bool sent] 4
  r : blk W (w.heap.size + 1 + 1) Z10 35
  b : Below w.heap.size w W
theorem itR.below {w : World} {H : Ho} {s : Sl} {sent : Bool} {W W' : World} (h : itR w H s sent W) (hb : Below W.heap.size W W') : itR w H s sent W' := ⟨h.p.below hb, h.x.below hb, h.r.below hb, h.b.trans (hb.mono h.b.size)⟩
theorem itR.new (w : World) (H : Ho) (s : Sl) (sent : Bool) : itR w H s sent (((w.alloc (.cells (hoL H s).toArray 35)).alloc (.cells #[.bool sent] 4)).alloc (.cells [.int .i64 0, .int .i64 0, .int .i64 0, .int .i64 0, .slice none 0 0, .slice none 0 0, .slice none 0 0, .slice none 0 0, .int .i64 0, .int .i64 0].toArray 35)) := by
  refine ⟨((blk.new w _ 35).alloc _).alloc _, ?_, ?_, (((Below.refl _ _).alloc (Nat.le_refl _) _).alloc (by simp) _).alloc (by simp; omega) _⟩
  · have := (blk.new (w.alloc (.cells (hoL H s).toArray 35)) [.bool sent] 4).alloc (.cells [.int .i64 0, .int .i64 0, .int .i64 0, .int .i64 0, .slice none 0 0, .slice none 0 0, .slice none 0 0, .slice none 0 0, .int .i64 0, .int .i64 0].toArray 35)
    simpa using this
  · have := blk.new ((w.alloc (.cells (hoL H s).toArray 35)).alloc (.cells #[.bool sent] 4)) Z10 35
    have e : ((w.alloc (.cells (hoL H s).toArray 35)).alloc (.cells #[.bool sent] 4)).heap.size = w.heap.size + 1 + 1 := by simp
    rw [e] at this
    exact this
set_option maxHeartbeats 8000000 in
set_option maxRecDepth 20000 in
theorem implRelease_any (w : World) (H : Ho) (s : Sl) (sent : Bool) (h : isHo w H s) (hs : slSome s) (hn : H.le 1048576) :
    Calls Tryz.prog 18 #[.agg (hoL H s).toArray, .bool sent] w fun o w' => (okHo H ∧ toldQ w (relHo H sent) o w') ∨ (¬ okHo H ∧ o = .returned (.agg [.int .i64 0, .int .i64 0, .int .i64 0, .int .i64 0, .slice none 0 0, .slice none 0 0, .slice none 0 0, .slice none 0 0, .int .i64 0, .int .i64 0].toArray) ∧ Below w.heap.size w w') := by
  have H0 : Hid (itR w H s sent (((w.alloc (.cells (hoL H s).toArray 35)).alloc (.cells #[.bool sent] 4)).alloc (.cells [.int .i64 0, .int .i64 0, .int .i64 0, .int .i64 0, .slice none 0 0, .slice none 0 0, .slice none 0 0, .slice none 0 0, .int .i64 0, .int .i64 0].toArray 35))) := itR.new w H s sent
  have HC : Hid (∀ W, itR w H s sent W → Calls Tryz.prog 56 #[.agg (hoL H s).toArray, .func (.func 63) #[] #[.pointer (some ⟨w.heap.size + 1, 0, none⟩)]] W fun o w' => (okHo H ∧ toldQ W (relHo H sent) o w') ∨ (¬ okHo H ∧ o = .returned (.agg [.int .i64 0, .int .i64 0, .int .i64 0, .int .i64 0, .slice none 0 0, .slice none 0 0, .slice none 0 0, .slice none 0 0, .int .i64 0, .int .i64 0].toArray) ∧ Below W.heap.size W w')) := fun W hW => changed63 W H s (w.heap.size + 1) sent (h.below hW.b) hs hn (hW.x.cell 0 _ rfl)
  have hmf : ∀ (fn : Fn) (first cap : Array Value) (w : World), (Instr.makeFunc fn first cap).run Tryz.prog w = .ok (.func fn first cap) w := fun _ _ _ _ => rfl
  clear h hn hs
  go_enter Tryz.func18, Tryz.ntmps18
  go_wp2_with (first
    | (refine wpList_load_mid (P := Tryz.prog) rfl 35 _ rfl w.heap.size 0 rfl (hoL H s) _ H0.out.p.load Tryz.underlying35 rfl (sz41L H s) ?_))
  refine (HC.out _ H0.out).mono ?_
  rintro o w1 (⟨hok, s4, rfl, q1, q2, q3, q4, hb4⟩ | ⟨hok, rfl, hb4⟩)
  · have H4 : Hid (itR w H s sent w1) := H0.out.below hb4
    have HQ : Hid (St (((w.alloc (.cells (hoL H s).toArray 35)).alloc (.cells #[.bool sent] 4)).alloc (.cells [.int .i64 0, .int .i64 0, .int .i64 0, .int .i64 0, .slice none 0 0, .slice none 0 0, .slice none 0 0, .slice none 0 0, .int .i64 0, .int .i64 0].toArray 35)).heap.size w1 (fun W => isHo W (relHo H sent) s4.sl) ∧ whS (((w.alloc (.cells (hoL H s).toArray 35)).alloc (.cells #[.bool sent] 4)).alloc (.cells [.int .i64 0, .int .i64 0, .int .i64 0, .int .i64 0, .slice none 0 0, .slice none 0 0, .slice none 0 0, .slice none 0 0, .int .i64 0, .int .i64 0].toArray 35)).heap.size w1.heap.size w1 s4 ∧ whD s4 ∧ whE s4) := ⟨q1, q2, q3, q4⟩
    have HOK : Hid (okHo H) := hok
    have HZ : Hid (w.heap.size ≤ (((w.alloc (.cells (hoL H s).toArray 35)).alloc (.cells #[.bool sent] 4)).alloc (.cells [.int .i64 0, .int .i64 0, .int .i64 0, .int .i64 0, .slice none 0 0, .slice none 0 0, .slice none 0 0, .slice none 0 0, .int .i64 0, .int .i64 0].toArray 35)).heap.size ∧ w.heap.size + 1 + 1 < (((w.alloc (.cells (hoL H s).toArray 35)).alloc (.cells #[.bool sent] 4)).alloc (.cells [.int .i64 0, .int .i64 0, .int .i64 0, .int .i64 0, .slice none 0 0, .slice none 0 0, .slice none 0 0, .slice none 0 0, .int .i64 0, .int .i64 0].toArray 35)).heap.size) := ⟨H0.out.b.size, H0.out.r.lt⟩
    clear q1 q2 q3 q4 hb4 hok HC H0
    go_wp2_with (first
      | (refine wpList_store_mid (P := Tryz.prog) rfl 35 (.tmp 4) _ rfl (w.heap.size + 1 + 1) 0 (hoL (relHo H sent) s4.sl).toArray rfl rfl (H4.out.r.there 0 _ (by rw [List.size_toArray, hoL_len]; decide)) (sz41A (relHo H sent) s4.sl) (hoL_one (relHo H sent) s4.sl) ?_; generalize hW8 : World.setCells _ (w.heap.size + 1 + 1) 0 _ = w8; have HW8 : Hid (_ = w8) := hW8; clear hW8))
    have e8 := HW8.out
    have hF : blk w8 (w.heap.size + 1 + 1) (hoL (relHo H sent) s4.sl) 35 := by
      rw [← e8]
      have := blk.put [] Z10 [] (hoL (relHo H sent) s4.sl) (w := w1) (b := w.heap.size + 1 + 1) (T := 35) (by simpa using H4.out.r) (by rw [hoL_len]; rfl)
      simpa using this
    have hL := run_loadVar_mid (P := Tryz.prog) w8 (w.heap.size + 1 + 1) 0 35 _ _ hF.load Tryz.underlying35 rfl (sz41L (relHo H sent) s4.sl)
    refine bodyPost_ret (v := .agg (hoL (relHo H sent) s4.sl).toArray) (results_cell Tryz.results18 _ w8 (w.heap.size + 1 + 1) _ rfl hL) rfl ?_
    have oth : ∀ x, x ≠ w.heap.size + 1 + 1 → w8.heap[x]? = w1.heap[x]? := fun x hx => by rw [← e8]; exact setCells_other _ x hx _ _ _
    have hsz : w8.heap.size = w1.heap.size := by rw [← e8]; exact setCells_size ..
    have hp := toldQ.put (w := w) HZ.out.1 HZ.out.2 HQ.out.1 HQ.out.2.1 oth hsz
    exact Or.inl ⟨HOK.out, s4, rfl, hp.1, hp.2, HQ.out.2.2.1, HQ.out.2.2.2, by rw [← e8]; exact setCells_below (by omega) 0 _ H4.out.b⟩
  · have H4 : Hid (itR w H s sent w1) := H0.out.below hb4
    have HOK : Hid (¬ okHo H) := hok
    clear hb4 hok HC H0
    go_wp2_with (first
      | (refine wpList_store_mid (P := Tryz.prog) rfl 35 (.tmp 4) _ rfl (w.heap.size + 1 + 1) 0 [.int .i64 0, .int .i64 0, .int .i64 0, .int .i64 0, .slice none 0 0, .slice none 0 0, .slice none 0 0, .slice none 0 0, .int .i64 0, .int .i64 0].toArray rfl rfl (H4.out.r.there 0 10 (by simp [Z10])) sz41 (all_oneCell_toArray (by simp [Value.oneCell'])) ?_; generalize hW8 : World.setCells _ (w.heap.size + 1 + 1) 0 _ = w8; have HW8 : Hid (_ = w8) := hW8; clear hW8))
    have e8 := HW8.out
    have hF : blk w8 (w.heap.size + 1 + 1) [.int .i64 0, .int .i64 0, .int .i64 0, .int .i64 0, .slice none 0 0, .slice none 0 0, .slice none 0 0, .slice none 0 0, .int .i64 0, .int .i64 0] 35 := by
      rw [← e8]
      have := blk.put [] Z10 [] [.int .i64 0, .int .i64 0, .int .i64 0, .int .i64 0, .slice none 0 0, .slice none 0 0, .slice none 0 0, .slice none 0 0, .int .i64 0, .int .i64 0] (w := w1) (b := w.heap.size + 1 + 1) (T := 35) (by simpa using H4.out.r) rfl
      simpa using this
    have hL := run_loadVar_mid (P := Tryz.prog) w8 (w.heap.size + 1 + 1) 0 35 _ _ hF.load Tryz.underlying35 rfl sz41
    refine bodyPost_ret (v := .agg [.int .i64 0, .int .i64 0, .int .i64 0, .int .i64 0, .slice none 0 0, .slice none 0 0, .slice none 0 0, .slice none 0 0, .int .i64 0, .int .i64 0].toArray) (results_cell Tryz.results18 _ w8 (w.heap.size + 1 + 1) _ rfl hL) rfl ?_
    exact Or.inr ⟨HOK.out, rfl, by rw [← e8]; exact setCells_below (by omega) 0 _ H4.out.b⟩
end Go.Proofs.YtaamahohdnbpiaaGreat
namespace Go.Proofs.YtaamahohdnbpiaaGreat
open Go.RowKit
set_option linter.unusedVariables false
theorem valid_len {e : Bool} {i : Nat} {r : Bool} {d : Int} {n : Nat} (h : validB e i r d n = true) : n ≤ 8 := by
  unfold validB dl at h
  simp at h
  have h1 := h.2
  split at h1
  · omega
  · split at h1 <;> omega
theorem okBx.len {st : Int} {b : R8} (h : okBx st b) : b.l.length ≤ 8 := by
  unfold okBx at h
  split at h
  · have := h.2.2.2.2.2.2; omega
  · exact valid_len h.2.2.2
theorem okHo.le {H : Ho} (h : okHo H) : H.le 1048576 := by
  have hc := of_decide_eq_true h.cf
  have hb := h.nb
  have hf := h.nf
  have hq := h.nq
  have hfs : H.fs.length ≤ 16 := by
    have := h.fs
    unfold okFs at this
    simp at this
    exact this.1
  refine ⟨by omega, by omega, by omega, by omega, fun j hj => ?_, fun j hj => ?_, fun j hj => ?_⟩
  · have := (h.bx.1 j hj).len; omega
  · have := List.all_eq_true.1 h.ff _ (List.getElem_mem hj)
    unfold okFr at this
    have := valid_len this
    omega
  · have := List.all_eq_true.1 h.qu _ (List.getElem_mem hj)
    unfold okEv at this
    rw [Bool.and_eq_true] at this
    have := valid_len this.2
    omega
def hostQ (w : World) (T : Ho) (o : Ending) (w' : World) : Prop := ∃ s, o = .returned (.agg (hoL T s).toArray) ∧ St w.heap.size w' (fun V => isHo V T s) ∧ slSome s ∧ Below w.heap.size w w'
theorem toldQ.host {w : World} {T : Ho} {o : Ending} {w' : World} (h : toldQ w T o w') (hp : 0 < T.bx.length) : hostQ w T o w' := by
  obtain ⟨s, rfl, q1, q2, q3, q4, hb⟩ := h
  have hi := q1.now
  refine ⟨s.sl, rfl, q1, ⟨⟨_, rfl⟩, ?_⟩, hb⟩
  rcases q2.x with ⟨_, e, _⟩ | ⟨g, e, _⟩
  · have : s.n2 = T.bx.length := hi.bx.len
    omega
  · exact ⟨g, e⟩
theorem cSub (w : World) (H : Ho) (s : Sl) (t : Int) (F : R5) (fa : Option Addr) (fm fc : Nat) (hok : okHo H) (h : isHo w H s) (hs : slSome s) (hf : isBytes w fa fm fc F.l) (hfm : fm ≤ 1048576) (hwt : (Lit.int .i64 t).wf = true) :
    Calls Tryz.prog 15 #[.agg (hoL H s).toArray, .int .i64 t, frV F.e F.i F.r F.d fa fm fc] w (hostQ w (subHo H t F)) := by
  refine (implSubmit_any w H s t F fa fm fc h hs hok.le hf hfm hwt).mono ?_
  rintro o w' (⟨_, h1⟩ | ⟨h1, _⟩)
  · exact h1.host (hok.sub t F).pos
  · exact absurd hok h1
theorem cTake (w : World) (H : Ho) (s : Sl) (i : Int) (hok : okHo H) (h : isHo w H s) (hs : slSome s) :
    Calls Tryz.prog 19 #[.agg (hoL H s).toArray, .int .i64 i] w (hostQ w (takeHo H i)) := by
  refine (implTake_any w H s i h hs hok.le).mono ?_
  rintro o w' (⟨_, h1⟩ | ⟨h1, _⟩)
  · exact h1.host (hok.take i).pos
  · exact absurd hok h1
theorem cRel (w : World) (H : Ho) (s : Sl) (sent : Bool) (hok : okHo H) (h : isHo w H s) (hs : slSome s) :
    Calls Tryz.prog 18 #[.agg (hoL H s).toArray, .bool sent] w (hostQ w (relHo H sent)) := by
  refine (implRelease_any w H s sent h hs hok.le).mono ?_
  rintro o w' (⟨_, h1⟩ | ⟨h1, _⟩)
  · exact h1.host (hok.rel sent).pos
  · exact absurd hok h1
theorem cBest (w : World) (H : Ho) (s : Sl) (hok : okHo H) (h : isHo w H s) (hs : slSome s) :
    Calls Tryz.prog 17 #[.agg (hoL H s).toArray] w fun o w' => ∃ r, o = .returned (.int .i64 r) ∧ bestR H.bx r ∧ Below w.heap.size w w' := by
  refine (implBest_any w H s h hs hok.le).mono ?_
  rintro o w' ⟨r, rfl, h1, h2⟩
  rcases h1 with ⟨_, h1⟩ | ⟨h1, _⟩
  · exact ⟨r, rfl, h1, h2⟩
  · exact absurd hok h1
theorem cDrain (w : World) (H : Ho) (s : Sl) (hok : okHo H) (h : isHo w H s) (hs : slSome s) :
    Calls Tryz.prog 20 #[.agg (hoL H s).toArray] w fun o w' => ∃ s' a c, o = .returned (.tuple #[.agg (hoL (qHo H []) s').toArray, .slice a H.qu.length c]) ∧ St w.heap.size w' (fun V => isHo V (qHo H []) s') ∧ slSome s' ∧ (H.qu ≠ [] → H.qu.length ≤ c ∧ ∃ g, a = some ⟨g, 0, none⟩ ∧ ∀ j (hj : j < H.qu.length), ∃ ao m k, at8 w' g (j * 8) H.qu[j] ao m k) ∧ Below w.heap.size w w' := by
  refine (implDrain_any w H s h hs hok.le).mono ?_
  rintro o w' (⟨_, s4, a, c, he, C, rfl, hC, hC2, q1, q2, q3, q4, q5, hb⟩ | ⟨h1, _⟩)
  · have hi := q1.now
    refine ⟨s4.sl, a, c, rfl, fun V hV => q1 V (fun x h1 h2 => hV x (by omega) h2), ⟨⟨_, rfl⟩, ?_⟩, fun hne => ⟨q5.is.cap, ?_⟩, hb⟩
    · rcases q2.x with ⟨_, e, _⟩ | ⟨g, e, _⟩
      · have : s4.n2 = H.bx.length := hi.bx.len
        have := hok.pos
        omega
      · exact ⟨g, e⟩
    · obtain ⟨g, off, e, hc⟩ := q5.is.cells hne
      rcases q5.sx with ⟨e', _⟩ | ⟨g', e', _⟩
      · rw [e'] at e; cases e
      · rw [e'] at e
        cases e
        exact ⟨g, e', fun j hj => by have := hc j hj; rw [Nat.zero_add] at this; exact this⟩
  · exact absurd hok h1
theorem cNew (w : World) (m : Nat) (b c d : Int) (g : Nat) (h : okCf m b c d = true) :
    Calls Tryz.prog 14 #[cfV m b c d, .slice (some ⟨g, 0, none⟩) 0 0] w fun o w' => ∃ s, o = .returned (.tuple #[.agg (hoL ⟨m, b, c, d, [], List.replicate m bx0, [], [], 0, 0⟩ s).toArray, .int .i64 0]) ∧ St w.heap.size w' (fun V => isHo V ⟨m, b, c, d, [], List.replicate m bx0, [], [], 0, 0⟩ s) ∧ slSome s ∧ Below w.heap.size w w' := by
  have hc := of_decide_eq_true h
  refine (newHost_ok w m b c d g 0 0 [] h ⟨rfl, Nat.le_refl _, fun e => absurd rfl e⟩ (Nat.zero_le _) (by omega) rfl).mono ?_
  rintro o w' ⟨g1, k1, g2, rfl, q, hb⟩
  refine ⟨_, by rw [hoV_L], fun V hV => ⟨q.s1 V (fun x h1 h2 => hV x (by omega) h2), ⟨by simp, Nat.le_refl _, fun _ => ⟨g2, 0, rfl, fun j hj => ⟨none, 0, 0, ?_⟩⟩⟩, ⟨rfl, Nat.le_refl _, fun e => absurd rfl e⟩, ⟨rfl, Nat.le_refl _, fun e => absurd rfl e⟩⟩, ⟨⟨g1, rfl⟩, ⟨g2, rfl⟩⟩, hb⟩
  rw [Nat.zero_add, List.getElem_replicate]
  exact (q.a2 j (by simpa using hj)).upN (hV g2 q.l2 q.u2)
abbrev foH (b1 b2 : R8) (q : List R8) (st : Int) : Ho := ⟨2, 1, 0, 2, [], [b1, b2], [], q, 0, st⟩
theorem fo_sub1 {F : R5} (h : validB F.e F.i F.r F.d F.l.length = true) : subHo (foH bx0 bx0 [] 0) 5 F = foH (evF 1 5 0 F) bx0 [] 1 := by
  unfold subHo
  rw [if_neg (by decide), if_neg (by rw [h]; decide), if_neg (by decide), if_neg (by show ¬ (0 : Int) = 1000000; decide), if_pos (by decide)]
  rfl
theorem fo_sub2 {F G : R5} (h : validB G.e G.i G.r G.d G.l.length = true) : subHo (foH (evF 1 5 0 F) bx0 [] 1) 6 G = foH (evF 1 5 0 F) (evF 1 6 1 G) [] 2 := by
  have e1 : tagIx [evF 1 5 0 F, bx0] 6 = 2 := by simp [tagIx, List.findIdx_cons, tagBb, bx0]
  have e2 : freeIx [evF 1 5 0 F, bx0] = 1 := by simp [freeIx, List.findIdx_cons, bx0]
  unfold subHo
  rw [if_neg (by decide), if_neg (by rw [h]; decide), if_neg (by rw [e1]; show ¬ 2 < 2; decide), if_neg (by show ¬ (1 : Int) = 1000000; decide), if_pos (by rw [e2]; show 1 < 2; decide), e2]
  rfl
theorem fo_take0 {F : R5} {y z : Int} {b : R8} {q : List R8} {st : Int} (hb : b.x = 0 ∨ b.x = 1) : takeHo (foH (evF 1 y z F) b q st) 0 = foH (evF 2 y z F) b q st := by
  have hno : ∀ c ∈ [evF 1 y z F, b], ¬ (c.x = 2 ∨ c.x = 3) := fun c hc => by
    simp at hc
    rcases hc with rfl | rfl
    · show ¬ ((1 : Int) = 2 ∨ (1 : Int) = 3); decide
    · omega
  unfold takeHo takeB
  rw [dif_pos (by show (0 : Int) ≤ 0 ∧ (0 : Int) < ((2 : Nat) : Int); decide), if_pos ⟨rfl, hno⟩]
  rfl
theorem fo_take1 {G : R5} {y z : Int} {b : R8} {q : List R8} {st : Int} (hb : b.x = 0 ∨ b.x = 1) : takeHo (foH b (evF 1 y z G) q st) 1 = foH b (evF 2 y z G) q st := by
  have hno : ∀ c ∈ [b, evF 1 y z G], ¬ (c.x = 2 ∨ c.x = 3) := fun c hc => by
    simp at hc
    rcases hc with rfl | rfl
    · omega
    · show ¬ ((1 : Int) = 2 ∨ (1 : Int) = 3); decide
  unfold takeHo takeB
  rw [dif_pos (by show (0 : Int) ≤ 1 ∧ (1 : Int) < ((2 : Nat) : Int); decide), if_pos ⟨rfl, hno⟩]
  rfl
theorem fo_rel0 {F : R5} {y z : Int} {b : R8} {q : List R8} {st : Int} (hq : (q.length : Int) < 2) : relHo (foH (evF 2 y z F) b q st) true = foH z8 b (q ++ [evF 1 y 0 F]) st := by
  have e : wireIx [evF 2 y z F, b] = 0 := by simp [wireIx, List.findIdx_cons, onWb]
  unfold relHo
  have e' : wireIx (foH (evF 2 y z F) b q st).bx = 0 := e
  rw [dif_pos (by rw [e']; show 0 < 2; decide), if_pos rfl]
  simp only [e]
  unfold postHo freeHo quP loP
  simp [hq]
theorem fo_rel1 {G : R5} {y z : Int} {b : R8} {q : List R8} {st : Int} (hb : b.x = 0 ∨ b.x = 1) (hq : (q.length : Int) < 2) : relHo (foH b (evF 2 y z G) q st) true = foH b z8 (q ++ [evF 1 y 0 G]) st := by
  have e0 : onWb b = false := by
    unfold onWb
    rcases hb with e | e <;> rw [e] <;> rfl
  have e : wireIx [b, evF 2 y z G] = 1 := by
    unfold wireIx
    rw [List.findIdx_cons, e0]
    simp [List.findIdx_cons, onWb]
  unfold relHo
  have e' : wireIx (foH b (evF 2 y z G) q st).bx = 1 := e
  rw [dif_pos (by rw [e']; show 1 < 2; decide), if_pos rfl]
  simp only [e]
  unfold postHo freeHo quP loP
  simp [hq]
abbrev arbF (F : R5) : ByteArray := arbZ F.e F.i F.r F.d F.l.length
theorem fo_best0 {F G : R5} (h : Op.bytesLess (arbF G).toList (arbF F).toList = false) : bestR [evF 1 5 0 F, evF 1 6 1 G] 0 := by
  refine Or.inr ⟨0, rfl, (by show 0 < 2; decide), rfl, fun j hj hne _ => ?_⟩
  have : j = 1 := by simp at hj; omega
  subst this
  unfold befS
  split
  · rfl
  · rename_i hn
    rw [less_lt] at h ⊢
    simp at h ⊢
    have hl := List.le_iff_lt_or_eq.1 h
    rcases hl with hl | hl
    · exact hl
    · exact absurd (toList_ext hl) hn
theorem fo_best1 {F G : R5} (h : Op.bytesLess (arbF G).toList (arbF F).toList = true) : bestR [evF 1 5 0 F, evF 1 6 1 G] 1 := by
  refine Or.inr ⟨1, rfl, (by show 1 < 2; decide), rfl, fun j hj hne _ => ?_⟩
  have : j = 0 := by simp at hj; omega
  subst this
  unfold befS
  split
  · rename_i e
    have e' : arbF G = arbF F := e
    rw [e', less_lt] at h
    exact absurd (of_decide_eq_true h) (List.lt_irrefl _)
  · exact h
theorem fo_bestL {y z : Int} {F : R5} : bestR [evF 1 y z F, z8] 0 := by
  refine Or.inr ⟨0, rfl, (by show 0 < 2; decide), rfl, fun j hj hne hx => ?_⟩
  have : j = 1 := by simp at hj; omega
  subst this
  exact absurd hx (by show ¬ (0 : Int) = 1; decide)
theorem fo_bestR {y z : Int} {F : R5} : bestR [z8, evF 1 y z F] 1 := by
  refine Or.inr ⟨1, rfl, (by show 1 < 2; decide), rfl, fun j hj hne hx => ?_⟩
  have : j = 0 := by simp at hj; omega
  subst this
  exact absurd hx (by show ¬ (0 : Int) = 1; decide)
theorem fo_bestN : bestR [z8, z8] (-1) := by
  refine Or.inl ⟨rfl, fun i hi => ?_⟩
  obtain ⟨h1, h2, _⟩ := hi
  have : i = 0 ∨ i = 1 := by simp at h1; omega
  rcases this with rfl | rfl <;> exact absurd h2 (by show ¬ (0 : Int) = 1; decide)
end Go.Proofs.YtaamahohdnbpiaaGreat
