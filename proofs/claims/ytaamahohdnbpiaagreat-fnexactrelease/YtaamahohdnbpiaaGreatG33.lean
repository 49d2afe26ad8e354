import Derived.Test.YtaamahohdnbpiaaGreatG26
import Derived.Test.YtaamahohdnbpiaaGreatNT
import Derived.Test.YtaamahohdnbpiaaGreatG31
import Derived.Deep.RegionHeld3
import Derived.Test.YtaamahohdnbpiaaGreatRows
import Derived.WalkKit
import Derived.ProofKit
import Derived.OpenShut
import Derived.ShutString
import Derived.ChangeOld
import Derived.Below
namespace Go.Proofs.YtaamahohdnbpiaaGreat
open Go.RowKit
set_option linter.unusedVariables false
set_option maxHeartbeats 8000000 in
set_option maxRecDepth 20000 in
/-- impl.changed by Release's literal -/
theorem changed63 (w : World) (H : Ho) (s : Sl) (Bx : Nat) (sent : Bool) (h : isHo w H s) (hs : slSome s) (hn : H.le 1048576) (yb : w.cell? ⟨Bx, 0, none⟩ = some (.bool sent)) :
    Calls Tryz.prog 56 #[.agg (hoL H s).toArray, .func (.func 63) #[] #[.pointer (some ⟨Bx, 0, none⟩)]] w fun o w' => (okHo H ∧ toldQ w (relHo H sent) o w') ∨ (¬ okHo H ∧ o = .returned (.agg [.int .i64 0, .int .i64 0, .int .i64 0, .int .i64 0, .slice none 0 0, .slice none 0 0, .slice none 0 0, .slice none 0 0, .int .i64 0, .int .i64 0].toArray) ∧ Below w.heap.size w w') := by
  have H0 : Hid (dtS w H s ((w.alloc (.cells (hoL H s).toArray 35)).alloc (.cells [.int .i64 0, .int .i64 0, .int .i64 0, .int .i64 0, .slice none 0 0, .slice none 0 0, .slice none 0 0, .slice none 0 0, .int .i64 0, .int .i64 0].toArray 35))) := dtS.new w H s
  have HYB : Hid (∀ W, Below w.heap.size w W → W.cell? ⟨Bx, 0, none⟩ = some (.bool sent)) := fun W hW => (hW.cell (by exact World.block_lt_of_cell? w _ yb)).trans yb
  clear yb
  by_cases hok : okHo H
  · have HV : Hid (∀ W, Below w.heap.size w W → Calls Tryz.prog 60 #[.agg (hoL H s).toArray] W fun o w' => o = .returned (.bool true) ∧ Below W.heap.size W w') := fun W hW => vOk W H s (h.below hW) hn hok
    have HO : Hid (∀ W, Below w.heap.size w W → Calls Tryz.prog 61 #[.agg (hoL H s).toArray] W fun o w' => ∃ P, o = .returned (.pointer (some ⟨P, 0, none⟩)) ∧ Below W.heap.size W w' ∧ Calls Tryz.prog 63 #[.pointer (some ⟨P, 0, none⟩), .pointer (some ⟨Bx, 0, none⟩)] w' fun o w2 => o = .returned (.tuple #[]) ∧ Below W.heap.size W w2 ∧ Calls Tryz.prog 118 #[.pointer (some ⟨P, 0, none⟩)] w2 (toldQ w2 (relHo H sent))) := fun W hW => open_release W H s Bx sent (h.below hW) hs hok hn (HYB.out W hW)
    have HOK : Hid (okHo H) := hok
    clear h hn hok hs
    go_enter Tryz.func56, Tryz.ntmps56
    go_wp2_with (first
      | (refine wpList_load_mid (P := Tryz.prog) rfl 35 _ rfl w.heap.size 0 rfl (hoL H s) _ H0.out.p.load Tryz.underlying35 rfl (sz41L H s) ?_))
    refine (HV.out _ H0.out.b).mono ?_
    rintro o w1 ⟨rfl, hb1⟩
    have H1 : Hid (dtS w H s w1) := H0.out.below hb1
    clear H0 hb1
    go_wp2_with (first
      | (refine wpList_load_mid (P := Tryz.prog) rfl 35 _ rfl w.heap.size 0 rfl (hoL H s) _ H1.out.p.load Tryz.underlying35 rfl (sz41L H s) ?_))
    refine (HO.out _ H1.out.b).mono ?_
    rintro o w2 ⟨P, rfl, hb2, hc2⟩
    have HC2 : Hid (Calls Tryz.prog 63 #[.pointer (some ⟨P, 0, none⟩), .pointer (some ⟨Bx, 0, none⟩)] w2 fun o w3 => o = .returned (.tuple #[]) ∧ Below w1.heap.size w1 w3 ∧ Calls Tryz.prog 118 #[.pointer (some ⟨P, 0, none⟩)] w3 (toldQ w3 (relHo H sent))) := hc2
    clear hc2 hb2
    go_wp2_with fail
    refine (Calls.mono HC2.out) ?_
    rintro o w3 ⟨rfl, hb3, hc3⟩
    have H3 : Hid (dtS w H s w3) := H1.out.below hb3
    have HC3 : Hid (Calls Tryz.prog 118 #[.pointer (some ⟨P, 0, none⟩)] w3 (toldQ w3 (relHo H sent))) := hc3
    clear hc3 hb3 HC2 H1
    go_wp2_with fail
    refine (Calls.mono HC3.out) ?_
    rintro o w4 ⟨s4, rfl, q1, q2, q3, q4, hb4⟩
    have H4 : Hid (dtS w H s w4) := H3.out.below hb4
    have HQ : Hid (St w3.heap.size w4 (fun W => isHo W (relHo H sent) s4.sl) ∧ whS w3.heap.size w4.heap.size w4 s4 ∧ whD s4 ∧ whE s4) := ⟨q1, q2, q3, q4⟩
    clear q1 q2 q3 q4 hb4 HC3
    go_wp2_with (first
      | (refine wpList_store_mid (P := Tryz.prog) rfl 35 (.tmp 4) _ rfl (w.heap.size + 1) 0 (hoL (relHo H sent) s4.sl).toArray rfl rfl (H4.out.r.there 0 _ (by rw [List.size_toArray, hoL_len]; decide)) (sz41A (relHo H sent) s4.sl) (hoL_one (relHo H sent) s4.sl) ?_; generalize hW8 : World.setCells _ (w.heap.size + 1) 0 _ = w8; have HW8 : Hid (_ = w8) := hW8; clear hW8))
    have e8 := HW8.out
    have hF : blk w8 (w.heap.size + 1) (hoL (relHo H sent) s4.sl) 35 := by
      rw [← e8]
      have := blk.put [] Z10 [] (hoL (relHo H sent) s4.sl) (w := w4) (b := w.heap.size + 1) (T := 35) (by simpa using H4.out.r) (by rw [hoL_len]; rfl)
      simpa using this
    have hL := run_loadVar_mid (P := Tryz.prog) w8 (w.heap.size + 1) 0 35 _ _ hF.load Tryz.underlying35 rfl (sz41L (relHo H sent) s4.sl)
    refine bodyPost_ret (v := .agg (hoL (relHo H sent) s4.sl).toArray) (results_cell Tryz.results56 _ w8 (w.heap.size + 1) _ rfl hL) rfl ?_
    have oth : ∀ x, x ≠ w.heap.size + 1 → w8.heap[x]? = w4.heap[x]? := fun x hx => by rw [← e8]; exact setCells_other _ x hx _ _ _
    have hsz : w8.heap.size = w4.heap.size := by rw [← e8]; exact setCells_size ..
    have hp := toldQ.put (w := w) H3.out.b.size H3.out.r.lt HQ.out.1 HQ.out.2.1 oth hsz
    exact Or.inl ⟨HOK.out, s4, rfl, hp.1, hp.2, HQ.out.2.2.1, HQ.out.2.2.2, by rw [← e8]; exact setCells_below (by omega) 0 _ H4.out.b⟩
  · have HV : Hid (∀ W, Below w.heap.size w W → Calls Tryz.prog 60 #[.agg (hoL H s).toArray] W fun o w' => o = .returned (.bool false) ∧ Below W.heap.size W w') := fun W hW => vBad W H s (h.below hW) hn hok
    have HOK : Hid (¬ okHo H) := hok
    clear h hn hok hs
    go_enter Tryz.func56, Tryz.ntmps56
    go_wp2_with (first
      | (refine wpList_load_mid (P := Tryz.prog) rfl 35 _ rfl w.heap.size 0 rfl (hoL H s) _ H0.out.p.load Tryz.underlying35 rfl (sz41L H s) ?_))
    refine (HV.out _ H0.out.b).mono ?_
    rintro o w1 ⟨rfl, hb1⟩
    have H1 : Hid (dtS w H s w1) := H0.out.below hb1
    clear H0 hb1
    go_wp2_with (first
      | (refine wpList_store_mid (P := Tryz.prog) rfl 35 (.tmp 4) _ rfl (w.heap.size + 1) 0 [.int .i64 0, .int .i64 0, .int .i64 0, .int .i64 0, .slice none 0 0, .slice none 0 0, .slice none 0 0, .slice none 0 0, .int .i64 0, .int .i64 0].toArray rfl rfl (H1.out.r.there 0 10 (by simp [Z10])) sz41 (all_oneCell_toArray (by simp [Value.oneCell'])) ?_; generalize hW8 : World.setCells _ (w.heap.size + 1) 0 _ = w8; have HW8 : Hid (_ = w8) := hW8; clear hW8))
    have e8 := HW8.out
    have hF : blk w8 (w.heap.size + 1) [.int .i64 0, .int .i64 0, .int .i64 0, .int .i64 0, .slice none 0 0, .slice none 0 0, .slice none 0 0, .slice none 0 0, .int .i64 0, .int .i64 0] 35 := by
      rw [← e8]
      have := blk.put [] Z10 [] [.int .i64 0, .int .i64 0, .int .i64 0, .int .i64 0, .slice none 0 0, .slice none 0 0, .slice none 0 0, .slice none 0 0, .int .i64 0, .int .i64 0] (w := w1) (b := w.heap.size + 1) (T := 35) (by simpa using H1.out.r) rfl
      simpa using this
    have hL := run_loadVar_mid (P := Tryz.prog) w8 (w.heap.size + 1) 0 35 _ _ hF.load Tryz.underlying35 rfl sz41
    refine bodyPost_ret (v := .agg [.int .i64 0, .int .i64 0, .int .i64 0, .int .i64 0, .slice none 0 0, .slice none 0 0, .slice none 0 0, .slice none 0 0, .int .i64 0, .int .i64 0].toArray) (results_cell Tryz.results56 _ w8 (w.heap.size + 1) _ rfl hL) rfl ?_
    exact Or.inr ⟨HOK.out, rfl, by rw [← e8]; exact setCells_below (by omega) 0 _ H1.out.b⟩
structure itR (w : World) (H : Ho) (s : Sl) (sent : Bool) (W : World) : Prop where
  p : blk W w.heap.size (hoL H s) 35
  x : blk W (w.heap.size + 1) [.bool sent] 4
  r : blk W (w.heap.size + 1 + 1) Z10 35
  b : Below w.heap.size w W
theorem itR.below {w : World} {H : Ho} {s : Sl} {sent : Bool} {W W' : World} (h : itR w H s sent W) (hb : Below W.heap.size W W') : itR w H s sent W' := ⟨h.p.below hb, h.x.below hb, h.r.below hb, h.b.trans (hb.mono h.b.size)⟩
theorem itR.new (w : World) (H : Ho) (s : Sl) (sent : Bool) : itR w H s sent (((w.alloc (.cells (hoL H s).toArray 35)).alloc (.cells #[.bool sent] 4)).alloc (.cells [.int .i64 0, .int .i64 0, .int .i64 0, .int .i64 0, .slice none 0 0, .slice none 0 0, .slice none 0 0, .slice none 0 0, .int .i64 0, .int .i64 0].toArray 35)) := by
  refine ⟨((blk.new w _ 35).alloc _).alloc _, ?_, ?_, (((Below.refl _ _).alloc (Nat.le_refl _) _).alloc (by simp) _).alloc (by simp; omega) _⟩
  · have := (blk.new (w.alloc (.cells (hoL H s).toArray 35)) [.bool sent] 4).alloc (.cells [.int .i64 0, .int .i64 0, .int .i64 0, .int .i64 0, .slice none 0 0, .slice none 0 0, .slice none 0 0, .slice none 0 0, .int .i64 0, .int .i64 0].toArray 35)
    simpa using this
  · have := blk.new ((w.alloc (.cells (hoL H s).toArray 35)).alloc (.cells #[.bool sent] 4)) Z10 35
    have e : ((w.alloc (.cells (hoL H s).toArray 35)).alloc (.cells #[.bool sent] 4)).heap.size = w.heap.size + 1 + 1 := by simp
    rw [e] at this
    exact this
set_option maxHeartbeats 8000000 in
set_option maxRecDepth 20000 in
/-- impl.Release -/
theorem implRelease_any (w : World) (H : Ho) (s : Sl) (sent : Bool) (h : isHo w H s) (hs : slSome s) (hn : H.le 1048576) :
    Calls Tryz.prog 18 #[.agg (hoL H s).toArray, .bool sent] w fun o w' => (okHo H ∧ toldQ w (relHo H sent) o w') ∨ (¬ okHo H ∧ o = .returned (.agg [.int .i64 0, .int .i64 0, .int .i64 0, .int .i64 0, .slice none 0 0, .slice none 0 0, .slice none 0 0, .slice none 0 0, .int .i64 0, .int .i64 0].toArray) ∧ Below w.heap.size w w') := by
  have H0 : Hid (itR w H s sent (((w.alloc (.cells (hoL H s).toArray 35)).alloc (.cells #[.bool sent] 4)).alloc (.cells [.int .i64 0, .int .i64 0, .int .i64 0, .int .i64 0, .slice none 0 0, .slice none 0 0, .slice none 0 0, .slice none 0 0, .int .i64 0, .int .i64 0].toArray 35))) := itR.new w H s sent
  have HC : Hid (∀ W, itR w H s sent W → Calls Tryz.prog 56 #[.agg (hoL H s).toArray, .func (.func 63) #[] #[.pointer (some ⟨w.heap.size + 1, 0, none⟩)]] W fun o w' => (okHo H ∧ toldQ W (relHo H sent) o w') ∨ (¬ okHo H ∧ o = .returned (.agg [.int .i64 0, .int .i64 0, .int .i64 0, .int .i64 0, .slice none 0 0, .slice none 0 0, .slice none 0 0, .slice none 0 0, .int .i64 0, .int .i64 0].toArray) ∧ Below W.heap.size W w')) := fun W hW => changed63 W H s (w.heap.size + 1) sent (h.below hW.b) hs hn (hW.x.cell 0 _ rfl)
  have hmf : ∀ (fn : Fn) (first cap : Array Value) (w : World), (Instr.makeFunc fn first cap).run Tryz.prog w = .ok (.func fn first cap) w := fun _ _ _ _ => rfl
  clear h hn hs
  go_enter Tryz.func18, Tryz.ntmps18
  go_wp2_with (first
    | (refine wpList_load_mid (P := Tryz.prog) rfl 35 _ rfl w.heap.size 0 rfl (hoL H s) _ H0.out.p.load Tryz.underlying35 rfl (sz41L H s) ?_))
  refine (HC.out _ H0.out).mono ?_
  rintro o w1 (⟨hok, s4, rfl, q1, q2, q3, q4, hb4⟩ | ⟨hok, rfl, hb4⟩)
  · have H4 : Hid (itR w H s sent w1) := H0.out.below hb4
    have HQ : Hid (St (((w.alloc (.cells (hoL H s).toArray 35)).alloc (.cells #[.bool sent] 4)).alloc (.cells [.int .i64 0, .int .i64 0, .int .i64 0, .int .i64 0, .slice none 0 0, .slice none 0 0, .slice none 0 0, .slice none 0 0, .int .i64 0, .int .i64 0].toArray 35)).heap.size w1 (fun W => isHo W (relHo H sent) s4.sl) ∧ whS (((w.alloc (.cells (hoL H s).toArray 35)).alloc (.cells #[.bool sent] 4)).alloc (.cells [.int .i64 0, .int .i64 0, .int .i64 0, .int .i64 0, .slice none 0 0, .slice none 0 0, .slice none 0 0, .slice none 0 0, .int .i64 0, .int .i64 0].toArray 35)).heap.size w1.heap.size w1 s4 ∧ whD s4 ∧ whE s4) := ⟨q1, q2, q3, q4⟩
    have HOK : Hid (okHo H) := hok
    have HZ : Hid (w.heap.size ≤ (((w.alloc (.cells (hoL H s).toArray 35)).alloc (.cells #[.bool sent] 4)).alloc (.cells [.int .i64 0, .int .i64 0, .int .i64 0, .int .i64 0, .slice none 0 0, .slice none 0 0, .slice none 0 0, .slice none 0 0, .int .i64 0, .int .i64 0].toArray 35)).heap.size ∧ w.heap.size + 1 + 1 < (((w.alloc (.cells (hoL H s).toArray 35)).alloc (.cells #[.bool sent] 4)).alloc (.cells [.int .i64 0, .int .i64 0, .int .i64 0, .int .i64 0, .slice none 0 0, .slice none 0 0, .slice none 0 0, .slice none 0 0, .int .i64 0, .int .i64 0].toArray 35)).heap.size) := ⟨H0.out.b.size, H0.out.r.lt⟩
    clear q1 q2 q3 q4 hb4 hok HC H0
    go_wp2_with (first
      | (refine wpList_store_mid (P := Tryz.prog) rfl 35 (.tmp 4) _ rfl (w.heap.size + 1 + 1) 0 (hoL (relHo H sent) s4.sl).toArray rfl rfl (H4.out.r.there 0 _ (by rw [List.size_toArray, hoL_len]; decide)) (sz41A (relHo H sent) s4.sl) (hoL_one (relHo H sent) s4.sl) ?_; generalize hW8 : World.setCells _ (w.heap.size + 1 + 1) 0 _ = w8; have HW8 : Hid (_ = w8) := hW8; clear hW8))
    have e8 := HW8.out
    have hF : blk w8 (w.heap.size + 1 + 1) (hoL (relHo H sent) s4.sl) 35 := by
      rw [← e8]
      have := blk.put [] Z10 [] (hoL (relHo H sent) s4.sl) (w := w1) (b := w.heap.size + 1 + 1) (T := 35) (by simpa using H4.out.r) (by rw [hoL_len]; rfl)
      simpa using this
    have hL := run_loadVar_mid (P := Tryz.prog) w8 (w.heap.size + 1 + 1) 0 35 _ _ hF.load Tryz.underlying35 rfl (sz41L (relHo H sent) s4.sl)
    refine bodyPost_ret (v := .agg (hoL (relHo H sent) s4.sl).toArray) (results_cell Tryz.results18 _ w8 (w.heap.size + 1 + 1) _ rfl hL) rfl ?_
    have oth : ∀ x, x ≠ w.heap.size + 1 + 1 → w8.heap[x]? = w1.heap[x]? := fun x hx => by rw [← e8]; exact setCells_other _ x hx _ _ _
    have hsz : w8.heap.size = w1.heap.size := by rw [← e8]; exact setCells_size ..
    have hp := toldQ.put (w := w) HZ.out.1 HZ.out.2 HQ.out.1 HQ.out.2.1 oth hsz
    exact Or.inl ⟨HOK.out, s4, rfl, hp.1, hp.2, HQ.out.2.2.1, HQ.out.2.2.2, by rw [← e8]; exact setCells_below (by omega) 0 _ H4.out.b⟩
  · have H4 : Hid (itR w H s sent w1) := H0.out.below hb4
    have HOK : Hid (¬ okHo H) := hok
    clear hb4 hok HC H0
    go_wp2_with (first
      | (refine wpList_store_mid (P := Tryz.prog) rfl 35 (.tmp 4) _ rfl (w.heap.size + 1 + 1) 0 [.int .i64 0, .int .i64 0, .int .i64 0, .int .i64 0, .slice none 0 0, .slice none 0 0, .slice none 0 0, .slice none 0 0, .int .i64 0, .int .i64 0].toArray rfl rfl (H4.out.r.there 0 10 (by simp [Z10])) sz41 (all_oneCell_toArray (by simp [Value.oneCell'])) ?_; generalize hW8 : World.setCells _ (w.heap.size + 1 + 1) 0 _ = w8; have HW8 : Hid (_ = w8) := hW8; clear hW8))
    have e8 := HW8.out
    have hF : blk w8 (w.heap.size + 1 + 1) [.int .i64 0, .int .i64 0, .int .i64 0, .int .i64 0, .slice none 0 0, .slice none 0 0, .slice none 0 0, .slice none 0 0, .int .i64 0, .int .i64 0] 35 := by
      rw [← e8]
      have := blk.put [] Z10 [] [.int .i64 0, .int .i64 0, .int .i64 0, .int .i64 0, .slice none 0 0, .slice none 0 0, .slice none 0 0, .slice none 0 0, .int .i64 0, .int .i64 0] (w := w1) (b := w.heap.size + 1 + 1) (T := 35) (by simpa using H4.out.r) rfl
      simpa using this
    have hL := run_loadVar_mid (P := Tryz.prog) w8 (w.heap.size + 1 + 1) 0 35 _ _ hF.load Tryz.underlying35 rfl sz41
    refine bodyPost_ret (v := .agg [.int .i64 0, .int .i64 0, .int .i64 0, .int .i64 0, .slice none 0 0, .slice none 0 0, .slice none 0 0, .slice none 0 0, .int .i64 0, .int .i64 0].toArray) (results_cell Tryz.results18 _ w8 (w.heap.size + 1 + 1) _ rfl hL) rfl ?_
    exact Or.inr ⟨HOK.out, rfl, by rw [← e8]; exact setCells_below (by omega) 0 _ H4.out.b⟩
/-- impl.Release, both cases -/
theorem implTRelease (w : World) (H : Ho) (s : Sl) (sent : Bool) (T : Ho) (hR : okRel H (relHo H sent) T) (h : isHo w H s) (hs : slSome s) (hn : H.le 1048576) :
    Calls Tryz.prog 18 #[.agg (hoL H s).toArray, .bool sent] w fun o w' => ∃ sg, o = .returned (.agg (hoL T sg).toArray) ∧ St w.heap.size w' (fun W => isHo W T sg) ∧ MKQ w.heap.size T sg w' ∧ Below w.heap.size w w' := by
  refine (implRelease_any w H s sent h hs hn).mono ?_
  rintro o w' (⟨hok, s4, rfl, q1, q2, q3, q4, hb⟩ | ⟨hok, rfl, hb⟩)
  · have e := hR.yes hok
    subst e
    exact ⟨s4.sl, rfl, q1, q2.mkq q3 q4, hb⟩
  · have e := hR.no hok
    subst e
    exact ⟨zSl, rfl, fun W _ => zHo_is W, zHo_mkq _ _ hb.size, hb⟩
set_option maxHeartbeats 8000000 in
set_option maxRecDepth 40000 in
/-- laws.FnExactRelease -/
theorem lawRelease (H : Ho) (s : Sl) (sent : Bool) (w : World) (h : isHo w H s) (hn : H.le 9223372036854775807) :
    Calls Tryz.prog 9 #[hoV H s, .bool sent] w fun o w' => o = .returned (.bool true) ∧ Below w.heap.size w w' := by
  rw [hoV_L]
  obtain ⟨T, hR⟩ := okRel_ex H (relHo H sent)
  have HS : Hid (∀ X, Below w.heap.size w X → Calls Tryz.prog 35 #[.agg (hoL H s).toArray, .int .i64 1048576] X fun o w' => ∃ z : Int, o = .returned (.int .i64 z) ∧ Below X.heap.size X w' ∧ (z = -1 ∨ ∃ m' : Nat, z = (m' : Int) ∧ H.le 1048576)) := fun X hX => szL X H s (h.below hX) hn
  have HT : Hid (H.le 1048576 → ∀ X, isHo X H s → Calls Tryz.prog 36 #[.agg (hoL H s).toArray] X fun o w' => ∃ s' : Wh, o = .returned (.agg (hoL H s'.sl).toArray) ∧ St X.heap.size w' (fun W => isHo W H s'.sl) ∧ whS X.heap.size w'.heap.size w' s' ∧ whD s' ∧ slSome s'.sl ∧ Below X.heap.size X w') := fun hm X hX => toWh X H s hX hm
  have HE : Hid (H.le 1048576 → ∀ X s', isHo X H s' → Calls Tryz.prog 30 #[.agg (hoL H s').toArray, .bool sent] X fun o w' => ∃ s2, o = .returned (.agg (hoL T s2).toArray) ∧ isHo w' T s2 ∧ Below X.heap.size X w') := fun hm X s' h' => specRelease_any X H s' sent T hR h' hm
  have HI : Hid (H.le 1048576 → ∀ X s', isHo X H s' → slSome s' → Calls Tryz.prog 18 #[.agg (hoL H s').toArray, .bool sent] X fun o w' => ∃ sg, o = .returned (.agg (hoL T sg).toArray) ∧ St X.heap.size w' (fun W => isHo W T sg) ∧ MKQ X.heap.size T sg w' ∧ Below X.heap.size X w') := fun hm X s' h' hs' => implTRelease X H s' sent T hR h' hs' hm
  have HQ : Hid (H.le 1048576 → ∀ X s1 s2, isHo X T s1 → isHo X T s2 → Calls Tryz.prog 37 #[.agg (hoL T s1).toArray, .agg (hoL T s2).toArray] X fun o w' => o = .returned (.bool true) ∧ Below X.heap.size X w') := fun hm X s1 s2 h1 h2 => eqT X _ s1 s2 h1 h2 (relR_le hR hm)
  have HQH : Hid (H.le 1048576 → ∀ X s1 s2, isHo X H s1 → isHo X H s2 → Calls Tryz.prog 37 #[.agg (hoL H s1).toArray, .agg (hoL H s2).toArray] X fun o w' => o = .returned (.bool true) ∧ Below X.heap.size X w') := fun hm X s1 s2 h1 h2 => eqT X _ s1 s2 h1 h2 hm
  have P0 : blk (w.alloc (.cells (hoL H s).toArray 61)) w.heap.size (hoL H s) 61 := blk.new w _ 61
  have HA : Hid (Below w.heap.size w (w.alloc (.cells (hoL H s).toArray 61))) := (Below.refl _ _).alloc (Nat.le_refl _) _
  have HH : Hid (∀ X, Below w.heap.size w X → isHo X H s) := fun X hX => h.below hX
  have HP0 : Hid (blk (w.alloc (.cells (hoL H s).toArray 61)) w.heap.size (hoL H s) 61) := P0
  clear h hn P0
  clear hR
  go_enter Tryz.func9, Tryz.ntmps9
  go_wp2_with (first | (refine wpList_load_mid (P := Tryz.prog) rfl 61 (.tmp 2) rfl w.heap.size 0 rfl (hoL H s) _ HP0.out.load Tryz.underlying61 rfl (sz61L H s) ?_))
  refine (HS.out _ HA.out).mono ?_
  rintro o w1 ⟨z, rfl, b1, h1⟩
  have HP1 : Hid (blk w1 w.heap.size (hoL H s) 61) := HP0.out.below b1
  have HB1 : Hid (Below w.heap.size w w1) := HA.out.trans (b1.mono (by simp))
  clear b1 HP0 HA HS
  rcases h1 with rfl | ⟨m', rfl, hle⟩
  · go_wp2_with fail
    go_ret
    exact ⟨rfl, HB1.out⟩
  have HLE : Hid (H.le 1048576) := hle
  clear hle
  go_wp2_with (first | (refine wpList_load_mid (P := Tryz.prog) rfl 61 (.tmp 2) rfl w.heap.size 0 rfl (hoL H s) _ HP1.out.load Tryz.underlying61 rfl (sz61L H s) ?_))
  refine (HT.out HLE.out _ (HH.out _ HB1.out)).mono ?_
  rintro o w2 ⟨s2, rfl, S2, _, _, _, b2⟩
  have HO2 : Hid (isHo w2 H s2.sl) := S2.now
  have HP2 : Hid (blk w2 w.heap.size (hoL H s) 61) := HP1.out.below b2
  have HB2 : Hid (Below w.heap.size w w2) := HB1.out.trans (b2.mono HB1.out.size)
  clear S2 b2 HP1 HB1
  go_wp2_with fail
  refine (HE.out HLE.out w2 s2.sl HO2.out).mono ?_
  rintro o w3 ⟨sw, rfl, hT3, b3⟩
  have HP3 : Hid (blk w3 w.heap.size (hoL H s) 61) := HP2.out.below b3
  have HB3 : Hid (Below w.heap.size w w3) := HB2.out.trans (b3.mono HB2.out.size)
  have HT3 : Hid (isHo w3 T sw) := hT3
  clear hT3 b3 HP2 HB2 HO2 HE
  have HNW : Hid (blk (World.setCells (w3.alloc (.cells [.int .i64 0, .int .i64 0, .int .i64 0, .int .i64 0, .slice none 0 0, .slice none 0 0, .slice none 0 0, .slice none 0 0, .int .i64 0, .int .i64 0].toArray 35)) w3.heap.size 0 (hoL T sw)) w3.heap.size (hoL T sw) 35 ∧ Below w3.heap.size w3 (World.setCells (w3.alloc (.cells [.int .i64 0, .int .i64 0, .int .i64 0, .int .i64 0, .slice none 0 0, .slice none 0 0, .slice none 0 0, .slice none 0 0, .int .i64 0, .int .i64 0].toArray 35)) w3.heap.size 0 (hoL T sw))) := new_hostS _ (hoL_len _ _)
  have HN3 : Hid (blk (w3.alloc (.cells [.int .i64 0, .int .i64 0, .int .i64 0, .int .i64 0, .slice none 0 0, .slice none 0 0, .slice none 0 0, .slice none 0 0, .int .i64 0, .int .i64 0].toArray 35)) w3.heap.size [.int .i64 0, .int .i64 0, .int .i64 0, .int .i64 0, .slice none 0 0, .slice none 0 0, .slice none 0 0, .slice none 0 0, .int .i64 0, .int .i64 0] 35) := blk.new w3 _ 35
  go_wp2_with (first | (refine wpList_store_mid (P := Tryz.prog) rfl 35 _ _ rfl w3.heap.size 0 (hoL T sw).toArray rfl rfl (HN3.out.there 0 _ (by rw [List.size_toArray, hoL_len]; decide)) (sz41A T sw) (hoL_one T sw) ?_; generalize hW4 : World.setCells (w3.alloc _) w3.heap.size 0 _ = w4; have HW4 : Hid (lwS w H s T w3.heap.size sw w4) := (by rw [← hW4]; exact ⟨HP3.out.below HNW.out.2, HNW.out.1, HT3.out.below HNW.out.2, HH.out _ (HB3.out.trans (HNW.out.2.mono HB3.out.size)), HB3.out.trans (HNW.out.2.mono HB3.out.size)⟩); clear hW4 HNW HN3) | (refine wpList_load_mid (P := Tryz.prog) rfl 61 (.tmp 2) rfl w.heap.size 0 rfl (hoL H s) _ HW4.out.p.load Tryz.underlying61 rfl (sz61L H s) ?_))
  clear HP3 HB3 HT3
  generalize w3.heap.size = bw at *
  refine (HT.out HLE.out _ HW4.out.h).mono ?_
  rintro o w5 ⟨s5, rfl, S5, S5w, S5d, S5s, b5⟩
  have HX5 : Hid (lwS w H s T bw sw w5 ∧ isHo w5 H s5.sl ∧ whS w4.heap.size w5.heap.size w5 s5) := ⟨HW4.out.below b5, S5.now, S5w⟩
  have HD5 : Hid (whD s5 ∧ slSome s5.sl) := ⟨S5d, S5s⟩
  have HB45 : Hid (Below w4.heap.size w4 w5) := b5
  have HH4 : Hid (isHo w4 T sw ∧ isHo w4 H s) := ⟨HW4.out.t, HW4.out.h⟩
  have HZ5 : Hid (bw < w4.heap.size ∧ w.heap.size < w4.heap.size ∧ w4.heap.size ≤ w5.heap.size) := ⟨HW4.out.q.lt, HW4.out.p.lt, b5.size⟩
  clear S5 S5w S5d S5s b5
  have HN5a : Hid (blk (World.setCells (w5.alloc (.cells [.int .i64 0, .int .i64 0, .int .i64 0, .int .i64 0, .slice none 0 0, .slice none 0 0, .slice none 0 0, .slice none 0 0, .int .i64 0, .int .i64 0].toArray 35)) w5.heap.size 0 (hoL H s5.sl)) w5.heap.size (hoL H s5.sl) 35 ∧ Below w5.heap.size w5 (World.setCells (w5.alloc (.cells [.int .i64 0, .int .i64 0, .int .i64 0, .int .i64 0, .slice none 0 0, .slice none 0 0, .slice none 0 0, .slice none 0 0, .int .i64 0, .int .i64 0].toArray 35)) w5.heap.size 0 (hoL H s5.sl))) := new_hostS _ (hoL_len _ _)
  have HN5b : Hid (blk (w5.alloc (.cells [.int .i64 0, .int .i64 0, .int .i64 0, .int .i64 0, .slice none 0 0, .slice none 0 0, .slice none 0 0, .slice none 0 0, .int .i64 0, .int .i64 0].toArray 35)) w5.heap.size [.int .i64 0, .int .i64 0, .int .i64 0, .int .i64 0, .slice none 0 0, .slice none 0 0, .slice none 0 0, .slice none 0 0, .int .i64 0, .int .i64 0] 35) := blk.new w5 _ 35
  go_wp2_with (first | (refine wpList_store_mid (P := Tryz.prog) rfl 35 _ _ rfl w5.heap.size 0 (hoL H s5.sl).toArray rfl rfl (HN5b.out.there 0 _ (by rw [List.size_toArray, hoL_len]; decide)) (sz41A H s5.sl) (hoL_one H s5.sl) ?_; generalize hW6 : World.setCells (w5.alloc _) w5.heap.size 0 _ = w6; have HX6 : Hid (lwX w H s T bw sw w4 w5.heap.size w5.heap.size s5 w6) := (by rw [← hW6]; exact ⟨HX5.out.1.below HN5a.out.2, HN5a.out.1, HX5.out.2.1.below HN5a.out.2, HX5.out.2.2.same (fun x _ hx => HN5a.out.2.block x hx), ⟨HZ5.out.1, HZ5.out.2.1, HZ5.out.2.2, Nat.le_refl _⟩, HB45.out.trans (HN5a.out.2.mono HB45.out.size)⟩); clear hW6 HN5a HN5b) | (refine wpList_load_mid (P := Tryz.prog) rfl 35 _ rfl w5.heap.size 0 rfl (hoL H s5.sl) _ HX6.out.x.load Tryz.underlying35 rfl (sz41L H s5.sl) ?_))
  clear HX5 HZ5 HW4 HB45
  generalize hT5 : w5.heap.size = bx at *
  clear hT5
  refine (HI.out HLE.out w6 s5.sl HX6.out.xh HD5.out.2).mono ?_
  rintro o w7 ⟨sg, rfl, S7, M7, b7⟩
  have HX7 : Hid (lwX w H s T bw sw w4 bx bx s5 w7) := HX6.out.below b7
  have HG7 : Hid (St w6.heap.size w7 (fun W => isHo W T sg) ∧ MKQ w6.heap.size T sg w7 ∧ w6.heap.size ≤ w7.heap.size ∧ bx < w6.heap.size) := ⟨S7, M7, b7.size, HX6.out.x.lt⟩
  clear S7 M7 b7 HX6
  have HN7a : Hid (blk (World.setCells (w7.alloc (.cells [.int .i64 0, .int .i64 0, .int .i64 0, .int .i64 0, .slice none 0 0, .slice none 0 0, .slice none 0 0, .slice none 0 0, .int .i64 0, .int .i64 0].toArray 35)) w7.heap.size 0 (hoL T sg)) w7.heap.size (hoL T sg) 35 ∧ Below w7.heap.size w7 (World.setCells (w7.alloc (.cells [.int .i64 0, .int .i64 0, .int .i64 0, .int .i64 0, .slice none 0 0, .slice none 0 0, .slice none 0 0, .slice none 0 0, .int .i64 0, .int .i64 0].toArray 35)) w7.heap.size 0 (hoL T sg))) := new_hostS _ (hoL_len _ _)
  have HN7b : Hid (blk (w7.alloc (.cells [.int .i64 0, .int .i64 0, .int .i64 0, .int .i64 0, .slice none 0 0, .slice none 0 0, .slice none 0 0, .slice none 0 0, .int .i64 0, .int .i64 0].toArray 35)) w7.heap.size [.int .i64 0, .int .i64 0, .int .i64 0, .int .i64 0, .slice none 0 0, .slice none 0 0, .slice none 0 0, .slice none 0 0, .int .i64 0, .int .i64 0] 35) := blk.new w7 _ 35
  go_wp2_with (first
    | (refine wpList_store_mid (P := Tryz.prog) rfl 35 _ _ rfl w7.heap.size 0 (hoL T sg).toArray rfl rfl (HN7b.out.there 0 _ (by rw [List.size_toArray, hoL_len]; decide)) (sz41A T sg) (hoL_one T sg) ?_; generalize hW8 : World.setCells (w7.alloc _) w7.heap.size 0 _ = w8; have HX8 : Hid (lwX w H s T bw sw w4 bx bx s5 w8 ∧ blk w8 w7.heap.size (hoL T sg) 35 ∧ Below w7.heap.size w7 w8) := (by rw [← hW8]; exact ⟨HX7.out.below HN7a.out.2, HN7a.out.1, HN7a.out.2⟩); clear hW8 HN7a HN7b)
    | (refine wpList_load_mid (P := Tryz.prog) rfl 35 (.tmp 8) rfl w7.heap.size 0 rfl (hoL T sg) _ HX8.out.2.1.load Tryz.underlying35 rfl (sz41L T sg) ?_)
    | (refine wpList_load_mid (P := Tryz.prog) rfl 35 (.tmp 6) rfl bw 0 rfl (hoL T sw) _ HX8.out.1.l.q.load Tryz.underlying35 rfl (sz41L T sw) ?_))
  have HG8 : Hid (lwG w H s T bw sw w4 bx w6.heap.size w7 w7.heap.size sg w8) := ⟨HX8.out.1.l, HX8.out.2.1, fun x h1 h2 => HX8.out.2.2.block x h2, ⟨HG7.out.2.2.2, HG7.out.2.2.1, Nat.le_refl _⟩, ⟨HX8.out.1.z.1, HX8.out.1.z.2.1, by have := HX8.out.1.z; omega⟩, HX8.out.1.b4⟩
  have HX9 : Hid (lwX w H s T bw sw w4 bx bx s5 w8) := HX8.out.1
  have HSM : Hid (St w6.heap.size w7 (fun W => isHo W T sg) ∧ MKQ w6.heap.size T sg w7) := ⟨HG7.out.1, HG7.out.2.1⟩
  clear HX8 HG7 HX7
  generalize w6.heap.size = B6 at *
  refine (HQ.out HLE.out w8 sg sw (HSM.out.1 w8 HG8.out.k) HG8.out.l.t).mono ?_
  rintro o w9 ⟨rfl, b9⟩
  have HX10 : Hid (lwX w H s T bw sw w4 bx bx s5 w9 ∧ lwG w H s T bw sw w4 bx B6 w7 w7.heap.size sg w9) := ⟨HX9.out.below b9, HG8.out.below b9⟩
  clear b9 HX9 HG8
  generalize hbg : w7.heap.size = bg at *
  have HBG : Hid (w7.heap.size = bg) := hbg
  clear hbg
  go_wp2_with fail
  refine wp_region_held (S := fun W => lwX w H s T bw sw w4 bx bx s5 W ∧ lwG w H s T bw sw w4 bx B6 w7 bg sg W) (by kernel_rfl) ?_
  have hS : lwX w H s T bw sw w4 bx bx s5 w9.drew ∧ lwG w H s T bw sw w4 bx B6 w7 bg sg w9.drew := ⟨HX10.out.1.below (Below.refl _ _).drew, HX10.out.2.below (Below.refl _ _).drew⟩
  clear HX10
  change wpAnyH Tryz.prog _ _ _ _ _ _ _ w9.drew
  generalize w9.drew = w10 at *
  refine wpAnyH_take (i := 0) (v := .agg (hoL H s5.sl).toArray) rfl (by kernel_rfl) (by kernel_rfl) (by kernel_rfl) (fun _ _ _ h => h) (yieldsIf_load_mid (by rfl) 35 (.tmp 7) rfl bx 0 rfl (hoL H s5.sl) _ (fun W h => h.1.x.load) Tryz.underlying35 rfl (sz41L H s5.sl)) hS ?_
  simp only [Act.put, List.setIfInBounds_toArray, List.set_cons_zero, List.set_cons_succ, List.getElem_toArray, List.getElem_cons_zero]
  refine wpAnyH_take (i := 1) (v := .agg (hoL H s).toArray) rfl (by kernel_rfl) (by kernel_rfl) (by kernel_rfl) (fun _ _ _ h => h) (yieldsIf_load_mid (by rfl) 61 (.tmp 2) rfl w.heap.size 0 rfl (hoL H s) _ (fun W h => h.1.l.p.load) Tryz.underlying61 rfl (sz61L H s)) hS ?_
  simp only [Act.put, List.setIfInBounds_toArray, List.set_cons_zero, List.set_cons_succ, List.getElem_toArray, List.getElem_cons_zero, List.getElem_cons_succ]
  refine wpAnyH_all (rs := [2]) (by kernel_rfl) (by simp) ?_
  refine AllReadyH.cons rfl (fun K2 hK2 => ?_) AllReadyH.nil
  go_simp
  refine (HT.out HLE.out _ hS.1.l.h).mono ?_
  rintro o w11 ⟨s11, rfl, S11, _, _, _, b11⟩
  have HO11 : Hid (isHo w11 H s11.sl) := S11.now
  have hS11 : lwX w H s T bw sw w4 bx bx s5 w11 ∧ lwG w H s T bw sw w4 bx B6 w7 bg sg w11 := ⟨hS.1.below b11, hS.2.below b11⟩
  clear S11 b11
  go_wp2_with fail
  refine hK2.out _ _ hS11 (fun hS2 => ?_)
  clear hS hK2 K2 hS11
  have hS := hS2
  clear hS2
  refine wpAnyH_all (rs := [3]) (by kernel_rfl) (by simp) ?_
  refine AllReadyH.cons rfl (fun K2 hK2 => ?_) AllReadyH.nil
  go_simp
  refine (HQH.out HLE.out _ s5.sl s11.sl hS.1.xh HO11.out).mono ?_
  rintro o w12 ⟨rfl, b12⟩
  have hS12 : lwX w H s T bw sw w4 bx bx s5 w12 ∧ lwG w H s T bw sw w4 bx B6 w7 bg sg w12 := ⟨hS.1.below b12, hS.2.below b12⟩
  clear b12 HO11
  go_wp2_with fail
  refine hK2.out _ _ hS12 (fun hS2 => ?_)
  clear hS hK2 K2 hS12
  have hS := hS2
  clear hS2
  refine wpAnyH_take (i := 4) (v := .bool false) rfl (by kernel_rfl) (by kernel_rfl) (by kernel_rfl) (fun _ _ _ h => h) (Or.inl ⟨by rfl, ?_⟩) hS ?_
  · intro W hSw
    clear hS
    go_simp
  simp only [Act.put, List.setIfInBounds_toArray, List.set_cons_zero, List.set_cons_succ, List.getElem_toArray, List.getElem_cons_zero, List.getElem_cons_succ]
  refine wpAnyH_done (by kernel_rfl) ?_ _
  have HX12 : Hid (lwX w H s T bw sw w4 bx bx s5 w12 ∧ lwG w H s T bw sw w4 bx B6 w7 bg sg w12) := hS
  clear hS
  go_wp2_with (first | (refine wpList_load_mid (P := Tryz.prog) rfl 35 (.tmp 7) rfl bx 0 rfl (hoL H s5.sl) _ HX12.out.1.x.load Tryz.underlying35 rfl (sz41L H s5.sl) ?_))
  have HMX : Hid (Calls Tryz.prog 39 #[.agg (hoL H s5.sl).toArray, .int .i64 1] w12 fun o w1 => ∃ k : Nat, o = .returned (.int .i64 (k : Int)) ∧ (∀ x, bx ≤ x → x < w12.heap.size → w1.heap[x]? = w12.heap[x]?) ∧ Below w4.heap.size w12 w1) := xMark2 HX12.out.1.xw HD5.out.1 (Nat.le_of_lt HX12.out.1.x.lt)
  refine (Calls.mono HMX.out) ?_
  rintro o w13 ⟨k, rfl, q1, q2⟩
  have HG13 : Hid (lwG w H s T bw sw w4 bx B6 w7 bg sg w13) := HX12.out.2.xmark HH4.out q2 q1
  clear q1 q2 HX12 HMX
  have hk0 : decide ((k : Int) < 0) = false := by simp
  go_wp2_with (first
    | (refine wpList_load_midG (by first | rfl | (simp [Region.wanted, yielded]; done) | (simp [Region.wanted, yielded]; omega)) 35 (.tmp 8) rfl bg 0 rfl (hoL T sg) _ HG13.out.g.load Tryz.underlying35 rfl (sz41L T sg) ?_)
    | (refine wpList_load_midG (by first | rfl | (simp [Region.wanted, yielded]; done) | (simp [Region.wanted, yielded]; omega)) 35 (.tmp 6) rfl bw 0 rfl (hoL T sw) _ HG13.out.l.q.load Tryz.underlying35 rfl (sz41L T sw) ?_))
  refine (HQ.out HLE.out w13 sg sw (HSM.out.1 w13 HG13.out.k) HG13.out.l.t).mono ?_
  rintro o w14 ⟨rfl, b14⟩
  have HG14 : Hid (lwG w H s T bw sw w4 bx B6 w7 bg sg w14) := HG13.out.below b14
  clear b14 HG13 hk0
  go_wp2_with (first | (refine wpList_load_mid (P := Tryz.prog) rfl 35 (.tmp 8) rfl bg 0 rfl (hoL T sg) _ HG14.out.g.load Tryz.underlying35 rfl (sz41L T sg) ?_))
  have hzz : w7.heap.size ≤ w14.heap.size := by have := HG14.out.g.lt; have := HG14.out.z; omega
  refine (HSM.out.2 w14 HG14.out.k hzz).mono ?_
  rintro o w15 ⟨m, rfl, b15, o15, c15⟩
  have HL15 : Hid (lwS w H s T bw sw w15) := HG14.out.gmark HH4.out b15
  have HV15 : Hid (blk w15 bg (hoL T sg) 35) := HG14.out.g.kept (o15 _ HG14.out.z.2.2 HG14.out.g.lt)
  have HC15 : Hid (Calls Tryz.prog 41 #[.agg (hoL T sg).toArray, .int .i64 1] w15 fun o w2 => o = .returned (.int .i64 (m : Int)) ∧ Below w15.heap.size w15 w2) := c15 w15 (Below.refl _ _)
  clear b15 o15 c15 HG14 HSM hzz HH4
  go_wp2_with (first | (refine wpList_load_mid (P := Tryz.prog) rfl 35 (.tmp 8) rfl bg 0 rfl (hoL T sg) _ HV15.out.load Tryz.underlying35 rfl (sz41L T sg) ?_))
  refine (Calls.mono HC15.out) ?_
  rintro o w16 ⟨rfl, b16⟩
  have HL16 : Hid (lwS w H s T bw sw w16) := HL15.out.below b16
  clear b16 HL15 HV15 HC15
  have hm0 : ¬ (m : Int) < 0 := by omega
  go_wp2_with (first | (refine wpList_load_mid (P := Tryz.prog) rfl 61 (.tmp 2) rfl w.heap.size 0 rfl (hoL H s) _ HL16.out.p.load Tryz.underlying61 rfl (sz61L H s) ?_))
  refine (HT.out HLE.out _ HL16.out.h).mono ?_
  rintro o w17 ⟨s17, rfl, S17, _, _, S17s, b17⟩
  have HL17 : Hid (lwS w H s T bw sw w17 ∧ isHo w17 H s17.sl ∧ slSome s17.sl) := ⟨HL16.out.below b17, S17.now, S17s⟩
  clear S17 S17s b17 HL16
  go_wp2_with fail
  refine (HI.out HLE.out w17 s17.sl HL17.out.2.1 HL17.out.2.2).mono ?_
  rintro o w18 ⟨sh, rfl, S18, _, b18⟩
  have HL18 : Hid (lwS w H s T bw sw w18 ∧ isHo w18 T sh) := ⟨HL17.out.1.below b18, S18.now⟩
  clear S18 b18 HL17
  have HN18a : Hid (blk (World.setCells (w18.alloc (.cells [.int .i64 0, .int .i64 0, .int .i64 0, .int .i64 0, .slice none 0 0, .slice none 0 0, .slice none 0 0, .slice none 0 0, .int .i64 0, .int .i64 0].toArray 35)) w18.heap.size 0 (hoL T sh)) w18.heap.size (hoL T sh) 35 ∧ Below w18.heap.size w18 (World.setCells (w18.alloc (.cells [.int .i64 0, .int .i64 0, .int .i64 0, .int .i64 0, .slice none 0 0, .slice none 0 0, .slice none 0 0, .slice none 0 0, .int .i64 0, .int .i64 0].toArray 35)) w18.heap.size 0 (hoL T sh))) := new_hostS _ (hoL_len _ _)
  have HN18b : Hid (blk (w18.alloc (.cells [.int .i64 0, .int .i64 0, .int .i64 0, .int .i64 0, .slice none 0 0, .slice none 0 0, .slice none 0 0, .slice none 0 0, .int .i64 0, .int .i64 0].toArray 35)) w18.heap.size [.int .i64 0, .int .i64 0, .int .i64 0, .int .i64 0, .slice none 0 0, .slice none 0 0, .slice none 0 0, .slice none 0 0, .int .i64 0, .int .i64 0] 35) := blk.new w18 _ 35
  go_wp2_with (first
    | (refine wpList_store_mid (P := Tryz.prog) rfl 35 _ _ rfl w18.heap.size 0 (hoL T sh).toArray rfl rfl (HN18b.out.there 0 _ (by rw [List.size_toArray, hoL_len]; decide)) (sz41A T sh) (hoL_one T sh) ?_; generalize hW19 : World.setCells (w18.alloc _) w18.heap.size 0 _ = w19; have HL19 : Hid (lwS w H s T bw sw w19 ∧ isHo w19 T sh ∧ blk w19 w18.heap.size (hoL T sh) 35) := (by rw [← hW19]; exact ⟨HL18.out.1.below HN18a.out.2, HL18.out.2.below HN18a.out.2, HN18a.out.1⟩); clear hW19 HN18a HN18b)
    | (refine wpList_load_mid (P := Tryz.prog) rfl 35 (.tmp 6) rfl bw 0 rfl (hoL T sw) _ HL19.out.1.q.load Tryz.underlying35 rfl (sz41L T sw) ?_)
    | (refine wpList_load_mid (P := Tryz.prog) rfl 35 _ rfl w18.heap.size 0 rfl (hoL T sh) _ HL19.out.2.2.load Tryz.underlying35 rfl (sz41L T sh) ?_))
  refine (HQ.out HLE.out w19 sh sw HL19.out.2.1 HL19.out.1.t).mono ?_
  rintro o w20 ⟨rfl, b20⟩
  have HL20 : Hid (Below w.heap.size w w20) := (HL19.out.1.below b20).b
  clear b20 HL19 HL18
  go_wp2_with fail
  go_ret
  exact ⟨rfl, HL20.out⟩
end Go.Proofs.YtaamahohdnbpiaaGreat
namespace Go.Proofs.YtaamahohdnbpiaaGreat
open Go.ChangeShapes Go.WideShapes Go.ChangeAt Go.RowKit
open Go.ChangeMaps (open_string shut_string)
set_option linter.unusedVariables false

theorem fnExactRelease_own : ownKnob Tryz.prog.godebug = none := by kernel_rfl
theorem fnExactRelease_laidOut : laidOutB Tryz.prog = true := by kernel_rfl
set_option maxRecDepth 100000 in
theorem fnExactRelease_lifted (os : Os) (started : os.Started) (H : Type) (enc : TypeId × Value → H) :
    ReturnsInHanded {} Tryz.checked os 9 .any (Rows.fnExactReleaseSpec.pre6 enc Tryz.prog Tryz.f9 Rows.fnExactReleaseRow.domain false) (Rows.fnExactReleaseSpec.post enc Tryz.prog Tryz.f9 false true false false) := by
  refine returnsInHanded_of_change (C := Tryz.checked) fnExactRelease_own started (by kernel_rfl) Tryz.func9
    (ChangeSpec.witness6 (enc := enc) (C := Tryz.checked) false ⟨#[], #[.agg #[.int .i64 0, .int .i64 0, .int .i64 0, .int .i64 0, .slice none 0 0, .slice none 0 0, .slice none 0 0, .slice none 0 0, .int .i64 0, .int .i64 0], .bool false], []⟩ 8 (by kernel_rfl) (by kernel_rfl) (by kernel_rfl) (by kernel_rfl)) ?_
  intro W base args ds gs before hval0 hW hcnd _
  have hval : ∀ (j : Nat) t v, Tryz.f9.params[j]? = some t → args[j]? = some v → Value.okWide Tryz.prog W .any base t v := hval0
  have hW' := hW
  obtain ⟨p, q, hA0, hV, rfl, hfz, hnd⟩ := hW
  have hA : DataW.TrodAll enc Tryz.prog W 0 (fun _ => true) true Tryz.f9.params.toList args.toList ds p := hA0
  rw [Tryz.params9] at hA hval
  obtain ⟨v0, vs0, d0, ds0, p0, q0, hargs, rfl, rfl, h0, r0⟩ := trodAll_cons hA
  obtain ⟨v1, vs1, d1, ds1, p1, q1, rfl, rfl, rfl, h1, r1⟩ := trodAll_cons r0
  obtain ⟨rfl, rfl, rfl⟩ := trodAll_nil r1
  obtain rfl : args = #[v0, v1] := by cases args; simp_all
  obtain ⟨rfl, rfl⟩ := trodVars_none hV
  have k0 := h0
  have lt0 : ∀ x ∈ p0, x.block < W.heap.size := by obtain ⟨m, hm⟩ := k0; exact DataW.trod_lt m _ _ _ hm
  obtain ⟨C0, s0, rfl, w0, mm0⟩ := hostV_open (hval 0 61 v0 rfl rfl) h0
  obtain ⟨z1, rfl, rfl, rfl⟩ := open_bool Tryz.underlying4 (hval 1 4 v1 rfl rfl) h1
  clear hA0 hval0
  refine (lawRelease C0 s0 z1 W w0 mm0).mono fun e W' ⟨he, bel⟩ => ?_
  subst he
  exact ⟨_, rfl, _, _, _, [], _, [], hW', trodAll_mk1 (shut_bool Tryz.underlying4 _), (trodAll_cons_mk (Below.trod fnExactRelease_laidOut (by kernel_rfl) (of_decide_eq_true (by kernel_rfl)) k0 bel lt0) (trodAll_cons_mk (shut_bool Tryz.underlying4 _) trodAll_mk0)), rfl, bel.frame _, fun h => by cases h⟩

theorem fnExactRelease_proved : Rows.FnExactReleaseSaid :=
  OpenClaim.holds_of_wide 9 Tryz.f9 rfl rfl rfl rfl rfl rfl rfl ⟨rfl, rfl, rfl, rfl, rfl⟩ rfl rfl rfl rfl rfl (by kernel_rfl) Tryz.func9 (by kernel_rfl)
    (of_decide_eq_true (by kernel_rfl)) (by unfold Func.isWrapper; first | (rw [if_pos (by decide +kernel)]; kernel_rfl) | (rw [if_neg (by decide +kernel)]; exact ⟨rfl, rfl⟩))
    (fun os started H enc _ => fnExactRelease_lifted os started H enc)
end Go.Proofs.YtaamahohdnbpiaaGreat
