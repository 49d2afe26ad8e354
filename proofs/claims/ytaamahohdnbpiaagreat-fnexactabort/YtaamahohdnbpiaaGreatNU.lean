import Derived.Test.YtaamahohdnbpiaaGreatNT
namespace Go.Proofs.YtaamahohdnbpiaaGreat
open Go.RowKit
set_option linter.unusedVariables false
theorem zero3 (w : World) : (zeroValue 3).run Tryz.prog w = .ok (.int .i64 0) w := by kernel_rfl
theorem abHo_none {H : Ho} {t u : Int} (h : ¬ tagIx H.bx t < H.bx.length) (hu : (if 0 ≤ t ∧ t ≤ 9999 then t else 0) = u) : abHo H t = postHo H (ev3 7 u 0) := by
  unfold abHo
  rw [dif_neg h, hu]
theorem abHo_wait {H : Ho} {t : Int} {k : Nat} {b : R8} (hk : k < H.bx.length) (ek : tagIx H.bx t = k) (eb : H.bx[k] = b) (hx : b.x = 1) : abHo H t = postHo (freeHo H k) (ev3 6 t 0) := by
  subst ek
  subst eb
  unfold abHo
  rw [dif_pos hk, if_pos hx]
theorem abHo_doom {H : Ho} {t : Int} {k : Nat} {b : R8} (hk : k < H.bx.length) (ek : tagIx H.bx t = k) (eb : H.bx[k] = b) (hx : b.x ≠ 1) : abHo H t = stHo H k 3 := by
  subst ek
  subst eb
  unfold abHo
  rw [dif_pos hk, if_neg hx]
set_option maxHeartbeats 8000000 in
set_option maxRecDepth 20000 in
/-- impl's abort -/
theorem abort_any {w0 : World} {G : Lg} {H : Ho} {f1 f3 : Nat} {hs : Nat → Hd} {nm : Nat} {D : DataW Unit} {W : World} (h : lh w0 G H f1 f3 hs nm D W) (t : Int) (hwt : (Lit.int .i64 t).wf = true) (hD : (tagIx H.bx t < H.bx.length ∧ Maps.has D (.int .i64 t) = true ∧ ∀ z, D.atKey (.int .i64 t) z = .lit (.int .i64 (tagIx H.bx t : Int))) ∨ (¬ tagIx H.bx t < H.bx.length ∧ Maps.has D (.int .i64 t) = false)) (hwf : ∀ j (hj : j < H.bx.length), (Lit.int .i64 H.bx[j].y).wf = true) :
    Calls Tryz.prog 75 #[.pointer (some ⟨G.P, 0, none⟩), .int .i64 t] W fun o w' => o = .returned (.tuple #[]) ∧ ∃ hs' D', lh w0 G (abHo H t) f1 f3 hs' nm D' w' := by
  have HL : Hid (lh w0 G H f1 f3 hs nm D W) := h
  have HWF : Hid (∀ j (hj : j < H.bx.length), (Lit.int .i64 H.bx[j].y).wf = true) := hwf
  have HK : Hid (keyOf Tryz.prog 3 (.int .i64 t) = some (.int .i64 t)) := key3 hwt
  have HM : Hid (W.ownsMap (H := Unit) Tryz.prog 3 (plainElem Tryz.prog 3) G.mb nm D) := h.m
  have y6 := h.p.cell 6 _ rfl
  clear h hwf hwt
  rcases hD with ⟨hk, hh, ha⟩ | ⟨hk, hh⟩
  · have hty := tagIx_on hk
    generalize ek : tagIx H.bx t = k at *
    have HEK : Hid (tagIx H.bx t = k) := ek
    clear ek
    have HAT : Hid (∀ c : Int, D.atKey (.int .i64 t) (.lit (.int .i64 0)) = .lit (.int .i64 c) → c = (k : Int)) := fun c e => by
      rw [ha] at e
      injection e with e
      injection e with _ e
      exact e.symm
    have HH : Hid (Maps.has D (.int .i64 t) = true) := hh
    clear hh ha
    obtain ⟨b, eb⟩ : ∃ b, H.bx[k] = b := ⟨_, rfl⟩
    obtain ⟨ao, m, c, eh⟩ : ∃ ao m c, hs k = (ao, m, c) := ⟨_, _, _, rfl⟩
    have HV : Hid (Calls Tryz.prog 132 #[.pointer (some ⟨G.P, 0, none⟩), .int .i64 (k : Int)] W fun o w' => o = .returned (.agg #[.int .i64 b.x, .int .i64 b.y, .int .i64 b.z, .bool b.e, .int .u32 (b.i : Int), .bool b.r, .int .i64 b.d, .slice ao m c]) ∧ lh w0 G (freeHo H k) f1 f3 (fun j => if j = k then (none, 0, 0) else hs j) nm (D.del (.int .i64 b.y)) w' ∧ (∀ q, q ≠ G.gb → q ≠ G.mb → q < W.heap.size → w'.heap[q]? = W.heap[q]?) ∧ W.heap.size ≤ w'.heap.size) := vacate_any HL.out k hk b eb ao m c eh (by rw [← eb]; exact HWF.out k hk)
    have HY0 : Hid (W.cell? ⟨G.gb, k * 8, none⟩ = some (.int .i64 b.x)) := by
      have := HL.out.x.rng k hk 0 _ rfl
      rw [eb] at this
      exact this
    have hf0 : W.frozen? ⟨G.gb, k * 8, none⟩ = false := (HL.out.x.row (k * 8) (by have := HL.out.x.len; omega)).2
    have y5 := HL.out.p.cell 5 _ rfl
    have hkn : k < G.n2 := by have := HL.out.x.len; omega
    have hcp := HL.out.bd.nk
    have hm2 := HL.out.bd.m2
    have HEB : Hid (∃ hk : k < H.bx.length, H.bx[k] = b) := ⟨hk, eb⟩
    have HKK : Hid (k < H.bx.length) := hk
    rw [eb] at hty
    have HTY : Hid (b.y = t) := hty.2
    clear eb eh hty
    by_cases hx : b.x = 1
    · have HT : Hid (abHo H t = postHo (freeHo H k) (ev3 6 t 0)) := abHo_wait HKK.out HEK.out HEB.out.2 hx
      have y0 := HY0.out
      rw [hx] at y0
      go_enter Tryz.func75, Tryz.ntmps75
      go_wp2_with (first | (refine wpList_lookup_own_ok_int _ rfl _ _ 128 rfl 3 3 .i64 keyed3 Tryz.underlying128 Tryz.underlying3 (zero3 _) G.mb nm D rfl HM.out _ _ rfl HK.out ?_; intro c hat hwc; rw [HH.out]; have hc : c = (k : Int) := HAT.out c hat; subst hc; clear hat hwc))
      refine HV.out.mono ?_
      rintro o w6 ⟨rfl, hl6, _, _⟩
      rw [HTY.out] at hl6
      have HP : Hid (Calls Tryz.prog 120 #[.pointer (some ⟨G.P, 0, none⟩), .agg #[.int .i64 6, .int .i64 b.y, .int .i64 0, .bool false, .int .u32 0, .bool false, .int .i64 0, .slice none 0 0]] w6 fun o w' => o = .returned (.tuple #[]) ∧ lh w0 G (postHo (freeHo H k) (ev3 6 b.y 0)) f1 f3 (fun j => if j = k then (none, 0, 0) else hs j) nm (D.del (.int .i64 t)) w' ∧ (∀ q, q ≠ G.P → q ≠ G.gq → q < w6.heap.size → w'.heap[q]? = w6.heap[q]?) ∧ w6.heap.size ≤ w'.heap.size) := hl6.post (ev3 6 b.y 0) none 0 0 (none8 _) (Nat.zero_le _)
      clear hl6 HV
      have hfd := field97 1 t b.z b.e b.i b.r b.d ao m c
      rw [HTY.out] at HP
      have hty : b.y = t := HTY.out
      go_wp2_with fail
      refine HP.out.mono ?_
      rintro o w7 ⟨rfl, hl7, _, _⟩
      have HL7 : Hid (lh w0 G (postHo (freeHo H k) (ev3 6 t 0)) f1 f3 (fun j => if j = k then (none, 0, 0) else hs j) nm (D.del (.int .i64 t)) w7) := hl7
      clear hl7 HP
      go_wp2_with fail
      first | go_end0 | (simp only [Exit.inBlock, Exit.then]; refine bodyPost_ret (results_none rfl _ _ _) rfl ?_) | refine bodyPost_ret (results_none rfl _ _ _) rfl ?_
      exact ⟨rfl, _, _, by rw [HT.out]; exact HL7.out⟩
    · have HT : Hid (abHo H t = stHo H k 3) := abHo_doom HKK.out HEK.out HEB.out.2 hx
      have y0 := HY0.out
      have hx' : (b.x == 1) = false := by simpa using hx
      go_enter Tryz.func75, Tryz.ntmps75
      go_wp2_with (first | (refine wpList_lookup_own_ok_int _ rfl _ _ 128 rfl 3 3 .i64 keyed3 Tryz.underlying128 Tryz.underlying3 (zero3 _) G.mb nm D rfl HM.out _ _ rfl HK.out ?_; intro c hat hwc; rw [HH.out]; have hc : c = (k : Int) := HAT.out c hat; subst hc; clear hat hwc))
      first | go_end0 | (simp only [Exit.inBlock, Exit.then]; refine bodyPost_ret (results_none rfl _ _ _) rfl ?_) | refine bodyPost_ret (results_none rfl _ _ _) rfl ?_
      exact ⟨rfl, hs, D, by rw [HT.out]; exact HL.out.state k HKK.out 3⟩
  · have HH : Hid (Maps.has D (.int .i64 t) = false) := hh
    clear hh
    by_cases h9 : 0 ≤ t ∧ t ≤ 9999
    · have HIR : Hid (∀ X, Calls Tryz.prog 115 #[.int .i64 t, .int .i64 0, .int .i64 9999] X fun o w' => o = .returned (.bool true) ∧ w' = X) := fun X => (inRange_any X _ _ _).mono (by rintro o w' ⟨rfl, rfl⟩; exact ⟨by simp; omega, rfl⟩)
      have HT : Hid (abHo H t = postHo H (ev3 7 t 0)) := abHo_none hk (if_pos h9)
      have HP : Hid (Calls Tryz.prog 120 #[.pointer (some ⟨G.P, 0, none⟩), .agg #[.int .i64 7, .int .i64 t, .int .i64 0, .bool false, .int .u32 0, .bool false, .int .i64 0, .slice none 0 0]] W fun o w' => o = .returned (.tuple #[]) ∧ lh w0 G (postHo H (ev3 7 t 0)) f1 f3 hs nm D w' ∧ (∀ q, q ≠ G.P → q ≠ G.gq → q < W.heap.size → w'.heap[q]? = W.heap[q]?) ∧ W.heap.size ≤ w'.heap.size) := HL.out.post (ev3 7 t 0) none 0 0 (none8 _) (Nat.zero_le _)
      clear h9
      go_enter Tryz.func75, Tryz.ntmps75
      go_wp2_with (first | (refine wpList_lookup_own_ok_int _ rfl _ _ 128 rfl 3 3 .i64 keyed3 Tryz.underlying128 Tryz.underlying3 (zero3 _) G.mb nm D rfl HM.out _ _ rfl HK.out ?_; intro c hat hwc; rw [HH.out]) | (go_at_call 115; refine (HIR.out _).mono ?_; rintro o w1 ⟨rfl, rfl⟩))
      refine HP.out.mono ?_
      rintro o w7 ⟨rfl, hl7, _, _⟩
      have HL7 : Hid (lh w0 G (postHo H (ev3 7 t 0)) f1 f3 hs nm D w7) := hl7
      clear hl7 HP
      go_wp2_with fail
      first | go_end0 | (simp only [Exit.inBlock, Exit.then]; refine bodyPost_ret (results_none rfl _ _ _) rfl ?_) | refine bodyPost_ret (results_none rfl _ _ _) rfl ?_
      exact ⟨rfl, _, _, by rw [HT.out]; exact HL7.out⟩
    · have HIR : Hid (∀ X, Calls Tryz.prog 115 #[.int .i64 t, .int .i64 0, .int .i64 9999] X fun o w' => o = .returned (.bool false) ∧ w' = X) := fun X => (inRange_any X _ _ _).mono (by rintro o w' ⟨rfl, rfl⟩; exact ⟨by simp; omega, rfl⟩)
      have HT : Hid (abHo H t = postHo H (ev3 7 0 0)) := abHo_none hk (if_neg h9)
      have HP : Hid (Calls Tryz.prog 120 #[.pointer (some ⟨G.P, 0, none⟩), .agg #[.int .i64 7, .int .i64 0, .int .i64 0, .bool false, .int .u32 0, .bool false, .int .i64 0, .slice none 0 0]] W fun o w' => o = .returned (.tuple #[]) ∧ lh w0 G (postHo H (ev3 7 0 0)) f1 f3 hs nm D w' ∧ (∀ q, q ≠ G.P → q ≠ G.gq → q < W.heap.size → w'.heap[q]? = W.heap[q]?) ∧ W.heap.size ≤ w'.heap.size) := HL.out.post (ev3 7 0 0) none 0 0 (none8 _) (Nat.zero_le _)
      clear h9
      go_enter Tryz.func75, Tryz.ntmps75
      go_wp2_with (first | (refine wpList_lookup_own_ok_int _ rfl _ _ 128 rfl 3 3 .i64 keyed3 Tryz.underlying128 Tryz.underlying3 (zero3 _) G.mb nm D rfl HM.out _ _ rfl HK.out ?_; intro c hat hwc; rw [HH.out]) | (go_at_call 115; refine (HIR.out _).mono ?_; rintro o w1 ⟨rfl, rfl⟩))
      refine HP.out.mono ?_
      rintro o w7 ⟨rfl, hl7, _, _⟩
      have HL7 : Hid (lh w0 G (postHo H (ev3 7 0 0)) f1 f3 hs nm D w7) := hl7
      clear hl7 HP
      go_wp2_with fail
      first | go_end0 | (simp only [Exit.inBlock, Exit.then]; refine bodyPost_ret (results_none rfl _ _ _) rfl ?_) | refine bodyPost_ret (results_none rfl _ _ _) rfl ?_
      exact ⟨rfl, _, _, by rw [HT.out]; exact HL7.out⟩
set_option maxHeartbeats 1000000 in
/-- Abort's function literal -/
theorem lit74 {w0 : World} {G : Lg} {H : Ho} {f1 f3 : Nat} {hs : Nat → Hd} {nm : Nat} {D : DataW Unit} {W : World} (h : lh w0 G H f1 f3 hs nm D W) (Bx : Nat) (t : Int) (hwt : (Lit.int .i64 t).wf = true) (hD : (tagIx H.bx t < H.bx.length ∧ Maps.has D (.int .i64 t) = true ∧ ∀ z, D.atKey (.int .i64 t) z = .lit (.int .i64 (tagIx H.bx t : Int))) ∨ (¬ tagIx H.bx t < H.bx.length ∧ Maps.has D (.int .i64 t) = false)) (yb : W.cell? ⟨Bx, 0, none⟩ = some (.int .i64 t)) (hwf : ∀ j (hj : j < H.bx.length), (Lit.int .i64 H.bx[j].y).wf = true) :
    Calls Tryz.prog 74 #[.pointer (some ⟨G.P, 0, none⟩), .pointer (some ⟨Bx, 0, none⟩)] W fun o w' => o = .returned (.tuple #[]) ∧ ∃ hs' D', lh w0 G (abHo H t) f1 f3 hs' nm D' w' := by
  have HS : Hid (Calls Tryz.prog 75 #[.pointer (some ⟨G.P, 0, none⟩), .int .i64 t] W fun o w' => o = .returned (.tuple #[]) ∧ ∃ hs' D', lh w0 G (abHo H t) f1 f3 hs' nm D' w') := abort_any h t hwt hD hwf
  clear h hwf hD hwt
  go_enter Tryz.func74, Tryz.ntmps74
  go_wp2_with (first | (go_at_call 75; refine HS.out.mono ?_; rintro o w5 ⟨rfl, hs', D', hq⟩; have HQ : Hid (lh w0 G (abHo H t) f1 f3 hs' nm D' w5) := hq; clear hq))
  first | go_end0 | (simp only [Exit.inBlock, Exit.then]; refine bodyPost_ret (results_none rfl _ _ _) rfl ?_) | refine bodyPost_ret (results_none rfl _ _ _) rfl ?_
  exact ⟨rfl, hs', D', HQ.out⟩
theorem open_abort (w : World) (H : Ho) (s : Sl) (Bx : Nat) (t : Int) (h : isHo w H s) (hs : slSome s) (hok : okHo H) (hm : H.le 1048576) (yb : w.cell? ⟨Bx, 0, none⟩ = some (.int .i64 t)) (hwt : (Lit.int .i64 t).wf = true) :
    Calls Tryz.prog 61 #[.agg (hoL H s).toArray] w fun o w' => ∃ P, o = .returned (.pointer (some ⟨P, 0, none⟩)) ∧ Below w.heap.size w w' ∧ Calls Tryz.prog 74 #[.pointer (some ⟨P, 0, none⟩), .pointer (some ⟨Bx, 0, none⟩)] w' fun o w2 => o = .returned (.tuple #[]) ∧ Below w.heap.size w w2 ∧ Calls Tryz.prog 118 #[.pointer (some ⟨P, 0, none⟩)] w2 (toldQ w2 (abHo H t)) := by
  refine (open_lh w H s h hs hok hm).mono ?_
  rintro o w' ⟨G, hd, rfl, hl, hn⟩
  rw [hn] at hl
  refine ⟨G.P, rfl, hl.b, (lit74 hl Bx t hwt (tags_ix hok.bx.2.1 t) ((hl.b.cell (by exact World.block_lt_of_cell? w _ yb)).trans yb) hok.bx.wf).mono ?_⟩
  rintro o w2 ⟨rfl, hs', D', h2⟩
  exact ⟨rfl, h2.b, h2.told⟩
end Go.Proofs.YtaamahohdnbpiaaGreat
