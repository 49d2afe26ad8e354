import Derived.Test.YtaamahohdnbpiaaGreatG30
namespace Go.Proofs.YtaamahohdnbpiaaGreat
open Go.RowKit
set_option linter.unusedVariables false
theorem field97 (x y z : Int) (e : Bool) (i : Nat) (r : Bool) (d : Int) (ao : Option Addr) (m c : Nat) : ∀ w : World, (Instr.field 97 (.agg #[.int .i64 x, .int .i64 y, .int .i64 z, .bool e, .int .u32 (i : Int), .bool r, .int .i64 d, .slice ao m c]) 1).run Tryz.prog w = .ok (.int .i64 y) w := fun _ => by kernel_rfl
theorem relHo_sent {H : Ho} {k : Nat} {b : R8} (hk : k < H.bx.length) (ek : wireIx H.bx = k) (eb : H.bx[k] = b) : relHo H true = postHo (freeHo H k) ⟨1, b.y, 0, b.e, b.i, b.r, b.d, b.l⟩ := by
  subst ek
  subst eb
  unfold relHo
  rw [dif_pos hk, if_pos rfl]
theorem relHo_doom {H : Ho} {k : Nat} {b : R8} (hk : k < H.bx.length) (ek : wireIx H.bx = k) (eb : H.bx[k] = b) (hx : b.x = 3) : relHo H false = postHo (freeHo H k) (ev3 6 b.y 0) := by
  subst ek
  subst eb
  unfold relHo
  rw [dif_pos hk, if_neg (by simp), if_pos hx]
theorem relHo_wait {H : Ho} {k : Nat} {b : R8} (hk : k < H.bx.length) (ek : wireIx H.bx = k) (eb : H.bx[k] = b) (hx : b.x = 2) : relHo H false = stHo H k 1 := by
  subst ek
  subst eb
  unfold relHo
  rw [dif_pos hk, if_neg (by simp), if_neg (by omega)]
set_option maxHeartbeats 8000000 in
set_option maxRecDepth 20000 in
/-- impl's release -/
theorem release_any {w0 : World} {G : Lg} {H : Ho} {f1 f3 : Nat} {hs : Nat → Hd} {nm : Nat} {D : DataW Unit} {W : World} (h : lh w0 G H f1 f3 hs nm D W) (sent : Bool) (hwf : ∀ j (hj : j < H.bx.length), (Lit.int .i64 H.bx[j].y).wf = true) :
    Calls Tryz.prog 64 #[.pointer (some ⟨G.P, 0, none⟩), .bool sent] W fun o w' => o = .returned (.tuple #[]) ∧ ∃ hs' D', lh w0 G (relHo H sent) f1 f3 hs' nm D' w' := by
  have HOW : Hid (Calls Tryz.prog 131 #[.pointer (some ⟨G.P, 0, none⟩)] W fun o w' => ∃ z : Int, o = .returned (.int .i64 z) ∧ bsy H.bx z ∧ Below W.heap.size W w') := onWire_any W G.P _ G.n2 G.kb H.bx (h.p.cell 5 _ rfl) (h.x.is h.bd.nk) (by have := h.bd.m2; omega)
  have HL : Hid (lh w0 G H f1 f3 hs nm D W) := h
  have HWF : Hid (∀ j (hj : j < H.bx.length), (Lit.int .i64 H.bx[j].y).wf = true) := hwf
  clear h hwf
  go_enter Tryz.func64, Tryz.ntmps64
  go_wp2_with fail
  refine HOW.out.mono ?_
  rintro o w5 ⟨z, rfl, hz, hb5⟩
  have HL5 : Hid (lh w0 G H f1 f3 hs nm D w5) := HL.out.below hb5
  have hR := hz.ix
  clear HOW HL hz hb5
  rcases hR with ⟨rfl, hno⟩ | ⟨rfl, hk⟩
  · have HT : Hid (relHo H sent = H) := relHo_none hno
    go_wp2_with fail
    first | go_end0 | (simp only [Exit.inBlock, Exit.then]; refine bodyPost_ret (results_none rfl _ _ _) rfl ?_) | refine bodyPost_ret (results_none rfl _ _ _) rfl ?_
    exact ⟨rfl, hs, D, by rw [HT.out]; exact HL5.out⟩
  · have hon := wireIx_on hk
    generalize ek : wireIx H.bx = k at *
    have HEK : Hid (wireIx H.bx = k) := ek
    clear ek
    obtain ⟨b, eb⟩ : ∃ b, H.bx[k] = b := ⟨_, rfl⟩
    obtain ⟨ao, m, c, eh⟩ : ∃ ao m c, hs k = (ao, m, c) := ⟨_, _, _, rfl⟩
    have HV : Hid (Calls Tryz.prog 132 #[.pointer (some ⟨G.P, 0, none⟩), .int .i64 (k : Int)] w5 fun o w' => o = .returned (.agg #[.int .i64 b.x, .int .i64 b.y, .int .i64 b.z, .bool b.e, .int .u32 (b.i : Int), .bool b.r, .int .i64 b.d, .slice ao m c]) ∧ lh w0 G (freeHo H k) f1 f3 (fun j => if j = k then (none, 0, 0) else hs j) nm (D.del (.int .i64 b.y)) w' ∧ (∀ q, q ≠ G.gb → q ≠ G.mb → q < w5.heap.size → w'.heap[q]? = w5.heap[q]?) ∧ w5.heap.size ≤ w'.heap.size) := vacate_any HL5.out k hk b eb ao m c eh (by rw [← eb]; exact HWF.out k hk)
    have HBY : Hid (isBytes w0 ao m c b.l ∧ b.l.length ≤ 1048576) := by
      have h1 := HL5.out.x.old k hk (Nat.zero_le _)
      have h2 := HL5.out.x.sm k hk
      rw [eb, eh] at h1
      rw [eb] at h2
      exact ⟨h1, h2⟩
    have HY0 : Hid (w5.cell? ⟨G.gb, k * 8, none⟩ = some (.int .i64 b.x)) := by
      have := HL5.out.x.rng k hk 0 _ rfl
      rw [eb] at this
      exact this
    have hf0 : w5.frozen? ⟨G.gb, k * 8, none⟩ = false := (HL5.out.x.row (k * 8) (by have := HL5.out.x.len; omega)).2
    have y5 := HL5.out.p.cell 5 _ rfl
    have hkn : k < G.n2 := by have := HL5.out.x.len; omega
    have hcp := HL5.out.bd.nk
    have hm2 := HL5.out.bd.m2
    have HEB : Hid (∃ hk : k < H.bx.length, H.bx[k] = b) := ⟨hk, eb⟩
    have HKK : Hid (k < H.bx.length) := hk
    rw [eb] at hon
    clear eb eh
    cases sent
    · rcases hon with e0 | e0
      · have HT : Hid (relHo H false = stHo H k 1) := relHo_wait HKK.out HEK.out HEB.out.2 e0
        have y0 := HY0.out
        rw [e0] at y0
        go_wp2_with fail
        first | go_end0 | (simp only [Exit.inBlock, Exit.then]; refine bodyPost_ret (results_none rfl _ _ _) rfl ?_) | refine bodyPost_ret (results_none rfl _ _ _) rfl ?_
        exact ⟨rfl, hs, D, by rw [HT.out]; exact HL5.out.state k HKK.out 1⟩
      · have HT : Hid (relHo H false = postHo (freeHo H k) (ev3 6 b.y 0)) := relHo_doom HKK.out HEK.out HEB.out.2 e0
        have y0 := HY0.out
        rw [e0] at y0
        go_wp2_with fail
        refine HV.out.mono ?_
        rintro o w6 ⟨rfl, hl6, _, _⟩
        have HP : Hid (Calls Tryz.prog 120 #[.pointer (some ⟨G.P, 0, none⟩), .agg #[.int .i64 6, .int .i64 b.y, .int .i64 0, .bool false, .int .u32 0, .bool false, .int .i64 0, .slice none 0 0]] w6 fun o w' => o = .returned (.tuple #[]) ∧ lh w0 G (postHo (freeHo H k) (ev3 6 b.y 0)) f1 f3 (fun j => if j = k then (none, 0, 0) else hs j) nm (D.del (.int .i64 b.y)) w' ∧ (∀ q, q ≠ G.P → q ≠ G.gq → q < w6.heap.size → w'.heap[q]? = w6.heap[q]?) ∧ w6.heap.size ≤ w'.heap.size) := hl6.post (ev3 6 b.y 0) none 0 0 (none8 _) (Nat.zero_le _)
        clear hl6 HV
        have hfd := field97 3 b.y b.z b.e b.i b.r b.d ao m c
        go_wp2_with fail
        refine HP.out.mono ?_
        rintro o w7 ⟨rfl, hl7, _, _⟩
        have HL7 : Hid (lh w0 G (postHo (freeHo H k) (ev3 6 b.y 0)) f1 f3 (fun j => if j = k then (none, 0, 0) else hs j) nm (D.del (.int .i64 b.y)) w7) := hl7
        clear hl7 HP
        go_wp2_with fail
        first | go_end0 | (simp only [Exit.inBlock, Exit.then]; refine bodyPost_ret (results_none rfl _ _ _) rfl ?_) | refine bodyPost_ret (results_none rfl _ _ _) rfl ?_
        exact ⟨rfl, _, _, by rw [HT.out]; exact HL7.out⟩
    · have HT : Hid (relHo H true = postHo (freeHo H k) ⟨1, b.y, 0, b.e, b.i, b.r, b.d, b.l⟩) := relHo_sent HKK.out HEK.out HEB.out.2
      obtain ⟨bX, bY, bZ, bE, bI, bR, bD, bL⟩ := b
      go_wp2_with fail
      refine HV.out.mono ?_
      rintro o w6 ⟨rfl, hl6, _, _⟩
      have hbA : Below w6.heap.size w6 (w6.alloc (.cells [.int .i64 bX, .int .i64 bY, .int .i64 bZ, .bool bE, .int .u32 (bI : Int), .bool bR, .int .i64 bD, .slice ao m c].toArray 97)) := (Below.refl _ _).alloc (Nat.le_refl _) _
      have HP : Hid (Calls Tryz.prog 120 #[.pointer (some ⟨G.P, 0, none⟩), .agg #[.int .i64 1, .int .i64 bY, .int .i64 0, .bool bE, .int .u32 (bI : Int), .bool bR, .int .i64 bD, .slice ao m c]] (w6.alloc (.cells [.int .i64 bX, .int .i64 bY, .int .i64 bZ, .bool bE, .int .u32 (bI : Int), .bool bR, .int .i64 bD, .slice ao m c].toArray 97)) fun o w' => o = .returned (.tuple #[]) ∧ lh w0 G (postHo (freeHo H k) ⟨1, bY, 0, bE, bI, bR, bD, bL⟩) f1 f3 (fun j => if j = k then (none, 0, 0) else hs j) nm (D.del (.int .i64 bY)) w' ∧ (∀ q, q ≠ G.P → q ≠ G.gq → q < (w6.alloc (.cells [.int .i64 bX, .int .i64 bY, .int .i64 bZ, .bool bE, .int .u32 (bI : Int), .bool bR, .int .i64 bD, .slice ao m c].toArray 97)).heap.size → w'.heap[q]? = (w6.alloc (.cells [.int .i64 bX, .int .i64 bY, .int .i64 bZ, .bool bE, .int .u32 (bI : Int), .bool bR, .int .i64 bD, .slice ao m c].toArray 97)).heap[q]?) ∧ (w6.alloc (.cells [.int .i64 bX, .int .i64 bY, .int .i64 bZ, .bool bE, .int .u32 (bI : Int), .bool bR, .int .i64 bD, .slice ao m c].toArray 97)).heap.size ≤ w'.heap.size) := (hl6.below hbA).post ⟨1, bY, 0, bE, bI, bR, bD, bL⟩ ao m c HBY.out.1 HBY.out.2
      have HPB : Hid (blk (w6.alloc (.cells [.int .i64 bX, .int .i64 bY, .int .i64 bZ, .bool bE, .int .u32 (bI : Int), .bool bR, .int .i64 bD, .slice ao m c].toArray 97)) w6.heap.size [.int .i64 bX, .int .i64 bY, .int .i64 bZ, .bool bE, .int .u32 (bI : Int), .bool bR, .int .i64 bD, .slice ao m c] 97) := blk.new w6 _ 97
      have y1 : (w6.alloc (.cells [.int .i64 bX, .int .i64 bY, .int .i64 bZ, .bool bE, .int .u32 (bI : Int), .bool bR, .int .i64 bD, .slice ao m c].toArray 97)).cell? ⟨w6.heap.size, 1, none⟩ = some (.int .i64 bY) := HPB.out.cell 1 _ rfl
      clear hl6 hbA HV
      go_wp2_with (first
        | (refine wpList_load_mid (P := Tryz.prog) rfl 25 _ rfl w6.heap.size 3 rfl [.bool bE, .int .u32 (bI : Int), .bool bR, .int .i64 bD, .slice ao m c] _ (blk.loadAt [.int .i64 bX, .int .i64 bY, .int .i64 bZ] [.bool bE, .int .u32 (bI : Int), .bool bR, .int .i64 bD, .slice ao m c] [] HPB.out) Tryz.underlying25 rfl sz93 ?_))
      refine HP.out.mono ?_
      rintro o w7 ⟨rfl, hl7, _, _⟩
      have HL7 : Hid (lh w0 G (postHo (freeHo H k) ⟨1, bY, 0, bE, bI, bR, bD, bL⟩) f1 f3 (fun j => if j = k then (none, 0, 0) else hs j) nm (D.del (.int .i64 bY)) w7) := hl7
      clear hl7 HP
      go_wp2_with fail
      first | go_end0 | (simp only [Exit.inBlock, Exit.then]; refine bodyPost_ret (results_none rfl _ _ _) rfl ?_) | refine bodyPost_ret (results_none rfl _ _ _) rfl ?_
      exact ⟨rfl, _, _, by rw [HT.out]; exact HL7.out⟩
set_option maxHeartbeats 1000000 in
/-- Release's function literal -/
theorem lit63 {w0 : World} {G : Lg} {H : Ho} {f1 f3 : Nat} {hs : Nat → Hd} {nm : Nat} {D : DataW Unit} {W : World} (h : lh w0 G H f1 f3 hs nm D W) (Bx : Nat) (sent : Bool) (yb : W.cell? ⟨Bx, 0, none⟩ = some (.bool sent)) (hwf : ∀ j (hj : j < H.bx.length), (Lit.int .i64 H.bx[j].y).wf = true) :
    Calls Tryz.prog 63 #[.pointer (some ⟨G.P, 0, none⟩), .pointer (some ⟨Bx, 0, none⟩)] W fun o w' => o = .returned (.tuple #[]) ∧ ∃ hs' D', lh w0 G (relHo H sent) f1 f3 hs' nm D' w' := by
  have HS : Hid (Calls Tryz.prog 64 #[.pointer (some ⟨G.P, 0, none⟩), .bool sent] W fun o w' => o = .returned (.tuple #[]) ∧ ∃ hs' D', lh w0 G (relHo H sent) f1 f3 hs' nm D' w') := release_any h sent hwf
  clear h hwf
  go_enter Tryz.func63, Tryz.ntmps63
  go_wp2_with (first | (go_at_call 64; refine HS.out.mono ?_; rintro o w5 ⟨rfl, hs', D', hq⟩; have HQ : Hid (lh w0 G (relHo H sent) f1 f3 hs' nm D' w5) := hq; clear hq))
  first | go_end0 | (simp only [Exit.inBlock, Exit.then]; refine bodyPost_ret (results_none rfl _ _ _) rfl ?_) | refine bodyPost_ret (results_none rfl _ _ _) rfl ?_
  exact ⟨rfl, hs', D', HQ.out⟩
theorem okBxs.wf {st : Int} {bx : List R8} (h : okBxs st bx) : ∀ j (hj : j < bx.length), (Lit.int .i64 bx[j].y).wf = true := fun j hj => by
  have := h.1 j hj
  unfold okBx at this
  split at this
  · rw [this.1]
    exact wf_small (by omega) (by omega)
  · exact wf_small (by omega) (by omega)
theorem open_release (w : World) (H : Ho) (s : Sl) (Bx : Nat) (sent : Bool) (h : isHo w H s) (hs : slSome s) (hok : okHo H) (hm : H.le 1048576) (yb : w.cell? ⟨Bx, 0, none⟩ = some (.bool sent)) :
    Calls Tryz.prog 61 #[.agg (hoL H s).toArray] w fun o w' => ∃ P, o = .returned (.pointer (some ⟨P, 0, none⟩)) ∧ Below w.heap.size w w' ∧ Calls Tryz.prog 63 #[.pointer (some ⟨P, 0, none⟩), .pointer (some ⟨Bx, 0, none⟩)] w' fun o w2 => o = .returned (.tuple #[]) ∧ Below w.heap.size w w2 ∧ Calls Tryz.prog 118 #[.pointer (some ⟨P, 0, none⟩)] w2 (toldQ w2 (relHo H sent)) := by
  refine (open_lh w H s h hs hok hm).mono ?_
  rintro o w' ⟨G, hd, rfl, hl, hn⟩
  refine ⟨G.P, rfl, hl.b, (lit63 hl Bx sent ((hl.b.cell (by exact World.block_lt_of_cell? w _ yb)).trans yb) hok.bx.wf).mono ?_⟩
  rintro o w2 ⟨rfl, hs', D', h2⟩
  exact ⟨rfl, h2.b, h2.told⟩
end Go.Proofs.YtaamahohdnbpiaaGreat
