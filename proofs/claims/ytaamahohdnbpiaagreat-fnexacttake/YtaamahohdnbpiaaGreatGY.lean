import Derived.Test.YtaamahohdnbpiaaGreatGW
import Derived.Test.YtaamahohdnbpiaaGreatMI
import Derived.Test.YtaamahohdnbpiaaGreatMV
import Derived.Test.YtaamahohdnbpiaaGreatGL
import Derived.Test.YtaamahohdnbpiaaGreatGI
namespace Go.Proofs.YtaamahohdnbpiaaGreat
open Go.RowKit
set_option linter.unusedVariables false
theorem ring5.base {w0 w W : World} {g room first : Nat} {L : List R5} (h : ring5 w0 W g room first L) (hb : Below w0.heap.size w0 w) : ring5 w W g room first L := fun i hi => by
  obtain ⟨ao, m, c, h1, h2⟩ := h i hi
  exact ⟨ao, m, c, h1, h2.below hb⟩
theorem ring8.base {w0 w W : World} {g room first : Nat} {L : List R8} (h : ring8 w0 W g room first L) (hb : Below w0.heap.size w0 w) : ring8 w W g room first L := fun i hi => by
  obtain ⟨ao, m, c, h1, h2⟩ := h i hi
  exact ⟨ao, m, c, h1, h2.below hb⟩
/-- what told answers of the host H -/
def toldQ (w : World) (H : Ho) (e : Ending) (w' : World) : Prop := ∃ s : Wh, e = .returned (.agg (hoL H s.sl).toArray) ∧ St w.heap.size w' (fun W => isHo W H s.sl) ∧ whS w.heap.size w'.heap.size w' s ∧ whD s ∧ whE s ∧ Below w.heap.size w w'
set_option maxHeartbeats 1000000 in
/-- a live host behind send: told -/
theorem sent_told {w : World} {P mb : Nat} {c0 c2 : Int} {r1 r3 : Nat} {fs : List R3} {bx : List R8} {ff : List R5} {qu : List R8} {lo st : Int} {gf n1 kf gb n2 kb gr n3 gq n4 : Nat} {W w2 : World} {i : Int}
    (h : lvS Unit w P mb [.int .i64 c0, .int .i64 (r1 : Int), .int .i64 c2, .int .i64 (r3 : Int), .slice (some ⟨gf, 0, none⟩) n1 kf, .slice (some ⟨gb, 0, none⟩) n2 kb, .map (some mb), .slice (some ⟨gr, 0, none⟩) r1 r1, .int .i64 0, .int .i64 (n3 : Int), .slice (some ⟨gq, 0, none⟩) r3 r3, .int .i64 0, .int .i64 (n4 : Int), .int .i64 lo, .int .i64 st] gf n1 kf fs gb n2 kb bx gr r1 ff gq r3 qu n2 W)
    (hs : sendQ W gb bx i w2) (m1 : n1 ≤ 1000) (m2 : n2 ≤ 8) (e3 : n3 = ff.length) (e4 : n4 = qu.length) (b1 : 1 ≤ r1 ∧ r1 ≤ 1000 ∧ n3 ≤ r1) (b3 : 1 ≤ r3 ∧ r3 ≤ 1000 ∧ n4 ≤ r3)
    (s2 : ∀ j (h : j < bx.length), bx[j].l.length ≤ 1048576) (s3 : ∀ j (h : j < ff.length), ff[j].l.length ≤ 1048576) (s4 : ∀ j (h : j < qu.length), qu[j].l.length ≤ 1048576) :
    Below w.heap.size w w2 ∧ Calls Tryz.prog 118 #[.pointer (some ⟨P, 0, none⟩)] w2 (toldQ w2 ⟨c0, (r1 : Int), c2, (r3 : Int), fs, takeB bx i, ff, qu, lo, st⟩) := by
  obtain ⟨W1, hb1, hc⟩ := hs
  have h1 := h.below hb1
  have hgw : w.heap.size ≤ gb := by have := h.lo; have := h.d.1; omega
  have key : Below w.heap.size w w2 ∧ (∀ x, x ≠ gb → w2.heap[x]? = W1.heap[x]?) ∧ isR8s w2 (some ⟨gb, 0, none⟩) n2 kb (takeB bx i) := by
    have hx := (h1.x.k W1 rfl h1.b).1
    rcases hc with ⟨rfl, e⟩ | ⟨k, hk, rfl, e, ex⟩
    · rw [e]
      exact ⟨h1.b, fun _ _ => rfl, hx⟩
    · rw [e]
      exact ⟨h1.b.setCell (by exact hgw) _, fun x hx => heap_setCell_other W1 ⟨gb, k * 8, none⟩ x _ hx, hx.setX k hk 2⟩
  obtain ⟨kb2, koth, kbx⟩ := key
  refine ⟨kb2, told_any w2 P mb c0 c2 r1 r3 fs (takeB bx i) ff qu lo st gf n1 kf gb n2 kb gr 0 n3 gq 0 n4 ?_ ?_ kbx ?_ ?_ e3 e4 m1 (by omega) ⟨by omega, b1.2.1, b1.2.2⟩ ⟨by omega, b3.2.1, b3.2.2⟩ (fun j hj => ?_) s3 s4⟩
  · exact h1.p.kept (koth P (fun e => h1.x.n1 e.symm))
  · exact h1.f.k w2 (koth gf (by have := h.d.1; omega)) kb2
  · exact (h1.r.k w2 (koth gr (by have := h.d.2.1; omega)) kb2).1.base kb2
  · exact (h1.q.k w2 (koth gq (by have := h.d; omega)) kb2).1.base kb2
  · have hj' : j < bx.length := by rw [takeB_len] at hj; exact hj
    rw [takeB_l bx i j hj hj']
    exact s2 j hj'
set_option maxHeartbeats 1000000 in
/-- Take's function literal -/
theorem lit65 (W : World) (P Bx gb n kb : Nat) (bx : List R8) (i : Int) (yb : W.cell? ⟨Bx, 0, none⟩ = some (.int .i64 i)) (y5 : W.cell? ⟨P, 5, none⟩ = some (.slice (some ⟨gb, 0, none⟩) n kb)) (h : isR8s W (some ⟨gb, 0, none⟩) n kb bx) (hrf : rowF W gb (n * 8)) (hn : n ≤ 8) :
    Calls Tryz.prog 65 #[.pointer (some ⟨P, 0, none⟩), .pointer (some ⟨Bx, 0, none⟩)] W fun o w' => o = .returned (.tuple #[]) ∧ sendQ W gb bx i w' := by
  have HS : Hid (Calls Tryz.prog 66 #[.pointer (some ⟨P, 0, none⟩), .int .i64 i] W fun o w' => o = .returned (.tuple #[]) ∧ sendQ W gb bx i w') := send_any W P gb n kb bx i y5 h hrf hn
  clear h hrf y5
  go_enter Tryz.func65, Tryz.ntmps65
  go_wp2_with (first | (go_at_call 66; refine HS.out.mono ?_; rintro o w5 ⟨rfl, hq⟩; have HQ : Hid (sendQ W gb bx i w5) := hq; clear hq))
  first | go_end0 | (simp only [Exit.inBlock, Exit.then]; refine bodyPost_ret (results_none rfl _ _ _) rfl ?_) | refine bodyPost_ret (results_none rfl _ _ _) rfl ?_
  exact ⟨rfl, HQ.out⟩
set_option maxHeartbeats 1000000 in
theorem open_take (w : World) (H : Ho) (s : Sl) (Bx : Nat) (i : Int) (h : isHo w H s) (hs : slSome s) (hok : okHo H) (hm : H.le 1048576) (yb : w.cell? ⟨Bx, 0, none⟩ = some (.int .i64 i)) :
    Calls Tryz.prog 61 #[.agg (hoL H s).toArray] w fun o w' => ∃ P, o = .returned (.pointer (some ⟨P, 0, none⟩)) ∧ Below w.heap.size w w' ∧ Calls Tryz.prog 65 #[.pointer (some ⟨P, 0, none⟩), .pointer (some ⟨Bx, 0, none⟩)] w' fun o w2 => o = .returned (.tuple #[]) ∧ Below w.heap.size w w2 ∧ Calls Tryz.prog 118 #[.pointer (some ⟨P, 0, none⟩)] w2 (toldQ w2 (takeHo H i)) := by
  obtain ⟨c0, c1, c2, c3, fs, bx, ff, qu, lo, st⟩ := H
  obtain ⟨a1, n1, k1, a2, n2, k2, a3, n3, k3, a4, n4, k4⟩ := s
  obtain ⟨⟨g1, e1⟩, ⟨g2, e2⟩⟩ := hs
  simp only [] at e1 e2
  subst e1 e2
  have hcf := of_decide_eq_true hok.cf
  have hnf := hok.nf
  have hnq := hok.nq
  have l1 := h.fs.len
  have l2 := h.bx.len
  have l3 := h.ff.len
  have l4 := h.qu.len
  have hf16 : fs.length ≤ 16 := by
    have := hok.fs
    unfold okFs at this
    simp at this
    exact this.1
  have hm2 := hm.bd
  have hm3 := hm.fd
  have hm4 := hm.qd
  have hm1 := hm.fs
  simp only [] at hcf hnf hnq l1 l2 l3 l4 hm1 hm2 hm3 hm4
  have hn2 := hok.n2
  simp only [] at hn2
  obtain ⟨r1, hr1⟩ : ∃ r1 : Nat, c1 = (r1 : Int) := ⟨c1.toNat, by omega⟩
  obtain ⟨r3, hr3⟩ : ∃ r3 : Nat, c3 = (r3 : Int) := ⟨c3.toNat, by omega⟩
  subst hr1 hr3
  refine (openHost_any Unit w c0 c2 r1 r3 fs bx ff qu lo st g1 n1 k1 g2 0 n2 k2 a3 n3 k3 a4 n4 k4 h.fs h.bx h.ff h.qu (by omega) (by omega) (by omega) (by omega) hok.bx).mono ?_
  rintro o w' ⟨P, mb, gf, kf, gb, kb, gr, gq, rfl, hl⟩
  refine ⟨P, rfl, hl.b, (lit65 w' P Bx gb n2 kb bx i ((hl.b.cell (by exact World.block_lt_of_cell? w _ yb)).trans yb) (hl.p.cell 5 _ rfl) (hl.x.k w' rfl hl.b).1 (hl.x.k w' rfl hl.b).2.F (by omega)).mono ?_⟩
  rintro o w2 ⟨rfl, hq⟩
  have := sent_told hl hq (by omega) (by omega) l3 l4 (by omega) (by omega) hm2 hm3 hm4
  exact ⟨rfl, this.1, this.2⟩
end Go.Proofs.YtaamahohdnbpiaaGreat
namespace Go.Proofs.YtaamahohdnbpiaaGreat
open Go.RowKit
set_option linter.unusedVariables false
theorem whS.mono {B T B' T' : Nat} {W : World} {s : Wh} (h : whS B T W s) (hB : B' ≤ B) (hT : T ≤ T') : whS B' T' W s :=
  ⟨h.f, h.fc, ⟨by have := h.fb.1; omega, by have := h.fb.2; omega⟩, h.x, h.xb.mono hB hT, h.r, h.rb.mono hB hT, h.q, h.qb.mono hB hT, h.m1, h.m2, h.m3, h.m4⟩
/-- told's answer, behind a store into another block -/
theorem toldQ.put {w w3 w4 w8 : World} {H : Ho} {s4 : Wh} {R : Nat} (hz : w.heap.size ≤ w3.heap.size) (hR : R < w3.heap.size) (q1 : St w3.heap.size w4 (fun W => isHo W H s4.sl)) (q2 : whS w3.heap.size w4.heap.size w4 s4) (oth : ∀ x, x ≠ R → w8.heap[x]? = w4.heap[x]?) (hs : w8.heap.size = w4.heap.size) : St w.heap.size w8 (fun W => isHo W H s4.sl) ∧ whS w.heap.size w8.heap.size w8 s4 := by
  refine ⟨fun W hW => q1 W (fun x h1 h2 => (hW x (by omega) (by omega)).trans (oth x (by omega))), ?_⟩
  rw [hs]
  exact (q2.same (fun x h1 h2 => oth x (by omega))).mono hz (Nat.le_refl _)
theorem vOk (W : World) (H : Ho) (s : Sl) (h : isHo W H s) (hn : H.le 1048576) (hok : okHo H) : Calls Tryz.prog 60 #[.agg (hoL H s).toArray] W fun o w' => o = .returned (.bool true) ∧ Below W.heap.size W w' := (validHost_any W H s h hn).mono (by rintro o w' ⟨⟨b, rfl, hb⟩, h2⟩; rw [hb.2 hok]; exact ⟨rfl, h2⟩)
theorem vBad (W : World) (H : Ho) (s : Sl) (h : isHo W H s) (hn : H.le 1048576) (hok : ¬ okHo H) : Calls Tryz.prog 60 #[.agg (hoL H s).toArray] W fun o w' => o = .returned (.bool false) ∧ Below W.heap.size W w' := (validHost_any W H s h hn).mono (by rintro o w' ⟨⟨b, rfl, hb⟩, h2⟩; cases b; exact ⟨rfl, h2⟩; exact absurd (hb.1 rfl) hok)
set_option maxHeartbeats 8000000 in
set_option maxRecDepth 20000 in
/-- impl.changed by Take's literal -/
theorem changed65 (w : World) (H : Ho) (s : Sl) (Bx : Nat) (i : Int) (h : isHo w H s) (hs : slSome s) (hn : H.le 1048576) (yb : w.cell? ⟨Bx, 0, none⟩ = some (.int .i64 i)) :
    Calls Tryz.prog 56 #[.agg (hoL H s).toArray, .func (.func 65) #[] #[.pointer (some ⟨Bx, 0, none⟩)]] w fun o w' => (okHo H ∧ toldQ w (takeHo H i) o w') ∨ (¬ okHo H ∧ o = .returned (.agg [.int .i64 0, .int .i64 0, .int .i64 0, .int .i64 0, .slice none 0 0, .slice none 0 0, .slice none 0 0, .slice none 0 0, .int .i64 0, .int .i64 0].toArray) ∧ Below w.heap.size w w') := by
  have H0 : Hid (dtS w H s ((w.alloc (.cells (hoL H s).toArray 35)).alloc (.cells [.int .i64 0, .int .i64 0, .int .i64 0, .int .i64 0, .slice none 0 0, .slice none 0 0, .slice none 0 0, .slice none 0 0, .int .i64 0, .int .i64 0].toArray 35))) := dtS.new w H s
  have HYB : Hid (∀ W, Below w.heap.size w W → W.cell? ⟨Bx, 0, none⟩ = some (.int .i64 i)) := fun W hW => (hW.cell (by exact World.block_lt_of_cell? w _ yb)).trans yb
  clear yb
  by_cases hok : okHo H
  · have HV : Hid (∀ W, Below w.heap.size w W → Calls Tryz.prog 60 #[.agg (hoL H s).toArray] W fun o w' => o = .returned (.bool true) ∧ Below W.heap.size W w') := fun W hW => vOk W H s (h.below hW) hn hok
    have HO : Hid (∀ W, Below w.heap.size w W → Calls Tryz.prog 61 #[.agg (hoL H s).toArray] W fun o w' => ∃ P, o = .returned (.pointer (some ⟨P, 0, none⟩)) ∧ Below W.heap.size W w' ∧ Calls Tryz.prog 65 #[.pointer (some ⟨P, 0, none⟩), .pointer (some ⟨Bx, 0, none⟩)] w' fun o w2 => o = .returned (.tuple #[]) ∧ Below W.heap.size W w2 ∧ Calls Tryz.prog 118 #[.pointer (some ⟨P, 0, none⟩)] w2 (toldQ w2 (takeHo H i))) := fun W hW => open_take W H s Bx i (h.below hW) hs hok hn (HYB.out W hW)
    have HOK : Hid (okHo H) := hok
    clear h hn hok hs
    go_enter Tryz.func56, Tryz.ntmps56
    go_wp2_with (first
      | (refine wpList_load_mid (P := Tryz.prog) rfl 35 _ rfl w.heap.size 0 rfl (hoL H s) _ H0.out.p.load Tryz.underlying35 rfl (sz41L H s) ?_))
    refine (HV.out _ H0.out.b).mono ?_
    rintro o w1 ⟨rfl, hb1⟩
    have H1 : Hid (dtS w H s w1) := H0.out.below hb1
    clear H0 hb1
    go_wp2_with (first
      | (refine wpList_load_mid (P := Tryz.prog) rfl 35 _ rfl w.heap.size 0 rfl (hoL H s) _ H1.out.p.load Tryz.underlying35 rfl (sz41L H s) ?_))
    refine (HO.out _ H1.out.b).mono ?_
    rintro o w2 ⟨P, rfl, hb2, hc2⟩
    have HC2 : Hid (Calls Tryz.prog 65 #[.pointer (some ⟨P, 0, none⟩), .pointer (some ⟨Bx, 0, none⟩)] w2 fun o w3 => o = .returned (.tuple #[]) ∧ Below w1.heap.size w1 w3 ∧ Calls Tryz.prog 118 #[.pointer (some ⟨P, 0, none⟩)] w3 (toldQ w3 (takeHo H i))) := hc2
    clear hc2 hb2
    go_wp2_with fail
    refine (Calls.mono HC2.out) ?_
    rintro o w3 ⟨rfl, hb3, hc3⟩
    have H3 : Hid (dtS w H s w3) := H1.out.below hb3
    have HC3 : Hid (Calls Tryz.prog 118 #[.pointer (some ⟨P, 0, none⟩)] w3 (toldQ w3 (takeHo H i))) := hc3
    clear hc3 hb3 HC2 H1
    go_wp2_with fail
    refine (Calls.mono HC3.out) ?_
    rintro o w4 ⟨s4, rfl, q1, q2, q3, q4, hb4⟩
    have H4 : Hid (dtS w H s w4) := H3.out.below hb4
    have HQ : Hid (St w3.heap.size w4 (fun W => isHo W (takeHo H i) s4.sl) ∧ whS w3.heap.size w4.heap.size w4 s4 ∧ whD s4 ∧ whE s4) := ⟨q1, q2, q3, q4⟩
    clear q1 q2 q3 q4 hb4 HC3
    go_wp2_with (first
      | (refine wpList_store_mid (P := Tryz.prog) rfl 35 (.tmp 4) _ rfl (w.heap.size + 1) 0 (hoL (takeHo H i) s4.sl).toArray rfl rfl (H4.out.r.there 0 _ (by rw [List.size_toArray, hoL_len]; decide)) (sz41A (takeHo H i) s4.sl) (hoL_one (takeHo H i) s4.sl) ?_; generalize hW8 : World.setCells _ (w.heap.size + 1) 0 _ = w8; have HW8 : Hid (_ = w8) := hW8; clear hW8))
    have e8 := HW8.out
    have hF : blk w8 (w.heap.size + 1) (hoL (takeHo H i) s4.sl) 35 := by
      rw [← e8]
      have := blk.put [] Z10 [] (hoL (takeHo H i) s4.sl) (w := w4) (b := w.heap.size + 1) (T := 35) (by simpa using H4.out.r) (by rw [hoL_len]; rfl)
      simpa using this
    have hL := run_loadVar_mid (P := Tryz.prog) w8 (w.heap.size + 1) 0 35 _ _ hF.load Tryz.underlying35 rfl (sz41L (takeHo H i) s4.sl)
    refine bodyPost_ret (v := .agg (hoL (takeHo H i) s4.sl).toArray) (results_cell Tryz.results56 _ w8 (w.heap.size + 1) _ rfl hL) rfl ?_
    have oth : ∀ x, x ≠ w.heap.size + 1 → w8.heap[x]? = w4.heap[x]? := fun x hx => by rw [← e8]; exact setCells_other _ x hx _ _ _
    have hsz : w8.heap.size = w4.heap.size := by rw [← e8]; exact setCells_size ..
    have hp := toldQ.put (w := w) H3.out.b.size H3.out.r.lt HQ.out.1 HQ.out.2.1 oth hsz
    exact Or.inl ⟨HOK.out, s4, rfl, hp.1, hp.2, HQ.out.2.2.1, HQ.out.2.2.2, by rw [← e8]; exact setCells_below (by omega) 0 _ H4.out.b⟩
  · have HV : Hid (∀ W, Below w.heap.size w W → Calls Tryz.prog 60 #[.agg (hoL H s).toArray] W fun o w' => o = .returned (.bool false) ∧ Below W.heap.size W w') := fun W hW => vBad W H s (h.below hW) hn hok
    have HOK : Hid (¬ okHo H) := hok
    clear h hn hok hs
    go_enter Tryz.func56, Tryz.ntmps56
    go_wp2_with (first
      | (refine wpList_load_mid (P := Tryz.prog) rfl 35 _ rfl w.heap.size 0 rfl (hoL H s) _ H0.out.p.load Tryz.underlying35 rfl (sz41L H s) ?_))
    refine (HV.out _ H0.out.b).mono ?_
    rintro o w1 ⟨rfl, hb1⟩
    have H1 : Hid (dtS w H s w1) := H0.out.below hb1
    clear H0 hb1
    go_wp2_with (first
      | (refine wpList_store_mid (P := Tryz.prog) rfl 35 (.tmp 4) _ rfl (w.heap.size + 1) 0 [.int .i64 0, .int .i64 0, .int .i64 0, .int .i64 0, .slice none 0 0, .slice none 0 0, .slice none 0 0, .slice none 0 0, .int .i64 0, .int .i64 0].toArray rfl rfl (H1.out.r.there 0 10 (by simp [Z10])) sz41 (all_oneCell_toArray (by simp [Value.oneCell'])) ?_; generalize hW8 : World.setCells _ (w.heap.size + 1) 0 _ = w8; have HW8 : Hid (_ = w8) := hW8; clear hW8))
    have e8 := HW8.out
    have hF : blk w8 (w.heap.size + 1) [.int .i64 0, .int .i64 0, .int .i64 0, .int .i64 0, .slice none 0 0, .slice none 0 0, .slice none 0 0, .slice none 0 0, .int .i64 0, .int .i64 0] 35 := by
      rw [← e8]
      have := blk.put [] Z10 [] [.int .i64 0, .int .i64 0, .int .i64 0, .int .i64 0, .slice none 0 0, .slice none 0 0, .slice none 0 0, .slice none 0 0, .int .i64 0, .int .i64 0] (w := w1) (b := w.heap.size + 1) (T := 35) (by simpa using H1.out.r) rfl
      simpa using this
    have hL := run_loadVar_mid (P := Tryz.prog) w8 (w.heap.size + 1) 0 35 _ _ hF.load Tryz.underlying35 rfl sz41
    refine bodyPost_ret (v := .agg [.int .i64 0, .int .i64 0, .int .i64 0, .int .i64 0, .slice none 0 0, .slice none 0 0, .slice none 0 0, .slice none 0 0, .int .i64 0, .int .i64 0].toArray) (results_cell Tryz.results56 _ w8 (w.heap.size + 1) _ rfl hL) rfl ?_
    exact Or.inr ⟨HOK.out, rfl, by rw [← e8]; exact setCells_below (by omega) 0 _ H1.out.b⟩
end Go.Proofs.YtaamahohdnbpiaaGreat
namespace Go.Proofs.YtaamahohdnbpiaaGreat
open Go.RowKit
set_option linter.unusedVariables false
structure itS (w : World) (H : Ho) (s : Sl) (i : Int) (W : World) : Prop where
  p : blk W w.heap.size (hoL H s) 35
  x : blk W (w.heap.size + 1) [.int .i64 i] 3
  r : blk W (w.heap.size + 1 + 1) Z10 35
  b : Below w.heap.size w W
theorem itS.below {w : World} {H : Ho} {s : Sl} {i : Int} {W W' : World} (h : itS w H s i W) (hb : Below W.heap.size W W') : itS w H s i W' := ⟨h.p.below hb, h.x.below hb, h.r.below hb, h.b.trans (hb.mono h.b.size)⟩
theorem itS.new (w : World) (H : Ho) (s : Sl) (i : Int) : itS w H s i (((w.alloc (.cells (hoL H s).toArray 35)).alloc (.cells #[.int .i64 i] 3)).alloc (.cells [.int .i64 0, .int .i64 0, .int .i64 0, .int .i64 0, .slice none 0 0, .slice none 0 0, .slice none 0 0, .slice none 0 0, .int .i64 0, .int .i64 0].toArray 35)) := by
  refine ⟨((blk.new w _ 35).alloc _).alloc _, ?_, ?_, (((Below.refl _ _).alloc (Nat.le_refl _) _).alloc (by simp) _).alloc (by simp; omega) _⟩
  · have := (blk.new (w.alloc (.cells (hoL H s).toArray 35)) [.int .i64 i] 3).alloc (.cells [.int .i64 0, .int .i64 0, .int .i64 0, .int .i64 0, .slice none 0 0, .slice none 0 0, .slice none 0 0, .slice none 0 0, .int .i64 0, .int .i64 0].toArray 35)
    simpa using this
  · have := blk.new ((w.alloc (.cells (hoL H s).toArray 35)).alloc (.cells #[.int .i64 i] 3)) Z10 35
    have e : ((w.alloc (.cells (hoL H s).toArray 35)).alloc (.cells #[.int .i64 i] 3)).heap.size = w.heap.size + 1 + 1 := by simp
    rw [e] at this
    exact this
set_option maxHeartbeats 8000000 in
set_option maxRecDepth 20000 in
/-- impl.Take -/
theorem implTake_any (w : World) (H : Ho) (s : Sl) (i : Int) (h : isHo w H s) (hs : slSome s) (hn : H.le 1048576) :
    Calls Tryz.prog 19 #[.agg (hoL H s).toArray, .int .i64 i] w fun o w' => (okHo H ∧ toldQ w (takeHo H i) o w') ∨ (¬ okHo H ∧ o = .returned (.agg [.int .i64 0, .int .i64 0, .int .i64 0, .int .i64 0, .slice none 0 0, .slice none 0 0, .slice none 0 0, .slice none 0 0, .int .i64 0, .int .i64 0].toArray) ∧ Below w.heap.size w w') := by
  have H0 : Hid (itS w H s i (((w.alloc (.cells (hoL H s).toArray 35)).alloc (.cells #[.int .i64 i] 3)).alloc (.cells [.int .i64 0, .int .i64 0, .int .i64 0, .int .i64 0, .slice none 0 0, .slice none 0 0, .slice none 0 0, .slice none 0 0, .int .i64 0, .int .i64 0].toArray 35))) := itS.new w H s i
  have HC : Hid (∀ W, itS w H s i W → Calls Tryz.prog 56 #[.agg (hoL H s).toArray, .func (.func 65) #[] #[.pointer (some ⟨w.heap.size + 1, 0, none⟩)]] W fun o w' => (okHo H ∧ toldQ W (takeHo H i) o w') ∨ (¬ okHo H ∧ o = .returned (.agg [.int .i64 0, .int .i64 0, .int .i64 0, .int .i64 0, .slice none 0 0, .slice none 0 0, .slice none 0 0, .slice none 0 0, .int .i64 0, .int .i64 0].toArray) ∧ Below W.heap.size W w')) := fun W hW => changed65 W H s (w.heap.size + 1) i (h.below hW.b) hs hn (hW.x.cell 0 _ rfl)
  have hmf : ∀ (fn : Fn) (first cap : Array Value) (w : World), (Instr.makeFunc fn first cap).run Tryz.prog w = .ok (.func fn first cap) w := fun _ _ _ _ => rfl
  clear h hn hs
  go_enter Tryz.func19, Tryz.ntmps19
  go_wp2_with (first
    | (refine wpList_load_mid (P := Tryz.prog) rfl 35 _ rfl w.heap.size 0 rfl (hoL H s) _ H0.out.p.load Tryz.underlying35 rfl (sz41L H s) ?_))
  refine (HC.out _ H0.out).mono ?_
  rintro o w1 (⟨hok, s4, rfl, q1, q2, q3, q4, hb4⟩ | ⟨hok, rfl, hb4⟩)
  · have H4 : Hid (itS w H s i w1) := H0.out.below hb4
    have HQ : Hid (St (((w.alloc (.cells (hoL H s).toArray 35)).alloc (.cells #[.int .i64 i] 3)).alloc (.cells [.int .i64 0, .int .i64 0, .int .i64 0, .int .i64 0, .slice none 0 0, .slice none 0 0, .slice none 0 0, .slice none 0 0, .int .i64 0, .int .i64 0].toArray 35)).heap.size w1 (fun W => isHo W (takeHo H i) s4.sl) ∧ whS (((w.alloc (.cells (hoL H s).toArray 35)).alloc (.cells #[.int .i64 i] 3)).alloc (.cells [.int .i64 0, .int .i64 0, .int .i64 0, .int .i64 0, .slice none 0 0, .slice none 0 0, .slice none 0 0, .slice none 0 0, .int .i64 0, .int .i64 0].toArray 35)).heap.size w1.heap.size w1 s4 ∧ whD s4 ∧ whE s4) := ⟨q1, q2, q3, q4⟩
    have HOK : Hid (okHo H) := hok
    have HZ : Hid (w.heap.size ≤ (((w.alloc (.cells (hoL H s).toArray 35)).alloc (.cells #[.int .i64 i] 3)).alloc (.cells [.int .i64 0, .int .i64 0, .int .i64 0, .int .i64 0, .slice none 0 0, .slice none 0 0, .slice none 0 0, .slice none 0 0, .int .i64 0, .int .i64 0].toArray 35)).heap.size ∧ w.heap.size + 1 + 1 < (((w.alloc (.cells (hoL H s).toArray 35)).alloc (.cells #[.int .i64 i] 3)).alloc (.cells [.int .i64 0, .int .i64 0, .int .i64 0, .int .i64 0, .slice none 0 0, .slice none 0 0, .slice none 0 0, .slice none 0 0, .int .i64 0, .int .i64 0].toArray 35)).heap.size) := ⟨H0.out.b.size, H0.out.r.lt⟩
    clear q1 q2 q3 q4 hb4 hok HC H0
    go_wp2_with (first
      | (refine wpList_store_mid (P := Tryz.prog) rfl 35 (.tmp 4) _ rfl (w.heap.size + 1 + 1) 0 (hoL (takeHo H i) s4.sl).toArray rfl rfl (H4.out.r.there 0 _ (by rw [List.size_toArray, hoL_len]; decide)) (sz41A (takeHo H i) s4.sl) (hoL_one (takeHo H i) s4.sl) ?_; generalize hW8 : World.setCells _ (w.heap.size + 1 + 1) 0 _ = w8; have HW8 : Hid (_ = w8) := hW8; clear hW8))
    have e8 := HW8.out
    have hF : blk w8 (w.heap.size + 1 + 1) (hoL (takeHo H i) s4.sl) 35 := by
      rw [← e8]
      have := blk.put [] Z10 [] (hoL (takeHo H i) s4.sl) (w := w1) (b := w.heap.size + 1 + 1) (T := 35) (by simpa using H4.out.r) (by rw [hoL_len]; rfl)
      simpa using this
    have hL := run_loadVar_mid (P := Tryz.prog) w8 (w.heap.size + 1 + 1) 0 35 _ _ hF.load Tryz.underlying35 rfl (sz41L (takeHo H i) s4.sl)
    refine bodyPost_ret (v := .agg (hoL (takeHo H i) s4.sl).toArray) (results_cell Tryz.results19 _ w8 (w.heap.size + 1 + 1) _ rfl hL) rfl ?_
    have oth : ∀ x, x ≠ w.heap.size + 1 + 1 → w8.heap[x]? = w1.heap[x]? := fun x hx => by rw [← e8]; exact setCells_other _ x hx _ _ _
    have hsz : w8.heap.size = w1.heap.size := by rw [← e8]; exact setCells_size ..
    have hp := toldQ.put (w := w) HZ.out.1 HZ.out.2 HQ.out.1 HQ.out.2.1 oth hsz
    exact Or.inl ⟨HOK.out, s4, rfl, hp.1, hp.2, HQ.out.2.2.1, HQ.out.2.2.2, by rw [← e8]; exact setCells_below (by omega) 0 _ H4.out.b⟩
  · have H4 : Hid (itS w H s i w1) := H0.out.below hb4
    have HOK : Hid (¬ okHo H) := hok
    clear hb4 hok HC H0
    go_wp2_with (first
      | (refine wpList_store_mid (P := Tryz.prog) rfl 35 (.tmp 4) _ rfl (w.heap.size + 1 + 1) 0 [.int .i64 0, .int .i64 0, .int .i64 0, .int .i64 0, .slice none 0 0, .slice none 0 0, .slice none 0 0, .slice none 0 0, .int .i64 0, .int .i64 0].toArray rfl rfl (H4.out.r.there 0 10 (by simp [Z10])) sz41 (all_oneCell_toArray (by simp [Value.oneCell'])) ?_; generalize hW8 : World.setCells _ (w.heap.size + 1 + 1) 0 _ = w8; have HW8 : Hid (_ = w8) := hW8; clear hW8))
    have e8 := HW8.out
    have hF : blk w8 (w.heap.size + 1 + 1) [.int .i64 0, .int .i64 0, .int .i64 0, .int .i64 0, .slice none 0 0, .slice none 0 0, .slice none 0 0, .slice none 0 0, .int .i64 0, .int .i64 0] 35 := by
      rw [← e8]
      have := blk.put [] Z10 [] [.int .i64 0, .int .i64 0, .int .i64 0, .int .i64 0, .slice none 0 0, .slice none 0 0, .slice none 0 0, .slice none 0 0, .int .i64 0, .int .i64 0] (w := w1) (b := w.heap.size + 1 + 1) (T := 35) (by simpa using H4.out.r) rfl
      simpa using this
    have hL := run_loadVar_mid (P := Tryz.prog) w8 (w.heap.size + 1 + 1) 0 35 _ _ hF.load Tryz.underlying35 rfl sz41
    refine bodyPost_ret (v := .agg [.int .i64 0, .int .i64 0, .int .i64 0, .int .i64 0, .slice none 0 0, .slice none 0 0, .slice none 0 0, .slice none 0 0, .int .i64 0, .int .i64 0].toArray) (results_cell Tryz.results19 _ w8 (w.heap.size + 1 + 1) _ rfl hL) rfl ?_
    exact Or.inr ⟨HOK.out, rfl, by rw [← e8]; exact setCells_below (by omega) 0 _ H4.out.b⟩
end Go.Proofs.YtaamahohdnbpiaaGreat
namespace Go.Proofs.YtaamahohdnbpiaaGreat
open Go.RowKit
set_option linter.unusedVariables false
/-- the host's memory is its own: what is marked in it is held -/
def MKQ (B : Nat) (T : Ho) (sg : Sl) (w : World) : Prop := ∀ W, (∀ x, B ≤ x → x < w.heap.size → W.heap[x]? = w.heap[x]?) → w.heap.size ≤ W.heap.size → Calls Tryz.prog 39 #[.agg (hoL T sg).toArray, .int .i64 1] W fun o w1 => ∃ k : Nat, o = .returned (.int .i64 (k : Int)) ∧ Below B W w1 ∧ (∀ x, w.heap.size ≤ x → x < W.heap.size → w1.heap[x]? = W.heap[x]?) ∧ ∀ W2, Below w1.heap.size w1 W2 → Calls Tryz.prog 41 #[.agg (hoL T sg).toArray, .int .i64 1] W2 fun o w2 => o = .returned (.int .i64 (k : Int)) ∧ Below W2.heap.size W2 w2
theorem whS.mkq {B : Nat} {w : World} {s : Wh} {H : Ho} (h : whS B w.heap.size w s) (hd : whD s) (he : whE s) : MKQ B H s.sl w := by
  intro W hW hz
  have hs : whS B w.heap.size W s := h.same hW
  refine (markHost_gen B w.heap.size W H.c0 H.c1 H.c2 H.c3 H.lo H.st s 1 hs hd hz (by omega)).mono ?_
  rintro o w1 ⟨rfl, hm, hs1, ho, hb⟩
  refine ⟨s.c4 1, rfl, hb, fun x h1 h2 => ho x (Or.inr h1) h2, fun W2 hW2 => ?_⟩
  have hz1 : w.heap.size ≤ w1.heap.size := Nat.le_trans hz hb.size
  have hs2 : whS B w.heap.size W2 s := hs1.same fun x _ hx => hW2.block x (by omega)
  have hm2 : whM W2 s 1 := (hm he).same hs1 fun x _ hx => hW2.block x (by omega)
  exact heldHost_gen B w.heap.size W2 H.c0 H.c1 H.c2 H.c3 H.lo H.st s 1 hs2 hm2 (Nat.le_trans hz1 hW2.size) (by omega)
theorem zHo_mkq (B : Nat) (w : World) (hB : B ≤ w.heap.size) : MKQ B zHo zSl w := by
  intro W hW hz
  refine (markHost_nil W 0 0 0 0 0 0 1 (by omega)).mono ?_
  rintro o w1 ⟨rfl, hb⟩
  refine ⟨1, rfl, hb.mono (by omega), fun x _ h2 => hb.block x h2, fun W2 hW2 => ?_⟩
  refine (heldHost_nil W2 0 0 0 0 0 0 1 (by omega)).mono ?_
  rintro o w2 ⟨rfl, hb2⟩
  exact ⟨rfl, hb2⟩
/-- impl.Take, both cases -/
theorem implT (w : World) (H : Ho) (s : Sl) (i : Int) (T : Ho) (hR : takeRel H i T) (h : isHo w H s) (hs : slSome s) (hn : H.le 1048576) :
    Calls Tryz.prog 19 #[.agg (hoL H s).toArray, .int .i64 i] w fun o w' => ∃ sg, o = .returned (.agg (hoL T sg).toArray) ∧ St w.heap.size w' (fun W => isHo W T sg) ∧ MKQ w.heap.size T sg w' ∧ Below w.heap.size w w' := by
  refine (implTake_any w H s i h hs hn).mono ?_
  rintro o w' (⟨hok, s4, rfl, q1, q2, q3, q4, hb⟩ | ⟨hok, rfl, hb⟩)
  · have e := hR.yes hok
    subst e
    exact ⟨s4.sl, rfl, q1, q2.mkq q3 q4, hb⟩
  · have e := hR.no hok
    subst e
    exact ⟨zSl, rfl, fun W _ => zHo_is W, zHo_mkq _ _ hb.size, hb⟩
theorem takeR_le {H : Ho} {i : Int} {T : Ho} (hR : takeRel H i T) (h : H.le 1048576) : T.le 1048576 := by
  by_cases hok : okHo H
  · have e := hR.yes hok
    subst e
    refine ⟨h.fs, by show (takeB H.bx i).length ≤ _; rw [takeB_len]; exact h.bx, h.ff, h.qu, fun j hj => ?_, h.fd, h.qd⟩
    have hj' : j < H.bx.length := by rw [← takeB_len H.bx i]; exact hj
    have := takeB_l H.bx i j hj hj'
    show (takeB H.bx i)[j].l.length ≤ _
    rw [this]
    exact h.bd j hj'
  · have e := hR.no hok
    subst e
    exact ⟨by decide, by decide, by decide, by decide, fun j hj => (by cases hj), fun j hj => (by cases hj), fun j hj => (by cases hj)⟩
/-- the copy of the argument, marked -/
theorem xMark2 {B T : Nat} {W : World} {sx : Wh} {H : Ho} (h : whS B T W sx) (hd : whD sx) (hT : T ≤ W.heap.size) : Calls Tryz.prog 39 #[.agg (hoL H sx.sl).toArray, .int .i64 1] W fun o w1 => ∃ k : Nat, o = .returned (.int .i64 (k : Int)) ∧ (∀ x, T ≤ x → x < W.heap.size → w1.heap[x]? = W.heap[x]?) ∧ Below B W w1 := by
  refine (markHost_gen B T W H.c0 H.c1 H.c2 H.c3 H.lo H.st sx 1 h hd hT (by omega)).mono ?_
  rintro o w1 ⟨rfl, _, _, q, hb⟩
  exact ⟨_, rfl, fun x h1 h2 => q x (Or.inr h1) h2, hb⟩
theorem toWh (X : World) (H : Ho) (s : Sl) (h : isHo X H s) (hm : H.le 1048576) : Calls Tryz.prog 36 #[.agg (hoL H s).toArray] X fun o w' => ∃ s' : Wh, o = .returned (.agg (hoL H s'.sl).toArray) ∧ St X.heap.size w' (fun W => isHo W H s'.sl) ∧ whS X.heap.size w'.heap.size w' s' ∧ whD s' ∧ slSome s'.sl ∧ Below X.heap.size X w' := by
  rw [← hoV_L]
  refine (toHost_iv X H s h hm).mono ?_
  rintro o w' ⟨s', rfl, h1, h2⟩
  have hs : slSome s' := by
    obtain ⟨g1, g2, _, _, _, _, _, e, _⟩ := h1.now.2.e
    rw [e]
    exact ⟨⟨g1, rfl⟩, ⟨g2, rfl⟩⟩
  obtain ⟨s2, rfl, h3, h4⟩ := h1.now.2.wh h1.now.1 hm
  exact ⟨s2, by rw [hoV_L], fun W hW => (h1 W hW).1, h3, h4, hs, h2⟩
end Go.Proofs.YtaamahohdnbpiaaGreat
