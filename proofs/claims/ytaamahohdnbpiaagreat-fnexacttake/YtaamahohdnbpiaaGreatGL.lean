import Derived.Test.YtaamahohdnbpiaaGreatLK
import Derived.Deep.RegionHeld3
namespace Go.Proofs.YtaamahohdnbpiaaGreat
open Go.RowKit
set_option linter.unusedVariables false
theorem run_makeMapN (n : Nat) (W : World) : (Instr.makeMap 128 (some (.int .i64 (n : Int)))).run Tryz.prog W = .ok (.map (some W.heap.size)) (W.alloc (.map #[] 0)) := by
  simp [Instr.makeMap, go_sem]
set_option maxHeartbeats 8000000 in
set_option maxRecDepth 20000 in
/-- impl.openHost -/
theorem openHost_any (H : Type) (w : World) (c0 c2 : Int) (r1 r3 : Nat) (fs : List R3) (bx : List R8) (ff : List R5) (qu : List R8) (lo st : Int) (g1 n1 k1 g2 o2 n2 k2 : Nat) (a3 : Option Addr) (n3 k3 : Nat) (a4 : Option Addr) (n4 k4 : Nat) (h1 : isR3s w (some ⟨g1, 0, none⟩) n1 k1 fs) (h2 : isR8s w (some ⟨g2, o2, none⟩) n2 k2 bx) (h3 : isR5s w a3 n3 k3 ff) (h4 : isR8s w a4 n4 k4 qu) (m1 : n1 ≤ 1048576) (m2 : n2 ≤ 8) (hc1 : 1 ≤ r1 ∧ r1 ≤ 1000 ∧ n3 ≤ r1) (hc3 : 1 ≤ r3 ∧ r3 ≤ 1000 ∧ n4 ≤ r3) (hok : okBxs st bx) :
    Calls Tryz.prog 61 #[.agg #[.int .i64 c0, .int .i64 (r1 : Int), .int .i64 c2, .int .i64 (r3 : Int), .slice (some ⟨g1, 0, none⟩) n1 k1, .slice (some ⟨g2, o2, none⟩) n2 k2, .slice a3 n3 k3, .slice a4 n4 k4, .int .i64 lo, .int .i64 st]] w fun o w' => ∃ P mb gf kf gb kb gr gq, o = .returned (.pointer (some ⟨P, 0, none⟩)) ∧ lvS H w P mb [.int .i64 c0, .int .i64 (r1 : Int), .int .i64 c2, .int .i64 (r3 : Int), .slice (some ⟨gf, 0, none⟩) n1 kf, .slice (some ⟨gb, 0, none⟩) n2 kb, .map (some mb), .slice (some ⟨gr, 0, none⟩) r1 r1, .int .i64 0, .int .i64 (n3 : Int), .slice (some ⟨gq, 0, none⟩) r3 r3, .int .i64 0, .int .i64 (n4 : Int), .int .i64 lo, .int .i64 st] gf n1 kf fs gb n2 kb bx gr r1 ff gq r3 qu n2 w' := by
  have HSU : Hid (∀ (w1 : World) (P mb : Nat) (hb0 : Below w.heap.size w w1) (hP : blk w1 P [.int .i64 0, .int .i64 0, .int .i64 0, .int .i64 0, .slice none 0 0, .slice none 0 0, .map (some mb), .slice none 0 0, .int .i64 0, .int .i64 0, .slice none 0 0, .int .i64 0, .int .i64 0, .int .i64 0, .int .i64 0] 134) (hm : w1.heap[mb]? = some (.map #[] 0)) (hP0 : w.heap.size ≤ P) (hmb0 : w.heap.size ≤ mb) (hne : mb ≠ P), Calls Tryz.prog 129 #[.pointer (some ⟨P, 0, none⟩), .agg #[.int .i64 c0, .int .i64 (r1 : Int), .int .i64 c2, .int .i64 (r3 : Int), .slice (some ⟨g1, 0, none⟩) n1 k1, .slice (some ⟨g2, o2, none⟩) n2 k2, .slice a3 n3 k3, .slice a4 n4 k4, .int .i64 lo, .int .i64 st]] w1 fun o w' => ∃ gf kf gb kb gr gq, o = .returned (.tuple #[]) ∧ lvS H w P mb [.int .i64 c0, .int .i64 (r1 : Int), .int .i64 c2, .int .i64 (r3 : Int), .slice (some ⟨gf, 0, none⟩) n1 kf, .slice (some ⟨gb, 0, none⟩) n2 kb, .map (some mb), .slice (some ⟨gr, 0, none⟩) r1 r1, .int .i64 0, .int .i64 (n3 : Int), .slice (some ⟨gq, 0, none⟩) r3 r3, .int .i64 0, .int .i64 (n4 : Int), .int .i64 lo, .int .i64 st] gf n1 kf fs gb n2 kb bx gr r1 ff gq r3 qu n2 w') := fun w1 P mb hb0 hP hm hP0 hmb0 hne => setUp_any H w w1 P mb c0 c2 r1 r3 fs bx ff qu lo st g1 n1 k1 g2 o2 n2 k2 a3 n3 k3 a4 n4 k4 h1 h2 h3 h4 m1 m2 hc1 hc3 hok hmb0 hb0 hP hm hP0 hne
  have HPH : Hid (blk (w.alloc (.cells #[.int .i64 c0, .int .i64 (r1 : Int), .int .i64 c2, .int .i64 (r3 : Int), .slice (some ⟨g1, 0, none⟩) n1 k1, .slice (some ⟨g2, o2, none⟩) n2 k2, .slice a3 n3 k3, .slice a4 n4 k4, .int .i64 lo, .int .i64 st] 35)) w.heap.size [.int .i64 c0, .int .i64 (r1 : Int), .int .i64 c2, .int .i64 (r3 : Int), .slice (some ⟨g1, 0, none⟩) n1 k1, .slice (some ⟨g2, o2, none⟩) n2 k2, .slice a3 n3 k3, .slice a4 n4 k4, .int .i64 lo, .int .i64 st] 35 ∧ Below w.heap.size w (w.alloc (.cells #[.int .i64 c0, .int .i64 (r1 : Int), .int .i64 c2, .int .i64 (r3 : Int), .slice (some ⟨g1, 0, none⟩) n1 k1, .slice (some ⟨g2, o2, none⟩) n2 k2, .slice a3 n3 k3, .slice a4 n4 k4, .int .i64 lo, .int .i64 st] 35))) := ⟨blk.new w _ 35, (Below.refl _ _).alloc (Nat.le_refl _) _⟩
  have y5 := HPH.out.1.cell 5 _ rfl
  clear h1 h2 h3 h4 m1 hc1 hc3 hok
  have HM2 : Hid (((w.alloc (.cells #[.int .i64 c0, .int .i64 (r1 : Int), .int .i64 c2, .int .i64 (r3 : Int), .slice (some ⟨g1, 0, none⟩) n1 k1, .slice (some ⟨g2, o2, none⟩) n2 k2, .slice a3 n3 k3, .slice a4 n4 k4, .int .i64 lo, .int .i64 st] 35)).alloc (.map #[] 0)).heap[w.heap.size + 1]? = some (.map #[] 0)) := by
    have := heap_alloc_new (w.alloc (.cells #[.int .i64 c0, .int .i64 (r1 : Int), .int .i64 c2, .int .i64 (r3 : Int), .slice (some ⟨g1, 0, none⟩) n1 k1, .slice (some ⟨g2, o2, none⟩) n2 k2, .slice a3 n3 k3, .slice a4 n4 k4, .int .i64 lo, .int .i64 st] 35)) (.map #[] 0)
    have e : (w.alloc (.cells #[.int .i64 c0, .int .i64 (r1 : Int), .int .i64 c2, .int .i64 (r3 : Int), .slice (some ⟨g1, 0, none⟩) n1 k1, .slice (some ⟨g2, o2, none⟩) n2 k2, .slice a3 n3 k3, .slice a4 n4 k4, .int .i64 lo, .int .i64 st] 35)).heap.size = w.heap.size + 1 := by simp
    rw [e] at this
    exact this
  have HM3 : Hid ((((w.alloc (.cells #[.int .i64 c0, .int .i64 (r1 : Int), .int .i64 c2, .int .i64 (r3 : Int), .slice (some ⟨g1, 0, none⟩) n1 k1, .slice (some ⟨g2, o2, none⟩) n2 k2, .slice a3 n3 k3, .slice a4 n4 k4, .int .i64 lo, .int .i64 st] 35)).alloc (.map #[] 0)).alloc (.cells #[.int .i64 0, .int .i64 0, .int .i64 0, .int .i64 0, .slice none 0 0, .slice none 0 0, .map (some (w.heap.size + 1)), .slice none 0 0, .int .i64 0, .int .i64 0, .slice none 0 0, .int .i64 0, .int .i64 0, .int .i64 0, .int .i64 0] 134)).heap[w.heap.size + 1]? = some (.map #[] 0)) := (Below.heap_alloc _ _ _ (lt_of_some HM2.out)).trans HM2.out
  have HP3 : Hid (blk (((w.alloc (.cells #[.int .i64 c0, .int .i64 (r1 : Int), .int .i64 c2, .int .i64 (r3 : Int), .slice (some ⟨g1, 0, none⟩) n1 k1, .slice (some ⟨g2, o2, none⟩) n2 k2, .slice a3 n3 k3, .slice a4 n4 k4, .int .i64 lo, .int .i64 st] 35)).alloc (.map #[] 0)).alloc (.cells #[.int .i64 0, .int .i64 0, .int .i64 0, .int .i64 0, .slice none 0 0, .slice none 0 0, .map (some (w.heap.size + 1)), .slice none 0 0, .int .i64 0, .int .i64 0, .slice none 0 0, .int .i64 0, .int .i64 0, .int .i64 0, .int .i64 0] 134)) (w.heap.size + 1 + 1) [.int .i64 0, .int .i64 0, .int .i64 0, .int .i64 0, .slice none 0 0, .slice none 0 0, .map (some (w.heap.size + 1)), .slice none 0 0, .int .i64 0, .int .i64 0, .slice none 0 0, .int .i64 0, .int .i64 0, .int .i64 0, .int .i64 0] 134) := by
    have := blk.new ((w.alloc (.cells #[.int .i64 c0, .int .i64 (r1 : Int), .int .i64 c2, .int .i64 (r3 : Int), .slice (some ⟨g1, 0, none⟩) n1 k1, .slice (some ⟨g2, o2, none⟩) n2 k2, .slice a3 n3 k3, .slice a4 n4 k4, .int .i64 lo, .int .i64 st] 35)).alloc (.map #[] 0)) [.int .i64 0, .int .i64 0, .int .i64 0, .int .i64 0, .slice none 0 0, .slice none 0 0, .map (some (w.heap.size + 1)), .slice none 0 0, .int .i64 0, .int .i64 0, .slice none 0 0, .int .i64 0, .int .i64 0, .int .i64 0, .int .i64 0] 134
    have e : ((w.alloc (.cells #[.int .i64 c0, .int .i64 (r1 : Int), .int .i64 c2, .int .i64 (r3 : Int), .slice (some ⟨g1, 0, none⟩) n1 k1, .slice (some ⟨g2, o2, none⟩) n2 k2, .slice a3 n3 k3, .slice a4 n4 k4, .int .i64 lo, .int .i64 st] 35)).alloc (.map #[] 0)).heap.size = w.heap.size + 1 + 1 := by simp
    rw [e] at this
    exact this
  have HB3 : Hid (Below w.heap.size w (((w.alloc (.cells #[.int .i64 c0, .int .i64 (r1 : Int), .int .i64 c2, .int .i64 (r3 : Int), .slice (some ⟨g1, 0, none⟩) n1 k1, .slice (some ⟨g2, o2, none⟩) n2 k2, .slice a3 n3 k3, .slice a4 n4 k4, .int .i64 lo, .int .i64 st] 35)).alloc (.map #[] 0)).alloc (.cells #[.int .i64 0, .int .i64 0, .int .i64 0, .int .i64 0, .slice none 0 0, .slice none 0 0, .map (some (w.heap.size + 1)), .slice none 0 0, .int .i64 0, .int .i64 0, .slice none 0 0, .int .i64 0, .int .i64 0, .int .i64 0, .int .i64 0] 134))) := ((HPH.out.2.alloc (by simp) _).alloc (by simp; omega) _)
  have hmm : ∀ W : World, (Instr.makeMap 128 (some (.int .i64 (n2 : Int)))).run Tryz.prog W = .ok (.map (some W.heap.size)) (W.alloc (.map #[] 0)) := fun W => run_makeMapN n2 W
  go_enter Tryz.func61, Tryz.ntmps61
  go_wp2_with fail
  refine (HSU.out _ (w.heap.size + 1 + 1) (w.heap.size + 1) HB3.out HP3.out HM3.out (by omega) (by omega) (by omega)).mono ?_
  rintro o w9 ⟨gf, kf, gb, kb, gr, gq, rfl, hlv⟩
  have HLV : Hid _ := hlv
  clear hlv hmm y5 HSU HPH HM2 HM3 HP3 HB3
  go_wp2
  go_ret
  exact ⟨_, _, gf, kf, gb, kb, gr, gq, rfl, HLV.out⟩
end Go.Proofs.YtaamahohdnbpiaaGreat
namespace Go.Proofs.YtaamahohdnbpiaaGreat
open Go.RowKit
set_option linter.unusedVariables false
/-- filters and boxes lie in rows of their own -/
def slSome (s : Sl) : Prop := (∃ g, s.a1 = some ⟨g, 0, none⟩) ∧ (∃ g, s.a2 = some ⟨g, 0, none⟩)
theorem wrHo.some {B T : Nat} {W : World} {s : Sl} (h : wrHo B T W s) : slSome s := by
  obtain ⟨g1, g2, g3, g4, e, _⟩ := h.e
  rw [e]
  exact ⟨⟨g1, rfl⟩, ⟨g2, rfl⟩⟩
theorem toHost_some (w : World) (H : Ho) (s : Sl) (h : isHo w H s) (hn : H.le 1048576) :
    Calls Tryz.prog 36 #[hoV H s] w fun o w' => ∃ s', o = .returned (hoV H s') ∧ slSome s' ∧ St w.heap.size w' (fun W => isHo W H s') ∧ Below w.heap.size w w' := by
  refine (toHost_wr w H s h hn).mono ?_
  rintro o w' ⟨s', rfl, h1, h2⟩
  exact ⟨s', rfl, h1.now.2.some, fun W hW => (h1 W hW).1, h2⟩

/-- what Best answers -/
def bestH (H : Ho) (r : Int) : Prop := (okHo H ∧ bestR H.bx r) ∨ (¬ okHo H ∧ r = -1)
theorem bestH_one {H : Ho} {r r' : Int} (h : bestH H r) (h' : bestH H r') : r = r' := by
  rcases h with ⟨h1, h2⟩ | ⟨h1, h2⟩ <;> rcases h' with ⟨h3, h4⟩ | ⟨h3, h4⟩
  · exact bestR_one h2 h4
  · exact absurd h1 h3
  · exact absurd h3 h1
  · rw [h2, h4]
theorem okHo.n2 {H : Ho} (h : okHo H) : H.bx.length ≤ 8 := by
  have h1 := of_decide_eq_true h.cf
  have h2 := h.nb
  omega
set_option maxHeartbeats 4000000 in
set_option maxRecDepth 20000 in
/-- spec.Best -/
theorem specBest_any (w : World) (H : Ho) (s : Sl) (h : isHo w H s) (hn : H.le 1048576) :
    Calls Tryz.prog 27 #[.agg (hoL H s).toArray] w fun o w' => ∃ r, o = .returned (.int .i64 r) ∧ bestH H r ∧ Below w.heap.size w w' := by
  have H0 : Hid (obS w H s (w.alloc (.cells (hoL H s).toArray 35))) := ⟨blk.new w _ 35, (Below.refl _ _).alloc (Nat.le_refl _) _⟩
  by_cases hok : okHo H
  · have HV : Hid (∀ W, Below w.heap.size w W → Calls Tryz.prog 72 #[.agg (hoL H s).toArray] W fun o w' => o = .returned (.bool true) ∧ Below W.heap.size W w') := fun W hW => (l3ok_any W H s (h.below hW) hn).mono (by rintro o w' ⟨⟨b, rfl, hb⟩, h2⟩; rw [hb.2 hok]; exact ⟨rfl, h2⟩)
    have HB : Hid (∀ W, Below w.heap.size w W → Calls Tryz.prog 77 #[.agg (hoL H s).toArray] W fun o w' => ∃ r : Int, o = .returned (.int .i64 r) ∧ bestR H.bx r ∧ Below W.heap.size W w') := fun W hW => l3best_any W H s (h.below hW).bx (by rw [h.bx.len]; exact hok.n2)
    have HOK : Hid (okHo H) := hok
    clear h hn hok
    go_enter Tryz.func27, Tryz.ntmps27
    go_wp2_with (first
      | (refine wpList_load_mid (P := Tryz.prog) rfl 35 _ rfl w.heap.size 0 rfl _ _ H0.out.p.load Tryz.underlying35 rfl (sz41L H s) ?_)
      | (go_at_call 72; refine (HV.out _ H0.out.b).mono ?_; rintro o w1 ⟨rfl, hb1⟩; have H1 : Hid (obS w H s w1) := H0.out.below hb1; clear H0 hb1)
      | (refine wpList_load_mid (P := Tryz.prog) rfl 35 _ rfl w.heap.size 0 rfl _ _ H1.out.p.load Tryz.underlying35 rfl (sz41L H s) ?_)
      | (go_at_call 77; refine (HB.out _ H1.out.b).mono ?_; rintro o w2 ⟨r, rfl, hr, hb2⟩; have H2 : Hid (bestR H.bx r ∧ Below w.heap.size w w2) := ⟨hr, (H1.out.below hb2).b⟩; clear hr hb2))
    go_ret
    exact ⟨r, rfl, Or.inl ⟨HOK.out, H2.out.1⟩, H2.out.2⟩
  · have HV : Hid (∀ W, Below w.heap.size w W → Calls Tryz.prog 72 #[.agg (hoL H s).toArray] W fun o w' => o = .returned (.bool false) ∧ Below W.heap.size W w') := fun W hW => (l3ok_any W H s (h.below hW) hn).mono (by rintro o w' ⟨⟨b, rfl, hb⟩, h2⟩; cases b; exact ⟨rfl, h2⟩; exact absurd (hb.1 rfl) hok)
    have HOK : Hid (¬ okHo H) := hok
    clear h hn hok
    go_enter Tryz.func27, Tryz.ntmps27
    go_wp2_with (first
      | (refine wpList_load_mid (P := Tryz.prog) rfl 35 _ rfl w.heap.size 0 rfl _ _ H0.out.p.load Tryz.underlying35 rfl (sz41L H s) ?_)
      | (go_at_call 72; refine (HV.out _ H0.out.b).mono ?_; rintro o w1 ⟨rfl, hb1⟩; have H1 : Hid (obS w H s w1) := H0.out.below hb1; clear H0 hb1))
    go_ret
    exact ⟨-1, rfl, Or.inr ⟨HOK.out, rfl⟩, H1.out.b⟩
theorem lvS.best {w0 : World} {P mb : Nat} {L : List Value} {gf n1 kf : Nat} {fs : List R3} {gb n2 kb : Nat} {bx : List R8} {gr r1 : Nat} {ff : List R5} {gq r3 : Nat} {qu : List R8} {k : Nat} {W : World} {st : Int} (h : lvS Unit w0 P mb L gf n1 kf fs gb n2 kb bx gr r1 ff gq r3 qu k W) (h5 : L[5]? = some (.slice (some ⟨gb, 0, none⟩) n2 kb)) (hn : n2 ≤ 8) (hok : okBxs st bx) :
    Calls Tryz.prog 62 #[.pointer (some ⟨P, 0, none⟩)] W fun o w' => ∃ r : Int, o = .returned (.int .i64 r) ∧ bestR bx r ∧ Below w0.heap.size w0 w' :=
  (best_any W P (some ⟨gb, 0, none⟩) n2 kb bx st (h.p.cell 5 _ h5) (h.x.k W rfl h.b).1 hn hok).mono (by rintro o w' ⟨r, rfl, hr, hb⟩; exact ⟨r, rfl, hr, h.b.trans (hb.mono h.b.size)⟩)
/-- impl.openHost of a valid host, then best -/
theorem open_best (w : World) (H : Ho) (s : Sl) (h : isHo w H s) (hs : slSome s) (hok : okHo H) (hm : H.fs.length ≤ 1048576) :
    Calls Tryz.prog 61 #[.agg (hoL H s).toArray] w fun o w' => ∃ P, o = .returned (.pointer (some ⟨P, 0, none⟩)) ∧ Below w.heap.size w w' ∧ Calls Tryz.prog 62 #[.pointer (some ⟨P, 0, none⟩)] w' fun o w2 => ∃ r : Int, o = .returned (.int .i64 r) ∧ bestR H.bx r ∧ Below w.heap.size w w2 := by
  obtain ⟨c0, c1, c2, c3, fs, bx, ff, qu, lo, st⟩ := H
  obtain ⟨a1, n1, k1, a2, n2, k2, a3, n3, k3, a4, n4, k4⟩ := s
  obtain ⟨⟨g1, e1⟩, ⟨g2, e2⟩⟩ := hs
  simp only [] at e1 e2
  subst e1 e2
  have hcf := of_decide_eq_true hok.cf
  have hnf := hok.nf
  have hnq := hok.nq
  have l1 := h.fs.len
  have l2 := h.bx.len
  have l3 := h.ff.len
  have l4 := h.qu.len
  simp only [] at hcf hnf hnq l1 l2 l3 l4 hm
  have hn2 := hok.n2
  simp only [] at hn2
  obtain ⟨r1, hr1⟩ : ∃ r1 : Nat, c1 = (r1 : Int) := ⟨c1.toNat, by omega⟩
  obtain ⟨r3, hr3⟩ : ∃ r3 : Nat, c3 = (r3 : Int) := ⟨c3.toNat, by omega⟩
  subst hr1 hr3
  refine (openHost_any Unit w c0 c2 r1 r3 fs bx ff qu lo st g1 n1 k1 g2 0 n2 k2 a3 n3 k3 a4 n4 k4 h.fs h.bx h.ff h.qu (by omega) (by omega) (by omega) (by omega) hok.bx).mono ?_
  rintro o w' ⟨P, mb, gf, kf, gb, kb, gr, gq, rfl, hl⟩
  exact ⟨P, rfl, hl.b, hl.best rfl (by omega) hok.bx⟩
set_option maxHeartbeats 4000000 in
set_option maxRecDepth 20000 in
/-- impl.Best -/
theorem implBest_any (w : World) (H : Ho) (s : Sl) (h : isHo w H s) (hs : slSome s) (hn : H.le 1048576) :
    Calls Tryz.prog 17 #[.agg (hoL H s).toArray] w fun o w' => ∃ r, o = .returned (.int .i64 r) ∧ bestH H r ∧ Below w.heap.size w w' := by
  have H0 : Hid (obS w H s (w.alloc (.cells (hoL H s).toArray 35))) := ⟨blk.new w _ 35, (Below.refl _ _).alloc (Nat.le_refl _) _⟩
  by_cases hok : okHo H
  · have HV : Hid (∀ W, Below w.heap.size w W → Calls Tryz.prog 60 #[.agg (hoL H s).toArray] W fun o w' => o = .returned (.bool true) ∧ Below W.heap.size W w') := fun W hW => (validHost_any W H s (h.below hW) hn).mono (by rintro o w' ⟨⟨b, rfl, hb⟩, h2⟩; rw [hb.2 hok]; exact ⟨rfl, h2⟩)
    have HB : Hid (∀ W, Below w.heap.size w W → Calls Tryz.prog 61 #[.agg (hoL H s).toArray] W fun o w' => ∃ P, o = .returned (.pointer (some ⟨P, 0, none⟩)) ∧ Below W.heap.size W w' ∧ Calls Tryz.prog 62 #[.pointer (some ⟨P, 0, none⟩)] w' fun o w2 => ∃ r : Int, o = .returned (.int .i64 r) ∧ bestR H.bx r ∧ Below W.heap.size W w2) := fun W hW => open_best W H s (h.below hW) hs hok hn.fs
    have HOK : Hid (okHo H) := hok
    clear h hn hok hs
    go_enter Tryz.func17, Tryz.ntmps17
    go_wp2_with (first
      | (refine wpList_load_mid (P := Tryz.prog) rfl 35 _ rfl w.heap.size 0 rfl _ _ H0.out.p.load Tryz.underlying35 rfl (sz41L H s) ?_)
      | (go_at_call 60; refine (HV.out _ H0.out.b).mono ?_; rintro o w1 ⟨rfl, hb1⟩; have H1 : Hid (obS w H s w1) := H0.out.below hb1; clear H0 hb1)
      | (refine wpList_load_mid (P := Tryz.prog) rfl 35 _ rfl w.heap.size 0 rfl _ _ H1.out.p.load Tryz.underlying35 rfl (sz41L H s) ?_)
      | (go_at_call 61; refine (HB.out _ H1.out.b).mono ?_; rintro o w2 ⟨P, rfl, hb2, hc2⟩; have HC2 : Hid (Calls Tryz.prog 62 #[.pointer (some ⟨P, 0, none⟩)] w2 fun o w3 => ∃ r : Int, o = .returned (.int .i64 r) ∧ bestR H.bx r ∧ Below w1.heap.size w1 w3) := hc2; clear hc2 hb2)
      | (go_at_call 62; refine (Calls.mono HC2.out) ?_; rintro o w3 ⟨r, rfl, hr, hb3⟩; have H2 : Hid (bestR H.bx r ∧ Below w.heap.size w w3) := ⟨hr, H1.out.b.trans (hb3.mono H1.out.b.size)⟩; clear hr hb3))
    go_ret
    exact ⟨r, rfl, Or.inl ⟨HOK.out, H2.out.1⟩, H2.out.2⟩
  · have HV : Hid (∀ W, Below w.heap.size w W → Calls Tryz.prog 60 #[.agg (hoL H s).toArray] W fun o w' => o = .returned (.bool false) ∧ Below W.heap.size W w') := fun W hW => (validHost_any W H s (h.below hW) hn).mono (by rintro o w' ⟨⟨b, rfl, hb⟩, h2⟩; cases b; exact ⟨rfl, h2⟩; exact absurd (hb.1 rfl) hok)
    have HOK : Hid (¬ okHo H) := hok
    clear h hn hok hs
    go_enter Tryz.func17, Tryz.ntmps17
    go_wp2_with (first
      | (refine wpList_load_mid (P := Tryz.prog) rfl 35 _ rfl w.heap.size 0 rfl _ _ H0.out.p.load Tryz.underlying35 rfl (sz41L H s) ?_)
      | (go_at_call 60; refine (HV.out _ H0.out.b).mono ?_; rintro o w1 ⟨rfl, hb1⟩; have H1 : Hid (obS w H s w1) := H0.out.below hb1; clear H0 hb1))
    go_ret
    exact ⟨-1, rfl, Or.inr ⟨HOK.out, rfl⟩, H1.out.b⟩
end Go.Proofs.YtaamahohdnbpiaaGreat
namespace Go.Proofs.YtaamahohdnbpiaaGreat
open Go.RowKit
set_option linter.unusedVariables false
theorem sz61h : (Tryz.prog.info? 61).map (·.size) = some 10 := by kernel_rfl
theorem sz61L (H : Ho) (s : Sl) : (Tryz.prog.info? 61).map (·.size) = some (hoL H s).length := sz61h
theorem szL (X : World) (H : Ho) (s : Sl) (h : isHo X H s) (hn : H.le 9223372036854775807) : Calls Tryz.prog 35 #[.agg (hoL H s).toArray, .int .i64 1048576] X fun o w' => ∃ z : Int, o = .returned (.int .i64 z) ∧ Below X.heap.size X w' ∧ (z = -1 ∨ ∃ m' : Nat, z = (m' : Int) ∧ H.le 1048576) := by
  have := szHost_any X H s h hn 1048576 (Nat.le_refl _)
  exact this
theorem toL (X : World) (H : Ho) (s : Sl) (h : isHo X H s) (hm : H.le 1048576) : Calls Tryz.prog 36 #[.agg (hoL H s).toArray] X fun o w' => ∃ s', o = .returned (.agg (hoL H s').toArray) ∧ slSome s' ∧ St X.heap.size w' (fun W => isHo W H s') ∧ Below X.heap.size X w' := by
  rw [← hoV_L]
  refine (toHost_some X H s h hm).mono ?_
  rintro o w' ⟨s', rfl, h0, h1, h2⟩
  exact ⟨s', by rw [hoV_L], h0, h1, h2⟩
theorem eqL (X : World) (H : Ho) (s1 s2 : Sl) (h1 : isHo X H s1) (h2 : isHo X H s2) (hm : H.le 1048576) : Calls Tryz.prog 37 #[.agg (hoL H s1).toArray, .agg (hoL H s2).toArray] X fun o w' => o = .returned (.bool true) ∧ Below X.heap.size X w' := by
  rw [← hoV_L, ← hoV_L]
  exact eqHost_same X H s1 s2 h1 h2 hm
theorem law_x0H {H : Ho} {s s4 : Sl} {w w3 w4 w5 : World} {b : Nat} (hp : w4.heap[w.heap.size]? = some (.cells (hoL H s).toArray 61)) (hb : w4.heap.size = b) (hs : St w3.heap.size w4 (fun W => isHo W H s4)) (hB : Below w.heap.size w w4)
    (e : World.setCells (w4.alloc (.cells [.int .i64 0, .int .i64 0, .int .i64 0, .int .i64 0, .slice none 0 0, .slice none 0 0, .slice none 0 0, .slice none 0 0, .int .i64 0, .int .i64 0].toArray 35)) b 0 (hoL H s4).toArray.toList = w5) : w5.heap[w.heap.size]? = some (.cells (hoL H s).toArray 61) ∧ w5.heap[b]? = some (.cells (hoL H s4).toArray 35) ∧ isHo w5 H s4 ∧ Below w.heap.size w w5 := by
  subst hb
  subst e
  have hz := lt_of_block hp
  have key : ∀ k, k < w4.heap.size → (World.setCells (w4.alloc (.cells [.int .i64 0, .int .i64 0, .int .i64 0, .int .i64 0, .slice none 0 0, .slice none 0 0, .slice none 0 0, .slice none 0 0, .int .i64 0, .int .i64 0].toArray 35)) w4.heap.size 0 (hoL H s4).toArray.toList).heap[k]? = w4.heap[k]? := fun k hk => (setCells_other _ k (by omega) _ _ 0).trans (Below.heap_alloc w4 _ k hk)
  refine ⟨(key _ hz).trans hp, ?_, hs _ (fun k _ hk => key k hk), ?_⟩
  · exact setCells_block w4.heap.size 35 (hoL H s4) [.int .i64 0, .int .i64 0, .int .i64 0, .int .i64 0, .slice none 0 0, .slice none 0 0, .slice none 0 0, .slice none 0 0, .int .i64 0, .int .i64 0] [] [] _ (by rw [hoL_len]; rfl) (heap_alloc_new w4 _) |>.trans (by simp)
  · rw [setCells_row]
    exact setRow_below _ _ hB.size w _ _ _ (hB.alloc hB.size _)
theorem invH_be (w : World) (H : Ho) (s s4 : Sl) (b : Nat) (W W' : World) (h : W.heap[w.heap.size]? = some (.cells (hoL H s).toArray 61) ∧ W.heap[b]? = some (.cells (hoL H s4).toArray 35) ∧ isHo W H s4 ∧ Below w.heap.size w W) (hb : Below W.heap.size W W') : (fun W => W.heap[w.heap.size]? = some (.cells (hoL H s).toArray 61) ∧ W.heap[b]? = some (.cells (hoL H s4).toArray 35) ∧ isHo W H s4 ∧ Below w.heap.size w W) W' :=
  ⟨(hb.block _ (lt_of_block h.1)).trans h.1, (hb.block _ (lt_of_block h.2.1)).trans h.2.1, h.2.2.1.below hb, h.2.2.2.trans (hb.mono h.2.2.2.size)⟩
theorem invH_h {w : World} {H : Ho} {s s4 : Sl} {b : Nat} {W : World} (h : W.heap[w.heap.size]? = some (.cells (hoL H s).toArray 61) ∧ W.heap[b]? = some (.cells (hoL H s4).toArray 35) ∧ isHo W H s4 ∧ Below w.heap.size w W) : isHo W H s4 := h.2.2.1
theorem invH_b {w : World} {H : Ho} {s s4 : Sl} {b : Nat} {W : World} (h : W.heap[w.heap.size]? = some (.cells (hoL H s).toArray 61) ∧ W.heap[b]? = some (.cells (hoL H s4).toArray 35) ∧ isHo W H s4 ∧ Below w.heap.size w W) : Below w.heap.size w W := h.2.2.2
set_option maxHeartbeats 4000000 in
set_option maxRecDepth 40000 in
/-- laws.FnExactBest -/
theorem lawBest (H : Ho) (s : Sl) (w : World) (h : isHo w H s) (hn : H.le 9223372036854775807) :
    Calls Tryz.prog 5 #[hoV H s] w fun o w' => o = .returned (.bool true) ∧ Below w.heap.size w w' := by
  rw [hoV_L]
  have HS : Hid (∀ X, Below w.heap.size w X → Calls Tryz.prog 35 #[.agg (hoL H s).toArray, .int .i64 1048576] X fun o w' => ∃ z : Int, o = .returned (.int .i64 z) ∧ Below X.heap.size X w' ∧ (z = -1 ∨ ∃ m' : Nat, z = (m' : Int) ∧ H.le 1048576)) := fun X hX => szL X H s (h.below hX) hn
  have HT : Hid (H.le 1048576 → ∀ X, Below w.heap.size w X → Calls Tryz.prog 36 #[.agg (hoL H s).toArray] X fun o w' => ∃ s', o = .returned (.agg (hoL H s').toArray) ∧ slSome s' ∧ St X.heap.size w' (fun W => isHo W H s') ∧ Below X.heap.size X w') := fun hm X hX => toL X H s (h.below hX) hm
  have HE : Hid (H.le 1048576 → ∀ X s', isHo X H s' → Calls Tryz.prog 27 #[.agg (hoL H s').toArray] X fun o w' => ∃ r : Int, o = .returned (.int .i64 r) ∧ bestH H r ∧ Below X.heap.size X w') := fun hm X s' h' => specBest_any X H s' h' hm
  have HI : Hid (H.le 1048576 → ∀ r : Int, bestH H r → ∀ X s', isHo X H s' → slSome s' → Calls Tryz.prog 17 #[.agg (hoL H s').toArray] X fun o w' => o = .returned (.int .i64 r) ∧ Below X.heap.size X w') := fun hm r hr X s' h' hs' => (implBest_any X H s' h' hs' hm).mono (by rintro o w' ⟨r', rfl, hr', hb⟩; rw [bestH_one hr' hr]; exact ⟨rfl, hb⟩)
  have HQ : Hid (H.le 1048576 → ∀ X s1 s2, isHo X H s1 → isHo X H s2 → Calls Tryz.prog 37 #[.agg (hoL H s1).toArray, .agg (hoL H s2).toArray] X fun o w' => o = .returned (.bool true) ∧ Below X.heap.size X w') := fun hm X s1 s2 h1 h2 => eqL X H s1 s2 h1 h2 hm
  clear h hn
  have P0 : (w.alloc (.cells (hoL H s).toArray 61)).heap[w.heap.size]? = some (.cells (hoL H s).toArray 61) := heap_alloc_new w _
  have hA : Below w.heap.size w (w.alloc (.cells (hoL H s).toArray 61)) := (Below.refl _ _).alloc (Nat.le_refl _) _
  have HA : Hid (Below w.heap.size w (w.alloc (.cells (hoL H s).toArray 61))) := hA
  have hzA : w.heap.size < (w.alloc (.cells (hoL H s).toArray 61)).heap.size := by simp
  have HZA : Hid (w.heap.size < (w.alloc (.cells (hoL H s).toArray 61)).heap.size) := hzA
  clear hA hzA
  go_enter Tryz.func5, Tryz.ntmps5
  go_wp2_with (first | (refine wpList_load_mid (P := Tryz.prog) rfl 61 (.tmp 1) rfl w.heap.size 0 rfl (hoL H s) _ (range_block (by assumption)) Tryz.underlying61 rfl (sz61L H s) ?_))
  refine (HS.out _ HA.out).mono ?_
  rintro o w1 ⟨z, rfl, b1, h1⟩
  have B1 : Below w.heap.size w w1 := HA.out.trans (b1.mono (Nat.le_of_lt HZA.out))
  have P1 : w1.heap[w.heap.size]? = some (.cells (hoL H s).toArray 61) := (b1.block _ HZA.out).trans P0
  have HB1 : Hid (Below w.heap.size w w1) := B1
  clear b1 B1 P0
  rcases h1 with rfl | ⟨m', rfl, hle⟩
  · clear P1
    go_wp2_with fail
    go_ret
    exact ⟨rfl, HB1.out⟩
  · have HLE : Hid (H.le 1048576) := hle
    clear hle
    go_wp2_with (first | (refine wpList_load_mid (P := Tryz.prog) rfl 61 (.tmp 1) rfl w.heap.size 0 rfl (hoL H s) _ (range_block (by assumption)) Tryz.underlying61 rfl (sz61L H s) ?_))
    refine (HT.out HLE.out _ HB1.out).mono ?_
    rintro o w2 ⟨s2, rfl, _, S2, b2⟩
    have HO2 : Hid (isHo w2 H s2) := S2.now
    have P2 : w2.heap[w.heap.size]? = some (.cells (hoL H s).toArray 61) := (b2.block _ (lt_of_block P1)).trans P1
    have HB2 : Hid (Below w.heap.size w w2) := HB1.out.trans (b2.mono HB1.out.size)
    clear S2 b2 P1
    go_wp2_with fail
    refine (HE.out HLE.out w2 s2 HO2.out).mono ?_
    rintro o w3 ⟨z0, rfl, hz0, b3⟩
    have HZ0 : Hid (bestH H z0) := hz0
    clear hz0
    have P3 : w3.heap[w.heap.size]? = some (.cells (hoL H s).toArray 61) := (b3.block _ (lt_of_block P2)).trans P2
    have HB3 : Hid (Below w.heap.size w w3) := HB2.out.trans (b3.mono HB2.out.size)
    clear b3 P2
    go_wp2_with (first | (refine wpList_load_mid (P := Tryz.prog) rfl 61 (.tmp 1) rfl w.heap.size 0 rfl (hoL H s) _ (range_block (by assumption)) Tryz.underlying61 rfl (sz61L H s) ?_))
    refine (HT.out HLE.out _ HB3.out).mono ?_
    rintro o w4 ⟨s4, rfl, sl4, S4, b4⟩
    have HSL : Hid (slSome s4) := sl4
    clear sl4
    have P4 : w4.heap[w.heap.size]? = some (.cells (hoL H s).toArray 61) := (b4.block _ (lt_of_block P3)).trans P3
    have HB4 : Hid (Below w.heap.size w w4) := HB3.out.trans (b4.mono HB3.out.size)
    have HS4 : Hid (St w3.heap.size w4 (fun W => isHo W H s4)) := S4
    clear b4 P3 S4
    have HP4 : Hid (w4.heap[w.heap.size]? = some (.cells (hoL H s).toArray 61)) := P4
    clear P4
    generalize hb : w4.heap.size = b at *
    have HBB : Hid (w4.heap.size = b) := hb
    have HN : Hid ((w4.alloc (.cells [.int .i64 0, .int .i64 0, .int .i64 0, .int .i64 0, .slice none 0 0, .slice none 0 0, .slice none 0 0, .slice none 0 0, .int .i64 0, .int .i64 0].toArray 35)).heap[b]? = some (.cells [.int .i64 0, .int .i64 0, .int .i64 0, .int .i64 0, .slice none 0 0, .slice none 0 0, .slice none 0 0, .slice none 0 0, .int .i64 0, .int .i64 0].toArray 35)) := by rw [← hb]; exact heap_alloc_new w4 _
    go_wp2_with (first | (refine wpList_store_mid (P := Tryz.prog) rfl 35 (.tmp 5) (.tmp 16) rfl b 0 (hoL H s4).toArray rfl rfl (there_block HN.out 0 (hoL H s4).toArray.size (by rw [List.size_toArray, hoL_len]; decide)) (sz41A H s4) (hoL_one H s4) ?_; generalize hW5 : World.setCells (w4.alloc _) b 0 _ = w5; obtain ⟨P5, X5, O5, B5⟩ := law_x0H HP4.out HBB.out HS4.out HB4.out hW5; have HO5 : Hid (isHo w5 H s4) := O5; have HB5 : Hid (Below w.heap.size w w5) := B5; clear O5 B5 hW5) | (refine wpList_load_mid (P := Tryz.prog) rfl 35 (.tmp 5) rfl b 0 rfl (hoL H s4) _ (range_block (by assumption)) Tryz.underlying35 rfl (sz41L H s4) ?_))
    refine (HI.out HLE.out z0 HZ0.out w5 s4 HO5.out HSL.out).mono ?_
    rintro o w6 ⟨rfl, b6⟩
    have hS0 : w6.heap[w.heap.size]? = some (.cells (hoL H s).toArray 61) ∧ w6.heap[b]? = some (.cells (hoL H s4).toArray 35) ∧ isHo w6 H s4 ∧ Below w.heap.size w w6 := invH_be w H s s4 b w5 w6 ⟨P5, X5, HO5.out, HB5.out⟩ b6
    have HB6 : Hid (Below w.heap.size w w6) := hS0.2.2.2
    clear P5 X5 b6 hb
    go_wp2_with fail
    refine wp_region_held (S := (fun W => W.heap[w.heap.size]? = some (.cells (hoL H s).toArray 61) ∧ W.heap[b]? = some (.cells (hoL H s4).toArray 35) ∧ isHo W H s4 ∧ Below w.heap.size w W)) (by kernel_rfl) ?_
    have hS := invH_be w H s s4 b w6 w6.drew hS0 (Below.refl _ _).drew
    refine wpAnyH_take (i := 0) (v := .agg (hoL H s4).toArray) rfl (by kernel_rfl) (by kernel_rfl) (by kernel_rfl) (fun _ _ _ h => h) (yieldsIf_load_mid (by rfl) 35 (.tmp 5) rfl b 0 rfl (hoL H s4) _ (fun W h => range_block h.2.1) Tryz.underlying35 rfl (sz41L H s4)) hS ?_
    simp only [Act.put, List.setIfInBounds_toArray, List.set_cons_zero, List.set_cons_succ, List.getElem_toArray, List.getElem_cons_zero]
    refine wpAnyH_take (i := 1) (v := .agg (hoL H s).toArray) rfl (by kernel_rfl) (by kernel_rfl) (by kernel_rfl) (fun _ _ _ h => h) (yieldsIf_load_mid (by rfl) 61 (.tmp 1) rfl w.heap.size 0 rfl (hoL H s) _ (fun W h => range_block h.1) Tryz.underlying61 rfl (sz61L H s)) hS ?_
    simp only [Act.put, List.setIfInBounds_toArray, List.set_cons_zero, List.set_cons_succ, List.getElem_toArray, List.getElem_cons_zero, List.getElem_cons_succ]
    refine wpAnyH_all (rs := [2]) (by kernel_rfl) (by simp) ?_
    refine AllReadyH.cons rfl (fun K hK => ?_) AllReadyH.nil
    go_simp
    refine (HT.out HLE.out _ (invH_b hS)).mono ?_
    rintro o w7 ⟨s7, rfl, _, S7, b7⟩
    have HS7 : Hid (isHo w7 H s7) := S7.now
    have hS7 := invH_be w H s s4 b _ w7 hS b7
    clear S7 b7 hS0
    go_wp2_with fail
    refine hK.out _ _ hS7 (fun hS2 => ?_)
    clear hS hK K hS7
    have hS := hS2
    clear hS2
    refine wpAnyH_all (rs := [3]) (by kernel_rfl) (by simp) ?_
    refine AllReadyH.cons rfl (fun K hK => ?_) AllReadyH.nil
    go_simp
    refine (HQ.out HLE.out _ s4 s7 (invH_h hS) HS7.out).mono ?_
    rintro o w8 ⟨rfl, b8⟩
    have hS8 := invH_be w H s s4 b _ w8 hS b8
    clear b8
    go_wp2_with fail
    refine hK.out _ _ hS8 (fun hS2 => ?_)
    clear hS hK K hS8
    have hS := hS2
    clear hS2
    refine wpAnyH_take (i := 4) (v := .bool false) rfl (by kernel_rfl) (by kernel_rfl) (by kernel_rfl) (fun _ _ _ h => h) (Or.inl ⟨by rfl, ?_⟩) hS ?_
    · intro W hSw
      clear hS
      go_simp
    simp only [Act.put, List.setIfInBounds_toArray, List.set_cons_zero, List.set_cons_succ, List.getElem_toArray, List.getElem_cons_zero, List.getElem_cons_succ]
    refine wpAnyH_done (by kernel_rfl) ?_ _
    have HB8 : Hid (Below w.heap.size w w8) := invH_b hS
    clear hS
    go_wp2
    go_ret
    exact ⟨rfl, HB8.out⟩
end Go.Proofs.YtaamahohdnbpiaaGreat
