import Derived.Test.YtaamahohdnbpiaaGreatG30
import Derived.Test.YtaamahohdnbpiaaGreatG36
namespace Go.Proofs.YtaamahohdnbpiaaGreat
open Go.RowKit
set_option linter.unusedVariables false
theorem ring5.tail {w0 W : World} {g room first : Nat} {f : R5} {r : List R5} (h : ring5 w0 W g room first (f :: r)) : ring5 w0 W g room ((first + 1) % room) r := fun i hi => by
  obtain ⟨ao, m, c, h1, h2⟩ := h (i + 1) (by simpa using hi)
  refine ⟨ao, m, c, ?_, by simpa using h2⟩
  have e : ((first + 1) % room + i) % room = (first + (i + 1)) % room := by
    rw [Nat.mod_add_mod]
    congr 1
    omega
  rw [e]
  simpa using h1
/-- the first frame of the FIFO is taken -/
theorem lh.fifo {w0 : World} {G : Lg} {H : Ho} {f1 f3 : Nat} {hs : Nat → Hd} {nm : Nat} {D : DataW Unit} {W : World} (h : lh w0 G H f1 f3 hs nm D W) {f : R5} {r : List R5} (hff : H.ff = f :: r) : lh w0 G { H with ff := r } ((f1 + 1) % G.r1) f3 hs nm D ((W.setCell ⟨G.P, 8, none⟩ (.int .i64 (((f1 + 1) % G.r1 : Nat) : Int))).setCell ⟨G.P, 9, none⟩ (.int .i64 (r.length : Int))) := by
  have dp := h.d.p
  have dl := h.d.lo
  have hb1 := h.bd.b1
  have hfl : H.ff.length = r.length + 1 := by rw [hff]; rfl
  have hsm := h.bd.s3
  have hrr := h.r
  rw [hff] at hrr
  have he : ∀ q, q ≠ G.P → ((W.setCell ⟨G.P, 8, none⟩ (.int .i64 (((f1 + 1) % G.r1 : Nat) : Int))).setCell ⟨G.P, 9, none⟩ (.int .i64 (r.length : Int))).heap[q]? = W.heap[q]? := fun q hq => (heap_setCell_other _ _ _ _ (by exact hq)).trans (heap_setCell_other _ _ _ _ (by exact hq))
  have hb : Below w0.heap.size w0 ((W.setCell ⟨G.P, 8, none⟩ (.int .i64 (((f1 + 1) % G.r1 : Nat) : Int))).setCell ⟨G.P, 9, none⟩ (.int .i64 (r.length : Int))) := (h.b.setCell (by exact dl.2.1) _).setCell (by exact dl.2.1) _
  have hz : W.heap.size ≤ ((W.setCell ⟨G.P, 8, none⟩ (.int .i64 (((f1 + 1) % G.r1 : Nat) : Int))).setCell ⟨G.P, 9, none⟩ (.int .i64 (r.length : Int))).heap.size := (((Below.refl 0 W).setCell (Nat.zero_le _) _).setCell (Nat.zero_le _) _).size
  refine ⟨(h.p.set 8 _).set 9 _, h.f.same (he _ dp.1), h.x.at0 (he _ dp.2.1) hb, hrr.tail.keep (he _ dp.2.2.1), h.rz.up (he _ dp.2.2.1), h.q.keep (he _ dp.2.2.2.1), h.qz.up (he _ dp.2.2.2.1), ?_, hb, ⟨Nat.lt_of_lt_of_le h.hi.1 hz, Nat.lt_of_lt_of_le h.hi.2.1 hz, Nat.lt_of_lt_of_le h.hi.2.2 hz⟩, h.d, ⟨h.bd.e1, h.bd.e3, h.bd.m1, h.bd.m2, h.bd.nk, ⟨Nat.mod_lt _ (by omega), hb1.2.1, by show r.length ≤ _; omega⟩, h.bd.b3, h.bd.lo, fun j hj => ?_, h.bd.s4⟩⟩
  · obtain ⟨es, clock, q1, q2⟩ := h.m
    exact ⟨es, clock, (he _ dp.2.2.2.2).trans q1, q2⟩
  · have hj' : j + 1 < H.ff.length := by rw [hfl]; have : j < r.length := hj; omega
    have e : r[j]'(hj) = H.ff[j + 1] := by simp [hff]
    show (r[j]'(hj)).l.length ≤ _
    rw [e]
    exact hsm (j + 1) hj'
/-- a store into a cell of someone else's -/
theorem lh.setCell {w0 : World} {G : Lg} {H : Ho} {f1 f3 : Nat} {hs : Nat → Hd} {nm : Nat} {D : DataW Unit} {W : World} (h : lh w0 G H f1 f3 hs nm D W) {B x : Nat} (hB : lhU G B) (hx : B ≤ x) (o : Nat) (v : Value) : lh w0 G H f1 f3 hs nm D (W.setCell ⟨x, o, none⟩ v) := by
  have := h.put hB hx o [v]
  simpa [World.setCells] using this
/-- the ring of frames: take of one, there is one -/
theorem ring5.one {w0 W : World} {g room first : Nat} {f : R5} {r : List R5} (h : ring5 w0 W g room first (f :: r)) : ring5 w0 W g room first [f] := fun i hi => by
  have e : i = 0 := by simpa using hi
  subst e
  obtain ⟨ao, m, c, h1, h2⟩ := h 0 (by simp)
  exact ⟨ao, m, c, by simpa using h1, by simpa using h2⟩
theorem look_one {w0 w : World} {G : Lg} {H : Ho} {f1 f3 : Nat} {hs : Nat → Hd} {nm : Nat} {D : DataW Unit} (h : lh w0 G H f1 f3 hs nm D w) {f : R5} {r : List R5} (hff : H.ff = f :: r) :
    Calls Tryz.prog 161 #[.pointer (some ⟨G.P, 7, none⟩), .int .i64 1] w fun e w' => ∃ gx kx ao m c, e = .returned (.slice (some ⟨gx, 0, none⟩) 1 kx) ∧ (w.heap.size ≤ gx ∧ gx < w'.heap.size ∧ 1 ≤ kx ∧ w'.rangeAt gx 0 [.bool f.e, .int .u32 (f.i : Int), .bool f.r, .int .i64 f.d, .slice ao m c] ∧ isBytes w0 ao m c f.l) ∧ Below w.heap.size w w' := by
  have hr := h.r
  rw [hff] at hr
  have hb1 := h.bd.b1
  have hfl : H.ff.length = r.length + 1 := by rw [hff]; rfl
  refine (look5_of w0 w G.P 7 G.gr G.r1 f1 [f] H.ff.length 1 (by rw [hfl]; simp) (h.p.cell 7 _ rfl) (h.p.cell 8 _ rfl) (h.p.cell 9 _ rfl) hr.one hb1.1 ⟨by omega, hb1.2.1⟩ (by simp; omega)).mono ?_
  rintro e w' ⟨v, bs, rfl, hm, hby, ho, hb⟩
  have hl : bs.length = 1 := by
    have := congrArg List.length hm
    simpa using this
  obtain ⟨b, rfl⟩ := List.length_eq_one_iff.1 hl
  obtain ⟨⟨e, i, rr, d, l⟩, ao, m, c⟩ := b
  have hfe : (⟨e, i, rr, d, l⟩ : R5) = f := by simpa using hm
  subst hfe
  have hby0 := hby 0 (by simp)
  rcases ownsRow_split ho with ⟨ev, en⟩ | ⟨gx, kx, rfl, q1, q2, q3, q4, q5⟩
  · simp at en
  · exact ⟨gx, kx, ao, m, c, rfl, ⟨q1, q2, q3, q5, hby0⟩, hb⟩
set_option maxHeartbeats 4000000 in
set_option maxRecDepth 20000 in
theorem take5_one {w0 w : World} {G : Lg} {H : Ho} {f1 f3 : Nat} {hs : Nat → Hd} {nm : Nat} {D : DataW Unit} (h : lh w0 G H f1 f3 hs nm D w) {f : R5} {r : List R5} (hff : H.ff = f :: r) :
    Calls Tryz.prog 151 #[.pointer (some ⟨G.P, 7, none⟩), .int .i64 1] w fun e w' => ∃ gx kx ao m c, e = .returned (.slice (some ⟨gx, 0, none⟩) 1 kx) ∧ (w.heap.size ≤ gx ∧ gx < w'.heap.size ∧ 1 ≤ kx ∧ w'.rangeAt gx 0 [.bool f.e, .int .u32 (f.i : Int), .bool f.r, .int .i64 f.d, .slice ao m c] ∧ isBytes w0 ao m c f.l) ∧ lh w0 G { H with ff := r } ((f1 + 1) % G.r1) f3 hs nm D w' ∧ (∀ q, q ≠ G.P → q < w.heap.size → w'.heap[q]? = w.heap[q]?) ∧ w.heap.size ≤ w'.heap.size := by
  have HLK : Hid (Calls Tryz.prog 161 #[.pointer (some ⟨G.P, 7, none⟩), .int .i64 1] w fun e w' => ∃ gx kx ao m c, e = .returned (.slice (some ⟨gx, 0, none⟩) 1 kx) ∧ (w.heap.size ≤ gx ∧ gx < w'.heap.size ∧ 1 ≤ kx ∧ w'.rangeAt gx 0 [.bool f.e, .int .u32 (f.i : Int), .bool f.r, .int .i64 f.d, .slice ao m c] ∧ isBytes w0 ao m c f.l) ∧ Below w.heap.size w w') := look_one h hff
  have HL : Hid (lh w0 G H f1 f3 hs nm D w) := h
  have HFF : Hid (H.ff = f :: r) := hff
  have HPL : Hid (G.P < w.heap.size) := h.p.lt
  clear h hff
  go_enter Tryz.func151, Tryz.ntmps151
  go_wp2_with fail
  refine HLK.out.mono ?_
  rintro e w2 ⟨gx, kx, ao, m, c, rfl, hx, hb⟩
  have HL2 : Hid (lh w0 G H f1 f3 hs nm D w2) := HL.out.below hb
  have HX : Hid (w.heap.size ≤ gx ∧ gx < w2.heap.size ∧ 1 ≤ kx ∧ w2.rangeAt gx 0 [.bool f.e, .int .u32 (f.i : Int), .bool f.r, .int .i64 f.d, .slice ao m c] ∧ isBytes w0 ao m c f.l) := hx
  have HB : Hid (Below w.heap.size w w2) := hb
  have y7 := HL2.out.p.cell 7 _ rfl
  have y8 := HL2.out.p.cell 8 _ rfl
  have y9 : w2.cell? ⟨G.P, 9, none⟩ = some (.int .i64 ((r.length : Int) + 1)) := by
    have := HL2.out.p.cell 9 _ rfl
    rw [HFF.out] at this
    exact this
  have z8 := HL2.out.p.free 8
  have z9 := HL2.out.p.free 9
  have hb1 := HL2.out.bd.b1
  have hfl : H.ff.length = r.length + 1 := by rw [HFF.out]; rfl
  have hrl : r.length ≤ 1000 := by omega
  obtain ⟨Q, hQ⟩ : ∃ Q, (f1 + 1) % G.r1 = Q := ⟨_, rfl⟩
  have HQ : Hid ((f1 + 1) % G.r1 = Q) := hQ
  have hwk : IntKind.i64.wrap ((f1 : Int) + 1) = ((f1 + 1 : Nat) : Int) := by rw [IntKind.wrap_i64]; omega
  have hr0 : ¬ G.r1 = 0 := by omega
  have htm : ((f1 + 1 : Nat) : Int).tmod (G.r1 : Int) = (Q : Int) := by rw [← hQ]; exact (Int.ofNat_tmod _ _).symm
  have htm2 : ((f1 : Int) + 1).tmod (G.r1 : Int) = (Q : Int) := htm
  have hwr : IntKind.i64.wrap ((r.length : Int) + 1 - 1) = (r.length : Int) := by rw [IntKind.wrap_i64]; omega
  clear HLK HL hx hb hQ
  go_wp2_with fail
  refine wp_region_still_tail 16 (by kernel_rfl) (by kernel_rfl) ?_
  change wpStill Tryz.prog _ (World.drew w2) (fun a' => wpList Tryz.prog _ _ _ a' (World.drew w2)) _ _
  have hbd : Below w2.heap.size w2 (World.drew w2) := (Below.refl _ _).drew
  have HL2 : Hid (lh w0 G H f1 f3 hs nm D (World.drew w2)) := HL2.out.below hbd
  have HX : Hid (w.heap.size ≤ gx ∧ gx < (World.drew w2).heap.size ∧ 1 ≤ kx ∧ (World.drew w2).rangeAt gx 0 [.bool f.e, .int .u32 (f.i : Int), .bool f.r, .int .i64 f.d, .slice ao m c] ∧ isBytes w0 ao m c f.l) := HX.out
  have HB : Hid (Below w.heap.size w (World.drew w2)) := HB.out.drew
  have y7 : (World.drew w2).cell? ⟨G.P, 7, none⟩ = some (.slice (some ⟨G.gr, 0, none⟩) G.r1 G.r1) := y7
  have y8 : (World.drew w2).cell? ⟨G.P, 8, none⟩ = some (.int .i64 (f1 : Int)) := y8
  have y9 : (World.drew w2).cell? ⟨G.P, 9, none⟩ = some (.int .i64 ((r.length : Int) + 1)) := y9
  have z8 : (World.drew w2).frozen? ⟨G.P, 8, none⟩ = false := z8
  have z9 : (World.drew w2).frozen? ⟨G.P, 9, none⟩ = false := z9
  generalize World.drew w2 = w3 at *
  simp only [List.take_succ_cons, List.take_zero, List.drop_succ_cons, List.drop_zero]
  repeat still_step
  refine wpStill_nil ?_
  go_wp2_with fail
  go_ret
  have hfx := HL2.out.fifo HFF.out
  rw [HQ.out] at hfx
  refine ⟨gx, kx, ao, m, c, rfl, ⟨HX.out.1, ?_, HX.out.2.2.1, ?_, HX.out.2.2.2.2⟩, by rw [HQ.out]; exact hfx, fun q h1 h2 => ?_, ?_⟩
  · exact Nat.lt_of_lt_of_le HX.out.2.1 (((Below.refl 0 w3).setCell (Nat.zero_le _) _).setCell (Nat.zero_le _) _).size
  · exact rangeAt.up HX.out.2.2.2.1 ((heap_setCell_other _ _ _ _ (by show gx ≠ G.P; have := HX.out.1; have := HPL.out; omega)).trans (heap_setCell_other _ _ _ _ (by show gx ≠ G.P; have := HX.out.1; have := HPL.out; omega)))
  · exact ((heap_setCell_other _ _ _ _ (by exact h1)).trans (heap_setCell_other _ _ _ _ (by exact h1))).trans (HB.out.block q h2)
  · exact Nat.le_trans HB.out.size (((Below.refl 0 w3).setCell (Nat.zero_le _) _).setCell (Nat.zero_le _) _).size
set_option maxHeartbeats 4000000 in
set_option maxRecDepth 20000 in
theorem take5_none {w0 w : World} {G : Lg} {H : Ho} {f1 f3 : Nat} {hs : Nat → Hd} {nm : Nat} {D : DataW Unit} (h : lh w0 G H f1 f3 hs nm D w) (hff : H.ff = []) :
    Calls Tryz.prog 151 #[.pointer (some ⟨G.P, 7, none⟩), .int .i64 1] w fun e w' => ∃ a k, e = .returned (.slice a 0 k) ∧ Below w.heap.size w w' := by
  have HLK : Hid (Calls Tryz.prog 161 #[.pointer (some ⟨G.P, 7, none⟩), .int .i64 1] w fun e w' => ∃ a k, e = .returned (.slice a 0 k) ∧ Below w.heap.size w w') := by
    have hr := h.r
    rw [hff] at hr
    have hb1 := h.bd.b1
    have hfl : H.ff.length = 0 := by rw [hff]; rfl
    refine (look5_of w0 w G.P 7 G.gr G.r1 f1 [] H.ff.length 1 (by rw [hfl]; simp) (h.p.cell 7 _ rfl) (h.p.cell 8 _ rfl) (h.p.cell 9 _ rfl) hr hb1.1 ⟨by omega, hb1.2.1⟩ (by simp)).mono ?_
    rintro e w' ⟨v, bs, rfl, hm, hby, ho, hb⟩
    rcases ownsRow_split ho with ⟨ev, en⟩ | ⟨gx, kx, rfl, _⟩
    · subst ev
      exact ⟨none, 0, rfl, hb⟩
    · exact ⟨_, kx, rfl, hb⟩
  clear h hff
  go_enter Tryz.func151, Tryz.ntmps151
  go_wp2_with fail
  refine HLK.out.mono ?_
  rintro e w2 ⟨a, k, rfl, hb⟩
  have HB : Hid (Below w.heap.size w w2) := hb
  clear hb HLK
  go_wp2_with fail
  go_ret
  exact ⟨a, k, rfl, HB.out⟩
set_option maxHeartbeats 4000000 in
set_option maxRecDepth 20000 in
/-- impl's fetch, the FIFO is empty -/
theorem fetch_none {w0 w : World} {G : Lg} {H : Ho} {f1 f3 : Nat} {hs : Nat → Hd} {nm : Nat} {D : DataW Unit} (h : lh w0 G H f1 f3 hs nm D w) (hff : H.ff = []) :
    Calls Tryz.prog 105 #[.pointer (some ⟨G.P, 0, none⟩)] w fun o w' => o = .returned (.tuple #[]) ∧ lh w0 G (fetHo H) f1 f3 hs nm D w' := by
  have HT : Hid (fetHo H = postHo H (ev3 12 0 0)) := by
    show _ = _
    unfold fetHo
    rw [hff]
  have HTK : Hid (∀ W, lh w0 G H f1 f3 hs nm D W → Calls Tryz.prog 151 #[.pointer (some ⟨G.P, 7, none⟩), .int .i64 1] W fun e w' => ∃ a k, e = .returned (.slice a 0 k) ∧ Below W.heap.size W w') := fun W hW => take5_none hW hff
  have HL : Hid (lh w0 G H f1 f3 hs nm D w) := h
  clear h hff
  go_enter Tryz.func105, Tryz.ntmps105
  go_wp2_with fail
  have hbA : Below w.heap.size w (w.alloc (.cells [.int .i64 12, .int .i64 0, .int .i64 0, .bool false, .int .u32 0, .bool false, .int .i64 0, .slice none 0 0].toArray 46)) := (Below.refl _ _).alloc (Nat.le_refl _) _
  refine (HTK.out (w.alloc (.cells [.int .i64 12, .int .i64 0, .int .i64 0, .bool false, .int .u32 0, .bool false, .int .i64 0, .slice none 0 0].toArray 46)) (HL.out.below hbA)).mono ?_
  rintro e w2 ⟨a, k, rfl, hb⟩
  have HP2 : Hid (blk w2 w.heap.size [.int .i64 12, .int .i64 0, .int .i64 0, .bool false, .int .u32 0, .bool false, .int .i64 0, .slice none 0 0] 46) := (blk.new w _ 46).below hb
  have HL2 : Hid (lh w0 G H f1 f3 hs nm D w2) := (HL.out.below hbA).below hb
  clear hb hbA HTK HL
  have HPO : Hid (Calls Tryz.prog 120 #[.pointer (some ⟨G.P, 0, none⟩), .agg [.int .i64 12, .int .i64 0, .int .i64 0, .bool false, .int .u32 0, .bool false, .int .i64 0, .slice none 0 0].toArray] w2 fun o w' => o = .returned (.tuple #[]) ∧ lh w0 G (postHo H (ev3 12 0 0)) f1 f3 hs nm D w' ∧ (∀ q, q ≠ G.P → q ≠ G.gq → q < w2.heap.size → w'.heap[q]? = w2.heap[q]?) ∧ w2.heap.size ≤ w'.heap.size) := HL2.out.post (ev3 12 0 0) none 0 0 (none8 _) (Nat.zero_le _)
  go_wp2_with fail
  go_loopw [11] (fun i wr => i = .int .i64 0 ∧ wr = w2) (fun _ _ => 0)
  case atStart => exact ⟨rfl, rfl⟩
  case round =>
    obtain ⟨rfl, rfl⟩ := hrel
    go_wp2_with (first
      | (refine wpList_load_mid (P := Tryz.prog) rfl 46 _ rfl w.heap.size 0 rfl [.int .i64 12, .int .i64 0, .int .i64 0, .bool false, .int .u32 0, .bool false, .int .i64 0, .slice none 0 0] _ HP2.out.load Tryz.underlying46 rfl sz129 ?_))
    refine HPO.out.mono ?_
    rintro o w7 ⟨rfl, hl7, _, _⟩
    have HL7 : Hid (lh w0 G (postHo H (ev3 12 0 0)) f1 f3 hs nm D w7) := hl7
    clear hl7 HPO
    go_wp2_with fail
    first | go_end0 | (simp only [Exit.inBlock, Exit.then]; refine bodyPost_ret (results_none rfl _ _ _) rfl ?_) | refine bodyPost_ret (results_none rfl _ _ _) rfl ?_
    exact ⟨rfl, by rw [HT.out]; exact HL7.out⟩
set_option maxHeartbeats 4000000 in
set_option maxRecDepth 20000 in
/-- impl's fetch, there is a frame -/
theorem fetch_one {w0 w : World} {G : Lg} {H : Ho} {f1 f3 : Nat} {hs : Nat → Hd} {nm : Nat} {D : DataW Unit} (h : lh w0 G H f1 f3 hs nm D w) {f : R5} {r : List R5} (hff : H.ff = f :: r) :
    Calls Tryz.prog 105 #[.pointer (some ⟨G.P, 0, none⟩)] w fun o w' => o = .returned (.tuple #[]) ∧ lh w0 G (fetHo H) ((f1 + 1) % G.r1) f3 hs nm D w' := by
  have HT : Hid (fetHo H = postHo { H with ff := r } (evF 12 1 0 f)) := by
    show _ = _
    unfold fetHo
    rw [hff]
    rfl
  have hsm := h.bd.s3 0 (by rw [hff]; simp)
  have e0 : H.ff[0]'(by rw [hff]; simp) = f := by simp [hff]
  rw [e0] at hsm
  have HTK : Hid (∀ W, lh w0 G H f1 f3 hs nm D W → Calls Tryz.prog 151 #[.pointer (some ⟨G.P, 7, none⟩), .int .i64 1] W fun e w' => ∃ gx kx ao m c, e = .returned (.slice (some ⟨gx, 0, none⟩) 1 kx) ∧ (W.heap.size ≤ gx ∧ gx < w'.heap.size ∧ 1 ≤ kx ∧ w'.rangeAt gx 0 [.bool f.e, .int .u32 (f.i : Int), .bool f.r, .int .i64 f.d, .slice ao m c] ∧ isBytes w0 ao m c f.l) ∧ lh w0 G { H with ff := r } ((f1 + 1) % G.r1) f3 hs nm D w' ∧ (∀ q, q ≠ G.P → q < W.heap.size → w'.heap[q]? = W.heap[q]?) ∧ W.heap.size ≤ w'.heap.size) := fun W hW => take5_one hW hff
  have HL : Hid (lh w0 G H f1 f3 hs nm D w) := h
  clear h hff e0
  obtain ⟨fE, fI, fR, fD, fL⟩ := f
  have HSM : Hid (fL.length ≤ 1048576) := hsm
  clear hsm
  go_enter Tryz.func105, Tryz.ntmps105
  go_wp2_with fail
  have hbA : Below w.heap.size w (w.alloc (.cells [.int .i64 12, .int .i64 0, .int .i64 0, .bool false, .int .u32 0, .bool false, .int .i64 0, .slice none 0 0].toArray 46)) := (Below.refl _ _).alloc (Nat.le_refl _) _
  refine (HTK.out (w.alloc (.cells [.int .i64 12, .int .i64 0, .int .i64 0, .bool false, .int .u32 0, .bool false, .int .i64 0, .slice none 0 0].toArray 46)) (HL.out.below hbA)).mono ?_
  rintro e w2 ⟨gx, kx, ao, m, c, rfl, ⟨h1, h2, h3, h4, h5⟩, h6, h7, h8⟩
  have hsz : (w.alloc (.cells [.int .i64 12, .int .i64 0, .int .i64 0, .bool false, .int .u32 0, .bool false, .int .i64 0, .slice none 0 0].toArray 46)).heap.size = w.heap.size + 1 := by simp
  have HP2 : Hid (blk w2 w.heap.size [.int .i64 12, .int .i64 0, .int .i64 0, .bool false, .int .u32 0, .bool false, .int .i64 0, .slice none 0 0] 46) := (blk.new w _ 46).kept (h7 _ (by have := HL.out.p.lt; omega) (by omega))
  have HU2 : Hid (lhU G w.heap.size) := HL.out.lts
  have HL2 : Hid (lh w0 G { H with ff := r } ((f1 + 1) % G.r1) f3 hs nm D w2) := h6
  have HX2 : Hid (w.heap.size + 1 ≤ gx ∧ gx < w2.heap.size ∧ 1 ≤ kx ∧ w2.rangeAt gx 0 [.bool fE, .int .u32 (fI : Int), .bool fR, .int .i64 fD, .slice ao m c] ∧ isBytes w0 ao m c fL) := ⟨by omega, h2, h3, h4, h5⟩
  have HZ2 : Hid (w.heap.size < w2.heap.size) := by show _ < _; omega
  have hkx : 1 ≤ kx := h3
  clear h1 h2 h3 h4 h5 h6 h7 h8 hsz hbA HTK HL
  go_wp2_with fail
  go_loopw [11] (fun i wr => (i = .int .i64 0 ∧ wr = w2) ∨ (i = .int .i64 1 ∧ blk wr w.heap.size [.int .i64 12, .int .i64 1, .int .i64 0, .bool fE, .int .u32 (fI : Int), .bool fR, .int .i64 fD, .slice ao m c] 46 ∧ lh w0 G { H with ff := r } ((f1 + 1) % G.r1) f3 hs nm D wr)) (fun i _ => 1 - (intOf i).toNat)
  case atStart => exact Or.inl ⟨rfl, rfl⟩
  case round =>
    rcases hrel with ⟨rfl, rfl⟩ | ⟨rfl, hb, hl⟩
    · go_wp2_with (first
        | (refine wpList_load_mid (P := Tryz.prog) rfl 25 _ rfl gx 0 rfl [.bool fE, .int .u32 (fI : Int), .bool fR, .int .i64 fD, .slice ao m c] _ HX2.out.2.2.2.1 Tryz.underlying25 rfl sz93 ?_))
      refine wp_region_held (S := fun X => blk X wr.heap.size [.bool fE, .int .u32 (fI : Int), .bool fR, .int .i64 fD, .slice ao m c] 25) (by kernel_rfl) ?_
      have hbd : Below wr.heap.size wr (World.drew (wr.alloc (.cells [.bool fE, .int .u32 (fI : Int), .bool fR, .int .i64 fD, .slice ao m c].toArray 25))) := ((Below.refl _ _).alloc (Nat.le_refl _) _).drew
      have hS : blk (World.drew (wr.alloc (.cells [.bool fE, .int .u32 (fI : Int), .bool fR, .int .i64 fD, .slice ao m c].toArray 25))) wr.heap.size [.bool fE, .int .u32 (fI : Int), .bool fR, .int .i64 fD, .slice ao m c] 25 := (blk.new wr _ 25).below (Below.refl _ _).drew
      have HPv : Hid (blk (World.drew (wr.alloc (.cells [.bool fE, .int .u32 (fI : Int), .bool fR, .int .i64 fD, .slice ao m c].toArray 25))) w.heap.size [.int .i64 12, .int .i64 0, .int .i64 0, .bool false, .int .u32 0, .bool false, .int .i64 0, .slice none 0 0] 46) := HP2.out.below hbd
      have HLv : Hid (lh w0 G { H with ff := r } ((f1 + 1) % G.r1) f3 hs nm D (World.drew (wr.alloc (.cells [.bool fE, .int .u32 (fI : Int), .bool fR, .int .i64 fD, .slice ao m c].toArray 25)))) := HL2.out.below hbd
      clear hbd
      change wpAnyH Tryz.prog _ _ _ _ _ _ _ (World.drew (wr.alloc (.cells [.bool fE, .int .u32 (fI : Int), .bool fR, .int .i64 fD, .slice ao m c].toArray 25)))
      generalize World.drew (wr.alloc (.cells [.bool fE, .int .u32 (fI : Int), .bool fR, .int .i64 fD, .slice ao m c].toArray 25)) = v0 at *
      refine wpAnyH_take (i := 0) (v := .agg [.bool fE, .int .u32 (fI : Int), .bool fR, .int .i64 fD, .slice ao m c].toArray) rfl (by kernel_rfl) (by kernel_rfl) (by kernel_rfl) (fun _ _ _ h => h) (yieldsIf_load_mid (by rfl) 25 (.tmp 4) rfl wr.heap.size 0 rfl [.bool fE, .int .u32 (fI : Int), .bool fR, .int .i64 fD, .slice ao m c] _ (fun X h => h.load) Tryz.underlying25 rfl sz93) hS ?_
      simp only [Act.put, List.setIfInBounds_toArray, List.set_cons_zero, List.set_cons_succ, List.getElem_toArray, List.getElem_cons_zero]
      refine wpAnyH_take (i := 1) (v := .pointer (some ⟨w.heap.size, 1, none⟩)) rfl (by kernel_rfl) (by kernel_rfl) (by kernel_rfl) (fun _ _ _ h => h) (Or.inl ⟨by rfl, ?_⟩) hS ?_
      · intro W hSw
        clear hS
        go_simp
      simp only [Act.put, List.setIfInBounds_toArray, List.set_cons_zero, List.set_cons_succ, List.getElem_toArray, List.getElem_cons_zero, List.getElem_cons_succ]
      have yv := HPv.out.cell 1 _ rfl
      have zv := HPv.out.free 1
      refine wpAnyH_all (rs := [2]) (by kernel_rfl) (by simp) ?_
      refine AllReadyH.cons rfl (fun K2 hK2 => ?_) AllReadyH.nil
      go_simp
      have hS1 : blk (v0.setCell ⟨w.heap.size, 1, none⟩ (.int .i64 1)) wr.heap.size [.bool fE, .int .u32 (fI : Int), .bool fR, .int .i64 fD, .slice ao m c] 25 := hS.setOther (by have := HZ2.out; omega) _ _
      have HP1 : Hid (blk (v0.setCell ⟨w.heap.size, 1, none⟩ (.int .i64 1)) w.heap.size [.int .i64 12, .int .i64 1, .int .i64 0, .bool false, .int .u32 0, .bool false, .int .i64 0, .slice none 0 0] 46) := HPv.out.set 1 _
      have HL1 : Hid (lh w0 G { H with ff := r } ((f1 + 1) % G.r1) f3 hs nm D (v0.setCell ⟨w.heap.size, 1, none⟩ (.int .i64 1))) := HLv.out.setCell HU2.out (Nat.le_refl _) 1 _
      refine hK2.out _ _ hS1 (fun hS2 => ?_)
      clear hK2 K2 hS1 hS
      have hS := hS2
      clear hS2 yv zv HPv HLv
      generalize v0.setCell ⟨w.heap.size, 1, none⟩ (.int .i64 1) = v1 at *
      refine wpAnyH_take (i := 3) (v := .pointer (some ⟨w.heap.size, 3, none⟩)) rfl (by kernel_rfl) (by kernel_rfl) (by kernel_rfl) (fun _ _ _ h => h) (Or.inl ⟨by rfl, ?_⟩) hS ?_
      · intro W hSw
        clear hS
        go_simp
      simp only [Act.put, List.setIfInBounds_toArray, List.set_cons_zero, List.set_cons_succ, List.getElem_toArray, List.getElem_cons_zero, List.getElem_cons_succ]
      refine wpAnyH_all (rs := [4]) (by kernel_rfl) (by simp) ?_
      refine AllReadyH.cons rfl (fun K2 hK2 => ?_) AllReadyH.nil
      rw [if_pos (by rfl)]
      refine wp_store_mid 25 _ _ rfl w.heap.size 3 [.bool fE, .int .u32 (fI : Int), .bool fR, .int .i64 fD, .slice ao m c].toArray rfl rfl (HP1.out.there 3 5 (by simp)) sz93 (one5 _ _ _ _ _ _ _) ?_
      have hS1 : blk (v1.setCells w.heap.size 3 [.bool fE, .int .u32 (fI : Int), .bool fR, .int .i64 fD, .slice ao m c]) wr.heap.size [.bool fE, .int .u32 (fI : Int), .bool fR, .int .i64 fD, .slice ao m c] 25 := hS.other (by have := HZ2.out; omega) _ _
      have HPe : Hid (blk (v1.setCells w.heap.size 3 [.bool fE, .int .u32 (fI : Int), .bool fR, .int .i64 fD, .slice ao m c]) w.heap.size [.int .i64 12, .int .i64 1, .int .i64 0, .bool fE, .int .u32 (fI : Int), .bool fR, .int .i64 fD, .slice ao m c] 46) := by
        have := blk.put [.int .i64 12, .int .i64 1, .int .i64 0] [.bool false, .int .u32 0, .bool false, .int .i64 0, .slice none 0 0] [] [.bool fE, .int .u32 (fI : Int), .bool fR, .int .i64 fD, .slice ao m c] (w := v1) (b := w.heap.size) (T := 46) HP1.out rfl
        exact this
      have HLe : Hid (lh w0 G { H with ff := r } ((f1 + 1) % G.r1) f3 hs nm D (v1.setCells w.heap.size 3 [.bool fE, .int .u32 (fI : Int), .bool fR, .int .i64 fD, .slice ao m c])) := HL1.out.put HU2.out (Nat.le_refl _) 3 _
      refine hK2.out _ _ hS1 (fun hS2 => ?_)
      clear hK2 K2 hS1 hS hS2
      refine wpAnyH_done (by kernel_rfl) ?_ _
      simp only [Act.put]
      generalize v1.setCells w.heap.size 3 [.bool fE, .int .u32 (fI : Int), .bool fR, .int .i64 fD, .slice ao m c] = v2 at *
      go_wp2_with fail
      go_roundw
      case rel => exact Or.inr ⟨by go_num, HPe.out, HLe.out⟩
      case measure => simp [intOf]
    · have HP3 : Hid (blk wr w.heap.size [.int .i64 12, .int .i64 1, .int .i64 0, .bool fE, .int .u32 (fI : Int), .bool fR, .int .i64 fD, .slice ao m c] 46) := hb
      have HPO : Hid (Calls Tryz.prog 120 #[.pointer (some ⟨G.P, 0, none⟩), .agg [.int .i64 12, .int .i64 1, .int .i64 0, .bool fE, .int .u32 (fI : Int), .bool fR, .int .i64 fD, .slice ao m c].toArray] wr fun o w' => o = .returned (.tuple #[]) ∧ lh w0 G (postHo { H with ff := r } ⟨12, 1, 0, fE, fI, fR, fD, fL⟩) ((f1 + 1) % G.r1) f3 hs nm D w' ∧ (∀ q, q ≠ G.P → q ≠ G.gq → q < wr.heap.size → w'.heap[q]? = wr.heap[q]?) ∧ wr.heap.size ≤ w'.heap.size) := hl.post ⟨12, 1, 0, fE, fI, fR, fD, fL⟩ ao m c HX2.out.2.2.2.2 HSM.out
      clear hb hl
      go_wp2_with (first
        | (refine wpList_load_mid (P := Tryz.prog) rfl 46 _ rfl w.heap.size 0 rfl [.int .i64 12, .int .i64 1, .int .i64 0, .bool fE, .int .u32 (fI : Int), .bool fR, .int .i64 fD, .slice ao m c] _ HP3.out.load Tryz.underlying46 rfl sz129 ?_))
      refine HPO.out.mono ?_
      rintro o w7 ⟨rfl, hl7, _, _⟩
      have HL7 : Hid (lh w0 G (postHo { H with ff := r } ⟨12, 1, 0, fE, fI, fR, fD, fL⟩) ((f1 + 1) % G.r1) f3 hs nm D w7) := hl7
      clear hl7 HPO
      go_wp2_with fail
      first | go_end0 | (simp only [Exit.inBlock, Exit.then]; refine bodyPost_ret (results_none rfl _ _ _) rfl ?_) | refine bodyPost_ret (results_none rfl _ _ _) rfl ?_
      exact ⟨rfl, by rw [HT.out]; exact HL7.out⟩
theorem open_fetch (w : World) (H : Ho) (s : Sl) (h : isHo w H s) (hs : slSome s) (hok : okHo H) (hm : H.le 1048576) :
    Calls Tryz.prog 61 #[.agg (hoL H s).toArray] w fun o w' => ∃ P, o = .returned (.pointer (some ⟨P, 0, none⟩)) ∧ Below w.heap.size w w' ∧ Calls Tryz.prog 105 #[.pointer (some ⟨P, 0, none⟩)] w' fun o w2 => o = .returned (.tuple #[]) ∧ Below w.heap.size w w2 ∧ Calls Tryz.prog 118 #[.pointer (some ⟨P, 0, none⟩)] w2 (toldQ w2 (fetHo H)) := by
  refine (open_lh w H s h hs hok hm).mono ?_
  rintro o w' ⟨G, hd, rfl, hl, hn⟩
  refine ⟨G.P, rfl, hl.b, ?_⟩
  obtain ⟨L, hL⟩ : ∃ L, H.ff = L := ⟨_, rfl⟩
  cases L with
  | nil =>
    refine (fetch_none hl hL).mono ?_
    rintro o w2 ⟨rfl, h2⟩
    exact ⟨rfl, h2.b, h2.told⟩
  | cons f r =>
    refine (fetch_one hl hL).mono ?_
    rintro o w2 ⟨rfl, h2⟩
    exact ⟨rfl, h2.b, h2.told⟩
end Go.Proofs.YtaamahohdnbpiaaGreat
