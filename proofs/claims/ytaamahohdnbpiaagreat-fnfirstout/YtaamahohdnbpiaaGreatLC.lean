import Derived.Test.YtaamahohdnbpiaaGreatG12
namespace Go.Proofs.YtaamahohdnbpiaaGreat
open Go.RowKit
set_option linter.unusedVariables false
theorem sz130r : (Tryz.prog.info? 130).map (·.size) = some 3 := by kernel_rfl
theorem sz132r : (Tryz.prog.info? 132).map (·.size) = some 3 := by kernel_rfl

theorem items5.of {w W : World} {P gs : Nat} {a : Option Addr} {n c : Nat} {its : List R5} (h : isR5s w a n c its) (hb : Below w.heap.size w W) (hP : w.heap.size ≤ P) (hg : w.heap.size ≤ gs) : items5 w W P gs a n c its := by
  refine ⟨h.len, h.cap, fun hne => ?_⟩
  obtain ⟨g, off, e, hc⟩ := h.cells hne
  have hlt : g < w.heap.size := by
    obtain ⟨ao, m, c', hx⟩ := hc 0 (List.length_pos_iff.2 hne)
    exact World.block_lt_of_cell? w _ hx.c0
  refine ⟨g, off, e, by omega, by omega, Nat.lt_of_lt_of_le hlt hb.size, fun j hj => ?_⟩
  obtain ⟨ao, m, c', hx⟩ := hc j hj
  exact ⟨ao, m, c', range_below hx.range hb hlt, hx.dat⟩
set_option maxHeartbeats 4000000 in
set_option maxRecDepth 20000 in
theorem newRing5_any (w0 w : World) (hb0 : Below w0.heap.size w0 w) (room : Nat) (its : List R5) (a : Option Addr) (n c : Nat) (h : isR5s w0 a n c its) (h1 : 1 ≤ room) (h2 : room ≤ 1000) (hn : n ≤ room) :
    Calls Tryz.prog 171 #[.int .i64 (room : Int), .slice a n c] w fun o w' => ∃ gs, o = .returned (.agg #[.slice (some ⟨gs, 0, none⟩) room room, .int .i64 0, .int .i64 (n : Int)]) ∧ w.heap.size ≤ gs ∧ gs < w'.heap.size ∧ rowZ w' gs (room * 5) ∧ ring5 w0 w' gs room 0 its ∧ Below w.heap.size w w' := by
  have hmax : max (room : Int) 0 = (room : Int) := by omega
  have HB0 : Hid (Below w0.heap.size w0 w) := hb0
  have HH : Hid (isR5s w0 a n c its) := h
  have HL : Hid (n = its.length) := h.len
  have H0 : Hid (Below w.heap.size w (w.alloc (.cells #[.slice none 0 0, .int .i64 0, .int .i64 0] 130)) ∧ blk (w.alloc (.cells #[.slice none 0 0, .int .i64 0, .int .i64 0] 130)) w.heap.size [.slice none 0 0, .int .i64 0, .int .i64 0] 130) := ⟨(Below.refl _ _).alloc (Nat.le_refl _) _, blk.new w _ 130⟩
  have HR : Hid (1 ≤ room ∧ room ≤ 1000 ∧ n ≤ room) := ⟨h1, h2, hn⟩
  clear h h1 hn hb0
  go_enter Tryz.func171, Tryz.ntmps171
  go_wp2_with (first
    | (refine make_Z _ 32 25 _ 5 48 Tryz.info25 Tryz.underlying32 (by decide) rfl _ _ rfl _ room rfl rfl rfl (by omega) ?_; intro w2 hz2 hg2 hl2; have H2 : Hid (rowZ w2 (w.heap.size + 1) (room * 5) ∧ w.heap.size + 1 < w2.heap.size ∧ Below w.heap.size w w2 ∧ blk w2 w.heap.size [.slice none 0 0, .int .i64 0, .int .i64 0] 130) := ⟨by simpa using hz2, by simpa using hl2, ⟨hg2.os.trans H0.out.1.os, hg2.tape.trans H0.out.1.tape, hg2.output.trans H0.out.1.output, Nat.le_trans H0.out.1.size hg2.size, fun q hq => (hg2.block q (Nat.lt_of_lt_of_le hq H0.out.1.size) (by simp)).trans (H0.out.1.block q hq)⟩, (hg2.block _ H0.out.2.lt (by simp)).trans H0.out.2⟩; clear hz2 hg2 hl2))
  have HP3 : Hid (blk (w2.alloc (.cells #[.slice (some ⟨w.heap.size + 1, 0, none⟩) room room, .int .i64 0, .int .i64 0] 130)) w2.heap.size [.slice (some ⟨w.heap.size + 1, 0, none⟩) room room, .int .i64 ((0 : Nat) : Int), .int .i64 (([] : List R5).length : Int)] 130) := blk.new w2 _ 130
  have HB3 : Below w.heap.size w (w2.alloc (.cells #[.slice (some ⟨w.heap.size + 1, 0, none⟩) room room, .int .i64 0, .int .i64 0] 130)) := H2.out.2.2.1.alloc H2.out.2.2.1.size _
  refine (put5_any w0 _ w2.heap.size (w.heap.size + 1) room 0 [] its a n c HP3.out (by have := H2.out.2.1; omega) (H2.out.1.below ((Below.refl _ _).alloc (Nat.le_refl _) _) H2.out.2.1) (by have := H2.out.2.1; simp; omega) (fun i hi => absurd hi (Nat.not_lt_zero _)) HR.out.1 (Nat.zero_le _) HR.out.2.1 (items5.of HH.out (HB0.out.trans (HB3.mono HB0.out.size)) (Nat.le_trans HB0.out.size H2.out.2.2.1.size) (by have := HB0.out.size; omega)) (by have := HR.out; omega) n (by have := HR.out; simp; omega)).mono ?_
  rintro o w4 ⟨rfl, hp⟩
  have H4 : Hid (pt5 w0 (w2.alloc (.cells #[.slice (some ⟨w.heap.size + 1, 0, none⟩) room room, .int .i64 0, .int .i64 0] 130)) w4 w2.heap.size (w.heap.size + 1) room 0 its n ∧ blk w4 w.heap.size [.slice none 0 0, .int .i64 0, .int .i64 0] 130 ∧ Below w.heap.size w w4 ∧ w.heap.size + 1 < w4.heap.size ∧ w.heap.size < w2.heap.size) := by
    have hs2 := H2.out.2.1
    have hp' : pt5 w0 (w2.alloc (.cells #[.slice (some ⟨w.heap.size + 1, 0, none⟩) room room, .int .i64 0, .int .i64 0] 130)) w4 w2.heap.size (w.heap.size + 1) room 0 its n := by
      have e1 : ([] : List R5) ++ its.take n = its := by rw [HL.out]; simp
      have e2 : ([] : List R5).length + n = n := by simp
      rw [e1, e2] at hp
      exact hp
    refine ⟨hp', (hp'.k w.heap.size (by omega) (by omega) (by simp; omega)).trans ((Below.heap_alloc _ _ _ (by omega)).trans H2.out.2.2.2), ⟨hp'.o.1.trans HB3.os, hp'.o.2.1.trans HB3.tape, hp'.o.2.2.trans HB3.output, Nat.le_trans HB3.size hp'.s, fun q hq => (hp'.k q (by omega) (by omega) (Nat.lt_of_lt_of_le hq HB3.size)).trans (HB3.block q hq)⟩, ?_, by omega⟩
    have := hp'.s
    simp at this
    omega
  clear hp HB3 HP3
  have y0 := H4.out.1.p.cell 0 _ rfl
  have y1 := H4.out.1.p.cell 1 _ rfl
  have y2 := H4.out.1.p.cell 2 _ rfl
  have x0 := H4.out.2.1.cell 0 _ rfl
  have x1 := H4.out.2.1.cell 1 _ rfl
  have x2 := H4.out.2.1.cell 2 _ rfl
  have z0 := H4.out.2.1.free 0
  have z1 := H4.out.2.1.free 1
  have z2 := H4.out.2.1.free 2
  have hsz := H4.out.2.2.2.2
  go_wp2_with fail
  clear y0 y1 y2 x0 x1 x2 z0 z1 z2 hsz
  have hF := ((H4.out.2.1.set 0 (.slice (some ⟨w.heap.size + 1, 0, none⟩) room room)).set 1 (.int .i64 0)).set 2 (.int .i64 (n : Int))
  have hL := run_loadVar_mid (P := Tryz.prog) _ w.heap.size 0 130 _ _ hF.load Tryz.underlying130 rfl sz130r
  refine bodyPost_ret (results_cell Tryz.results171 _ _ w.heap.size _ rfl hL) rfl ?_
  have e : ∀ b, b ≠ w.heap.size → (((w4.setCell ⟨w.heap.size, 0, none⟩ (.slice (some ⟨w.heap.size + 1, 0, none⟩) room room)).setCell ⟨w.heap.size, 1, none⟩ (.int .i64 0)).setCell ⟨w.heap.size, 2, none⟩ (.int .i64 (n : Int))).heap[b]? = w4.heap[b]? := fun b hb => (heap_setCell_other _ _ _ _ (by exact hb)).trans ((heap_setCell_other _ _ _ _ (by exact hb)).trans (heap_setCell_other _ _ _ _ (by exact hb)))
  refine ⟨w.heap.size + 1, rfl, by omega, by simpa using H4.out.2.2.2.1, H4.out.1.z.up (e _ (by omega)), H4.out.1.r.keep (e _ (by omega)), ?_⟩
  exact ((H4.out.2.2.1.setCell (by exact Nat.le_refl _) _).setCell (by exact Nat.le_refl _) _).setCell (by exact Nat.le_refl _) _

theorem items8.of {w W : World} {P gs : Nat} {a : Option Addr} {n c : Nat} {its : List R8} (h : isR8s w a n c its) (hb : Below w.heap.size w W) (hP : w.heap.size ≤ P) (hg : w.heap.size ≤ gs) : items8 w W P gs a n c its := by
  refine ⟨h.len, h.cap, fun hne => ?_⟩
  obtain ⟨g, off, e, hc⟩ := h.cells hne
  have hlt : g < w.heap.size := by
    obtain ⟨ao, m, c', hx⟩ := hc 0 (List.length_pos_iff.2 hne)
    exact World.block_lt_of_cell? w _ hx.c0
  refine ⟨g, off, e, by omega, by omega, Nat.lt_of_lt_of_le hlt hb.size, fun j hj => ?_⟩
  obtain ⟨ao, m, c', hx⟩ := hc j hj
  exact ⟨ao, m, c', range_below hx.range hb hlt, hx.dat⟩
set_option maxHeartbeats 4000000 in
set_option maxRecDepth 20000 in
theorem newRing8_any (w0 w : World) (hb0 : Below w0.heap.size w0 w) (room : Nat) (its : List R8) (a : Option Addr) (n c : Nat) (h : isR8s w0 a n c its) (h1 : 1 ≤ room) (h2 : room ≤ 1000) (hn : n ≤ room) :
    Calls Tryz.prog 172 #[.int .i64 (room : Int), .slice a n c] w fun o w' => ∃ gs, o = .returned (.agg #[.slice (some ⟨gs, 0, none⟩) room room, .int .i64 0, .int .i64 (n : Int)]) ∧ w.heap.size ≤ gs ∧ gs < w'.heap.size ∧ rowZ w' gs (room * 8) ∧ ring8 w0 w' gs room 0 its ∧ Below w.heap.size w w' := by
  have hmax : max (room : Int) 0 = (room : Int) := by omega
  have HB0 : Hid (Below w0.heap.size w0 w) := hb0
  have HH : Hid (isR8s w0 a n c its) := h
  have HL : Hid (n = its.length) := h.len
  have H0 : Hid (Below w.heap.size w (w.alloc (.cells #[.slice none 0 0, .int .i64 0, .int .i64 0] 132)) ∧ blk (w.alloc (.cells #[.slice none 0 0, .int .i64 0, .int .i64 0] 132)) w.heap.size [.slice none 0 0, .int .i64 0, .int .i64 0] 132) := ⟨(Below.refl _ _).alloc (Nat.le_refl _) _, blk.new w _ 132⟩
  have HR : Hid (1 ≤ room ∧ room ≤ 1000 ∧ n ≤ room) := ⟨h1, h2, hn⟩
  clear h h1 hn hb0
  go_enter Tryz.func172, Tryz.ntmps172
  go_wp2_with (first
    | (refine make_Z _ 33 46 _ 8 72 Tryz.info46 Tryz.underlying33 (by decide) rfl _ _ rfl _ room rfl rfl rfl (by omega) ?_; intro w2 hz2 hg2 hl2; have H2 : Hid (rowZ w2 (w.heap.size + 1) (room * 8) ∧ w.heap.size + 1 < w2.heap.size ∧ Below w.heap.size w w2 ∧ blk w2 w.heap.size [.slice none 0 0, .int .i64 0, .int .i64 0] 132) := ⟨by simpa using hz2, by simpa using hl2, ⟨hg2.os.trans H0.out.1.os, hg2.tape.trans H0.out.1.tape, hg2.output.trans H0.out.1.output, Nat.le_trans H0.out.1.size hg2.size, fun q hq => (hg2.block q (Nat.lt_of_lt_of_le hq H0.out.1.size) (by simp)).trans (H0.out.1.block q hq)⟩, (hg2.block _ H0.out.2.lt (by simp)).trans H0.out.2⟩; clear hz2 hg2 hl2))
  have HP3 : Hid (blk (w2.alloc (.cells #[.slice (some ⟨w.heap.size + 1, 0, none⟩) room room, .int .i64 0, .int .i64 0] 132)) w2.heap.size [.slice (some ⟨w.heap.size + 1, 0, none⟩) room room, .int .i64 ((0 : Nat) : Int), .int .i64 (([] : List R8).length : Int)] 132) := blk.new w2 _ 132
  have HB3 : Below w.heap.size w (w2.alloc (.cells #[.slice (some ⟨w.heap.size + 1, 0, none⟩) room room, .int .i64 0, .int .i64 0] 132)) := H2.out.2.2.1.alloc H2.out.2.2.1.size _
  refine (put8_any w0 _ w2.heap.size (w.heap.size + 1) room 0 [] its a n c HP3.out (by have := H2.out.2.1; omega) (H2.out.1.below ((Below.refl _ _).alloc (Nat.le_refl _) _) H2.out.2.1) (by have := H2.out.2.1; simp; omega) (fun i hi => absurd hi (Nat.not_lt_zero _)) HR.out.1 (Nat.zero_le _) HR.out.2.1 (items8.of HH.out (HB0.out.trans (HB3.mono HB0.out.size)) (Nat.le_trans HB0.out.size H2.out.2.2.1.size) (by have := HB0.out.size; omega)) (by have := HR.out; omega) n (by have := HR.out; simp; omega)).mono ?_
  rintro o w4 ⟨rfl, hp⟩
  have H4 : Hid (pt8 w0 (w2.alloc (.cells #[.slice (some ⟨w.heap.size + 1, 0, none⟩) room room, .int .i64 0, .int .i64 0] 132)) w4 w2.heap.size (w.heap.size + 1) room 0 its n ∧ blk w4 w.heap.size [.slice none 0 0, .int .i64 0, .int .i64 0] 132 ∧ Below w.heap.size w w4 ∧ w.heap.size + 1 < w4.heap.size ∧ w.heap.size < w2.heap.size) := by
    have hs2 := H2.out.2.1
    have hp' : pt8 w0 (w2.alloc (.cells #[.slice (some ⟨w.heap.size + 1, 0, none⟩) room room, .int .i64 0, .int .i64 0] 132)) w4 w2.heap.size (w.heap.size + 1) room 0 its n := by
      have e1 : ([] : List R8) ++ its.take n = its := by rw [HL.out]; simp
      have e2 : ([] : List R8).length + n = n := by simp
      rw [e1, e2] at hp
      exact hp
    refine ⟨hp', (hp'.k w.heap.size (by omega) (by omega) (by simp; omega)).trans ((Below.heap_alloc _ _ _ (by omega)).trans H2.out.2.2.2), ⟨hp'.o.1.trans HB3.os, hp'.o.2.1.trans HB3.tape, hp'.o.2.2.trans HB3.output, Nat.le_trans HB3.size hp'.s, fun q hq => (hp'.k q (by omega) (by omega) (Nat.lt_of_lt_of_le hq HB3.size)).trans (HB3.block q hq)⟩, ?_, by omega⟩
    have := hp'.s
    simp at this
    omega
  clear hp HB3 HP3
  have y0 := H4.out.1.p.cell 0 _ rfl
  have y1 := H4.out.1.p.cell 1 _ rfl
  have y2 := H4.out.1.p.cell 2 _ rfl
  have x0 := H4.out.2.1.cell 0 _ rfl
  have x1 := H4.out.2.1.cell 1 _ rfl
  have x2 := H4.out.2.1.cell 2 _ rfl
  have z0 := H4.out.2.1.free 0
  have z1 := H4.out.2.1.free 1
  have z2 := H4.out.2.1.free 2
  have hsz := H4.out.2.2.2.2
  go_wp2_with fail
  clear y0 y1 y2 x0 x1 x2 z0 z1 z2 hsz
  have hF := ((H4.out.2.1.set 0 (.slice (some ⟨w.heap.size + 1, 0, none⟩) room room)).set 1 (.int .i64 0)).set 2 (.int .i64 (n : Int))
  have hL := run_loadVar_mid (P := Tryz.prog) _ w.heap.size 0 132 _ _ hF.load Tryz.underlying132 rfl sz132r
  refine bodyPost_ret (results_cell Tryz.results172 _ _ w.heap.size _ rfl hL) rfl ?_
  have e : ∀ b, b ≠ w.heap.size → (((w4.setCell ⟨w.heap.size, 0, none⟩ (.slice (some ⟨w.heap.size + 1, 0, none⟩) room room)).setCell ⟨w.heap.size, 1, none⟩ (.int .i64 0)).setCell ⟨w.heap.size, 2, none⟩ (.int .i64 (n : Int))).heap[b]? = w4.heap[b]? := fun b hb => (heap_setCell_other _ _ _ _ (by exact hb)).trans ((heap_setCell_other _ _ _ _ (by exact hb)).trans (heap_setCell_other _ _ _ _ (by exact hb)))
  refine ⟨w.heap.size + 1, rfl, by omega, by simpa using H4.out.2.2.2.1, H4.out.1.z.up (e _ (by omega)), H4.out.1.r.keep (e _ (by omega)), ?_⟩
  exact ((H4.out.2.2.1.setCell (by exact Nat.le_refl _) _).setCell (by exact Nat.le_refl _) _).setCell (by exact Nat.le_refl _) _
end Go.Proofs.YtaamahohdnbpiaaGreat
