import Derived.Test.YtihndnclplkleaaIL
namespace Go.Proofs.Ytihndnclplkleaa
open Go.RowKit
set_option maxHeartbeats 1000000 in
theorem toFilterS_row (w : World) (a : Option Addr) (n cap : Nat) (bs : List R3) (h : isR3s w a n cap bs) (hn : n ≤ 1048576) :
    Calls Try.prog 14 #[.slice a n cap] w fun e w' => ∃ g, e = .returned (.slice (some ⟨g, 0, none⟩) n n) ∧ (w.heap.size ≤ g ∧ g < w'.heap.size ∧ rowZ w' g (n * 3)) ∧ St w.heap.size w' (fun W => isR3s W (some ⟨g, 0, none⟩) n n bs) ∧ Below w.heap.size w w' := by
  have hlen := h.len
  have hcp := h.cap
  by_cases hl : bs = []
  · subst hl
    have hn0 : n = 0 := hlen
    subst hn0
    clear hlen h
    go_enter Try.func14, Try.ntmps14
    go_wp2_with (first | (at_make; refine make_Z _ 36 98 _ 3 12 Try.info98 Try.underlying36 (by decide) rfl (.tmp 6) (.tmp 6) rfl _ 0 rfl rfl rfl (by omega) ?_; intro w1 hrow hg1 hz1))
    go_loopw [4] (fun i wr => i = .int .i64 0 ∧ Below w.heap.size w wr ∧ w.heap.size < wr.heap.size ∧ rowZ wr w.heap.size (0 * 3)) (fun _ _ => 0)
    case atStart => exact ⟨rfl, (Below.refl _ _).grown hg1 (Nat.le_refl _) (by intro k e; cases e), hz1, hrow⟩
    case round =>
      clear hrow
      obtain ⟨rfl, hb, hz, hrow⟩ := hrel
      go_wp2
      go_ret
      exact ⟨_, rfl, ⟨Nat.le_refl _, hz, hrow⟩, fun _ _ => ⟨rfl, Nat.le_refl _, fun e => absurd rfl e⟩, hb⟩
  · obtain ⟨g, off, rfl, hc⟩ := h.cells hl
    have HL : Hid (n = bs.length) := hlen
    have HC : Hid (∀ j (h : j < bs.length), at3 w g (off + j * 3) bs[j]) := hc
    have hgz : g < w.heap.size := World.block_lt_of_cell? w _ (hc 0 (List.length_pos_iff.2 hl)).c0
    clear h hlen hc
    go_enter Try.func14, Try.ntmps14
    go_wp2_with (first | (at_make; refine make_Z _ 36 98 _ 3 12 Try.info98 Try.underlying36 (by decide) rfl (.tmp 6) (.tmp 6) rfl _ n rfl rfl rfl (by omega) ?_; intro w1 hrow hg1 hz1))
    go_loopw [4] (fun i wr => ∃ k : Nat, k ≤ n ∧ i = .int .i64 k ∧ rowZ wr w.heap.size (n * 3) ∧ (∀ j (hj : j < k) (h : j < bs.length), at3 wr w.heap.size (j * 3) bs[j]) ∧ Below w.heap.size w wr ∧ w.heap.size < wr.heap.size) (fun i _ => n - (intOf i).toNat)
    case atStart => exact ⟨0, Nat.zero_le _, rfl, hrow, fun j hj => absurd hj (Nat.not_lt_zero _), (Below.refl _ _).grown hg1 (Nat.le_refl _) (by intro k e; cases e), hz1⟩
    case round =>
      clear hrow hz1 hg1
      obtain ⟨k, hk, rfl, hrow, hdone, hb, hz⟩ := hrel
      by_cases hlt : k < n
      · have hkl : k < bs.length := by have := HL.out; omega
        have hx := HC.out k hkl
        have x0 := (hb.cell (by exact hgz)).trans hx.c0
        have x1 := (hb.cell (by exact hgz)).trans hx.c1
        have x2 := (hb.cell (by exact hgz)).trans hx.c2
        have HD : Hid (∀ W, Below wr.heap.size wr W → rowZ W w.heap.size (n * 3) ∧ (∀ j (hj : j < k) (h : j < bs.length), at3 W w.heap.size (j * 3) bs[j]) ∧ Below w.heap.size w W ∧ w.heap.size < W.heap.size) := fun W hW => ⟨hrow.below hW hz, fun j hj hjl => (hdone j hj hjl).below hW, hb.trans (hW.mono (by omega)), Nat.lt_of_lt_of_le hz hW.size⟩
        clear hrow hdone hb hx
        have hkn : k * 3 + 3 ≤ n * 3 := by omega
        have HB : Hid (∀ W, rowZ W w.heap.size (n * 3) → at3 (setRow W w.heap.size (k * 3) [.bool bs[k].e, .int .u32 bs[k].m, .int .u32 bs[k].k]) w.heap.size (k * 3) bs[k]) := fun W hW => at3.new hW (k * 3) hkn bs[k]
        generalize hB0 : bs[k].e = e0 at *
        generalize hB1 : bs[k].m = m0 at *
        generalize hB2 : bs[k].k = k0 at *
        clear hB0 hB1 hB2
        go_wp2_with (first | (go_at_call 40; refine (toFilter_any _ _ _ _).mono ?_; rintro o w5 ⟨rfl, hb5⟩; obtain ⟨v0, z0⟩ := (HD.out w5 hb5).1.cell (k * 3) (by omega); obtain ⟨v1, z1⟩ := (HD.out w5 hb5).1.cell (k * 3 + 1) (by omega); obtain ⟨v2, z2⟩ := (HD.out w5 hb5).1.cell (k * 3 + 2) (by omega); have f0 := (HD.out w5 hb5).1.free (k * 3); have f1 := (HD.out w5 hb5).1.free (k * 3 + 1); have f2 := (HD.out w5 hb5).1.free (k * 3 + 2)))
        go_roundw
        case rel =>
          obtain ⟨r1, r2, r3, r4⟩ := HD.out w5 hb5
          refine ⟨k + 1, by omega, by go_num, r1.put [.bool e0, .int .u32 m0, .int .u32 k0] (k * 3) hkn, fun j hj hjl => ?_, setRow_below _ _ (Nat.le_refl _) w [.bool e0, .int .u32 m0, .int .u32 k0] w5 (k * 3) r3, ?_⟩
          · by_cases e : j = k
            · subst e
              exact HB.out w5 r1
            · exact (r2 j (by omega) hjl).keep [.bool e0, .int .u32 m0, .int .u32 k0] (k * 3) (by simp; omega)
          · simpa using r4
        case measure => simp [intOf]; omega
      · go_wp2
        go_ret
        refine ⟨_, rfl, ⟨Nat.le_refl _, hz, hrow⟩, fun W hW => ⟨HL.out, Nat.le_refl _, fun _ => ⟨_, 0, rfl, fun j hj => ?_⟩⟩, hb⟩
        have := hdone j (by have := HL.out; omega) hj
        rw [Nat.zero_add]
        exact this.up (hW _ (Nat.le_refl _) hz)
end Go.Proofs.Ytihndnclplkleaa
