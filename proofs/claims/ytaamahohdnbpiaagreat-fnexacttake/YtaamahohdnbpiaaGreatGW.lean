import Derived.Test.YtaamahohdnbpiaaGreatGR
import Derived.Test.YtaamahohdnbpiaaGreatJE
namespace Go.Proofs.YtaamahohdnbpiaaGreat
open Go.RowKit
set_option linter.unusedVariables false
set_option maxHeartbeats 4000000 in
set_option maxRecDepth 20000 in
/-- slices.IndexFunc of isOnWire -/
theorem indexBox_any (w : World) (a : Option Addr) (n cap : Nat) (bs : List R8) (h : isR8s w a n cap bs) (hn : n ≤ 1048576) :
    Calls Tryz.prog 164 #[.slice a n cap, .func (.func 167) #[] #[]] w fun o w' => ∃ z : Int, o = .returned (.int .i64 z) ∧ bsy bs z ∧ Below w.heap.size w w' := by
  have hlen := h.len
  have hcp := h.cap
  by_cases hl : bs = []
  · subst hl
    have hn0 : n = 0 := hlen
    subst hn0
    clear hlen h
    go_enter Tryz.func164, Tryz.ntmps164
    go_wp2
    go_loopw [8] (fun i wr => i = .int .i64 0 ∧ wr = w) (fun _ _ => 0)
    case atStart => exact ⟨rfl, rfl⟩
    case round =>
      obtain ⟨rfl, rfl⟩ := hrel
      go_wp2
      go_ret
      exact ⟨-1, rfl, Or.inr ⟨fun k hk => (by cases hk), rfl⟩, Below.refl _ _⟩
  · obtain ⟨g, off, rfl, hc⟩ := h.cells hl
    have HL : Hid (n = bs.length) := hlen
    have HC : Hid (∀ j (h : j < bs.length), ∃ ao m c, at8 w g (off + j * 8) bs[j] ao m c) := hc
    clear h hlen hc
    go_enter Tryz.func164, Tryz.ntmps164
    go_wp2
    go_loopw [8] (fun i wr => ∃ k : Nat, k ≤ n ∧ i = .int .i64 (k : Int) ∧ (∀ j (hj : j < bs.length), j < k → ¬ onW bs[j]) ∧ Below w.heap.size w wr) (fun i _ => n - (intOf i).toNat)
    case atStart => exact ⟨0, Nat.zero_le _, rfl, fun j hj h => absurd h (Nat.not_lt_zero _), Below.refl _ _⟩
    case round =>
      obtain ⟨k, hk, rfl, hdone, hb⟩ := hrel
      by_cases hlt : k < n
      · have hkl : k < bs.length := by have := HL.out; omega
        obtain ⟨ao, m, c, hx⟩ := HC.out k hkl
        have hx' := hx.below hb
        have HRG := hx'.range
        have HW : Hid (Calls Tryz.prog 167 #[bxV bs[k].x bs[k].y bs[k].z bs[k].e bs[k].i bs[k].r bs[k].d ao m c] wr fun o w' => o = .returned (.bool (bs[k].x == 2 || bs[k].x == 3)) ∧ Below wr.heap.size wr w') := isOnWire_any wr bs[k] ao m c
        have HB : Hid (Below w.heap.size w wr) := hb
        have HD : Hid (∀ j (hj : j < bs.length), j < k → ¬ onW bs[j]) := hdone
        clear hx hx' hb hdone
        have HON : Hid ((bs[k].x == 2 || bs[k].x == 3) = true ↔ onW bs[k]) := by show _ ↔ _; unfold onW; simp
        generalize (bs[k].x == 2 || bs[k].x == 3) = q at *
        have HRG : Hid (wr.rangeAt g (off + k * 8) [.int .i64 bs[k].x, .int .i64 bs[k].y, .int .i64 bs[k].z, .bool bs[k].e, .int .u32 (bs[k].i : Int), .bool bs[k].r, .int .i64 bs[k].d, .slice ao m c]) := HRG
        cases q
        · have HN : Hid (∀ j (hj : j < bs.length), j < k + 1 → ¬ onW bs[j]) := fun j hj hjk => by
            by_cases e : j = k
            · subst e; exact fun h => absurd (HON.out.2 h) (by simp)
            · exact HD.out j hj (by omega)
          clear HON
          generalize bs[k].x = x0 at *
          generalize bs[k].y = y0 at *
          generalize bs[k].z = z0 at *
          generalize bs[k].e = e0 at *
          generalize bs[k].i = i0 at *
          generalize bs[k].r = r0 at *
          generalize bs[k].d = d0 at *
          go_wp2_with (first
            | (refine wpList_load_mid (P := Tryz.prog) rfl 97 _ rfl g (off + k * 8) rfl _ _ HRG.out Tryz.underlying97 rfl sz95 ?_)
            | (go_at_call 167; refine HW.out.mono ?_; rintro o w5 ⟨rfl, hb5⟩))
          go_roundw
          case rel => exact ⟨k + 1, by omega, by go_num, HN.out, HB.out.trans (hb5.mono HB.out.size)⟩
          case measure => simp [intOf]; omega
        · have HN : Hid (bsy bs (k : Int)) := Or.inl ⟨k, hkl, HON.out.1 rfl, HD.out, rfl⟩
          clear HON
          generalize bs[k].x = x0 at *
          generalize bs[k].y = y0 at *
          generalize bs[k].z = z0 at *
          generalize bs[k].e = e0 at *
          generalize bs[k].i = i0 at *
          generalize bs[k].r = r0 at *
          generalize bs[k].d = d0 at *
          go_wp2_with (first
            | (refine wpList_load_mid (P := Tryz.prog) rfl 97 _ rfl g (off + k * 8) rfl _ _ HRG.out Tryz.underlying97 rfl sz95 ?_)
            | (go_at_call 167; refine HW.out.mono ?_; rintro o w5 ⟨rfl, hb5⟩))
          go_ret
          exact ⟨k, rfl, HN.out, HB.out.trans (hb5.mono HB.out.size)⟩
      · have hkn : n = k := by omega
        subst hkn
        go_wp2
        go_ret
        exact ⟨-1, rfl, Or.inr ⟨fun j hj => hdone j hj (by have := HL.out; omega), rfl⟩, hb⟩
end Go.Proofs.YtaamahohdnbpiaaGreat
namespace Go.Proofs.YtaamahohdnbpiaaGreat
open Go.RowKit
set_option linter.unusedVariables false
set_option maxHeartbeats 2000000 in
theorem onWire_any (w : World) (P : Nat) (a : Option Addr) (n cap : Nat) (bx : List R8) (y5 : w.cell? ⟨P, 5, none⟩ = some (.slice a n cap)) (h : isR8s w a n cap bx) (hn : n ≤ 1048576) :
    Calls Tryz.prog 131 #[.pointer (some ⟨P, 0, none⟩)] w fun o w' => ∃ z : Int, o = .returned (.int .i64 z) ∧ bsy bx z ∧ Below w.heap.size w w' := by
  have HI : Hid (Calls Tryz.prog 164 #[.slice a n cap, .func (.func 167) #[] #[]] w fun o w' => ∃ z : Int, o = .returned (.int .i64 z) ∧ bsy bx z ∧ Below w.heap.size w w') := indexBox_any w a n cap bx h hn
  clear h
  go_enter Tryz.func131, Tryz.ntmps131
  go_wp2_with (first | (go_at_call 164; refine HI.out.mono ?_; rintro o w5 ⟨z, rfl, hz, hb5⟩; have HZ : Hid (bsy bx z ∧ Below w.heap.size w w5) := ⟨hz, hb5⟩; clear hz hb5))
  go_ret
  exact ⟨z, rfl, HZ.out.1, HZ.out.2⟩
/-- what send leaves -/
def sendQ (W : World) (gb : Nat) (bx : List R8) (i : Int) (w' : World) : Prop := ∃ W1, Below W.heap.size W W1 ∧ ((w' = W1 ∧ takeB bx i = bx) ∨ ∃ (k : Nat) (hk : k < bx.length), w' = W1.setCell ⟨gb, k * 8, none⟩ (.int .i64 2) ∧ takeB bx i = bx.set k { bx[k] with x := 2 } ∧ bx[k].x = 1)
set_option maxHeartbeats 8000000 in
set_option maxRecDepth 20000 in
/-- impl's send -/
theorem send_any (W : World) (P gb n kb : Nat) (bx : List R8) (i : Int) (y5 : W.cell? ⟨P, 5, none⟩ = some (.slice (some ⟨gb, 0, none⟩) n kb)) (h : isR8s W (some ⟨gb, 0, none⟩) n kb bx) (hrf : rowF W gb (n * 8)) (hn : n ≤ 8) :
    Calls Tryz.prog 66 #[.pointer (some ⟨P, 0, none⟩), .int .i64 i] W fun o w' => o = .returned (.tuple #[]) ∧ sendQ W gb bx i w' := by
  have hln := h.len
  have hcp := h.cap
  by_cases hi : 0 ≤ i ∧ i ≤ (n : Int) - 1
  · obtain ⟨k, rfl⟩ : ∃ k : Nat, i = (k : Int) := ⟨i.toNat, by omega⟩
    have hk : k < bx.length := by omega
    have hkn : k < n := by omega
    have HIR : Hid (∀ X, Calls Tryz.prog 115 #[.int .i64 (k : Int), .int .i64 0, .int .i64 ((n : Int) - 1)] X fun o w' => o = .returned (.bool true) ∧ w' = X) := fun X => (inRange_any X _ _ _).mono (by rintro o w' ⟨rfl, rfl⟩; exact ⟨by simp; omega, rfl⟩)
    obtain ⟨ao, m, c, q⟩ : ∃ ao m c, at8 W gb (k * 8) bx[k] ao m c := by
      obtain ⟨g', off, e, hc⟩ := h.cells (by intro e; rw [e] at hk; cases hk)
      cases e
      have := hc k hk
      rw [Nat.zero_add] at this
      exact this
    have y0 := q.c0
    have HOW : Hid (Calls Tryz.prog 131 #[.pointer (some ⟨P, 0, none⟩)] W fun o w' => ∃ z : Int, o = .returned (.int .i64 z) ∧ bsy bx z ∧ Below W.heap.size W w') := onWire_any W P _ n kb bx y5 h (by omega)
    have HRF : Hid (rowF W gb (n * 8)) := hrf
    have HP : Hid (P < W.heap.size ∧ gb < W.heap.size) := ⟨World.block_lt_of_cell? W _ y5, World.block_lt_of_cell? W _ y0⟩
    clear h hrf q hi hln
    by_cases hx : bx[k].x = 1
    · rw [hx] at y0
      have HX : Hid (bx[k].x = 1) := hx
      clear hx
      go_enter Tryz.func66, Tryz.ntmps66
      go_wp2_with (first | (go_at_call 115; refine (HIR.out _).mono ?_; rintro o w1 ⟨rfl, rfl⟩))
      refine HOW.out.mono ?_
      rintro o w5 ⟨z, rfl, hz, hb5⟩
      have y5' := (hb5.cell (p := ⟨P, 5, none⟩) (by exact HP.out.1)).trans y5
      have y0' := (hb5.cell (p := ⟨gb, k * 8, none⟩) (by exact HP.out.2)).trans y0
      have f0 : w5.frozen? ⟨gb, k * 8, none⟩ = false := by
        rw [World.frozen?_of_block (hb5.block gb HP.out.2)]
        exact (HRF.out (k * 8) (by omega)).2
      have HB5 : Hid (Below w1.heap.size w1 w5) := hb5
      have HZ : Hid (bsy bx z) := hz
      clear hz hb5 y5 y0
      by_cases hz0 : z < 0
      · have HT : Hid (takeB bx (k : Int) = bx.set k { bx[k] with x := 2 }) := takeB_yes hk HX.out HZ.out hz0
        go_wp2_with fail
        first | go_end0 | (simp only [Exit.inBlock, Exit.then]; refine bodyPost_ret (results_none rfl _ _ _) rfl ?_) | refine bodyPost_ret (results_none rfl _ _ _) rfl ?_
        exact ⟨rfl, w5, HB5.out, Or.inr ⟨k, hk, rfl, HT.out, HX.out⟩⟩
      · have HT : Hid (takeB bx (k : Int) = bx) := takeB_busy HZ.out (by omega)
        go_wp2_with fail
        first | go_end0 | (simp only [Exit.inBlock, Exit.then]; refine bodyPost_ret (results_none rfl _ _ _) rfl ?_) | refine bodyPost_ret (results_none rfl _ _ _) rfl ?_
        exact ⟨rfl, w5, HB5.out, Or.inl ⟨rfl, HT.out⟩⟩
    · have hx' : (bx[k].x == 1) = false := by simpa using hx
      have HT : Hid (takeB bx (k : Int) = bx) := takeB_no hk hx
      generalize bx[k].x = x at *
      go_enter Tryz.func66, Tryz.ntmps66
      go_wp2_with (first | (go_at_call 115; refine (HIR.out _).mono ?_; rintro o w1 ⟨rfl, rfl⟩))
      first | go_end0 | (simp only [Exit.inBlock, Exit.then]; refine bodyPost_ret (results_none rfl _ _ _) rfl ?_) | refine bodyPost_ret (results_none rfl _ _ _) rfl ?_
      exact ⟨rfl, w1, Below.refl _ _, Or.inl ⟨rfl, HT.out⟩⟩
  · have HIR : Hid (∀ X, Calls Tryz.prog 115 #[.int .i64 i, .int .i64 0, .int .i64 ((n : Int) - 1)] X fun o w' => o = .returned (.bool false) ∧ w' = X) := fun X => (inRange_any X _ _ _).mono (by rintro o w' ⟨rfl, rfl⟩; exact ⟨by simp; omega, rfl⟩)
    have HT : Hid (takeB bx i = bx) := takeB_out (by omega)
    clear h hrf hi hcp hln
    go_enter Tryz.func66, Tryz.ntmps66
    go_wp2_with (first | (go_at_call 115; refine (HIR.out _).mono ?_; rintro o w1 ⟨rfl, rfl⟩))
    first | go_end0 | (simp only [Exit.inBlock, Exit.then]; refine bodyPost_ret (results_none rfl _ _ _) rfl ?_) | refine bodyPost_ret (results_none rfl _ _ _) rfl ?_
    exact ⟨rfl, w1, Below.refl _ _, Or.inl ⟨rfl, HT.out⟩⟩
end Go.Proofs.YtaamahohdnbpiaaGreat
