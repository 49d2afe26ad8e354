import Derived.Test.YtjmlalojfghkiaaDoorC
namespace Go.Proofs.YtjmlalojfghkiaaDoor
open Go.RowKit
/-- what a mark leaves: the row g with its marks, all other blocks as they were -/
structure mkd (w w' : World) (g n c : Nat) : Prop where
  row : rowB w' g n (fun t => (c + t) % 256)
  oth : ∀ b, b ≠ g → b < w.heap.size → w'.heap[b]? = w.heap[b]?
  bel : Below g w w'
set_option maxHeartbeats 1000000 in
theorem markFrame_row (w : World) (e : Bool) (i : Nat) (r : Bool) (d : Int) (g n cap c : Nat) (f : Nat → Nat) (hr : rowB w g n f) (hg : g < w.heap.size) (hcp : n ≤ cap) (hn : n ≤ 1048576) (hc : c ≤ 1000) :
    Calls Tryd.prog 33 #[frV e i r d (some ⟨g, 0, none⟩) n cap, .int .i64 (c : Int)] w fun o w' => o = .returned (.int .i64 ((c + n : Nat) : Int)) ∧ mkd w w' g n c := by
  have HR : Hid (rowB (w.alloc (.cells #[.bool e, .int .u32 (i : Int), .bool r, .int .i64 d, .slice (some ⟨g, 0, none⟩) n cap] 29)) g n f) := hr.below ((Below.refl _ _).alloc (Nat.le_refl _) _) hg
  clear hr
  go_enter Tryd.func33, Tryd.ntmps33
  go_wp2_with fail
  refine (markByteS_row _ g n cap c f HR.out hcp hn hc).mono ?_
  rintro o w1 ⟨rfl, h1, h2, h3, h4⟩
  have HM : Hid (mkd w w1 g n c) := ⟨h1, fun b hb hl => (h2 b hb).trans (Below.heap_alloc _ _ _ hl), (((Below.refl w.heap.size w).alloc (Nat.le_refl _) _).mono (by omega)).trans h4⟩
  clear h1 h2 h3 h4
  go_wp2_with fail
  go_ret
  exact ⟨rfl, HM.out⟩
set_option maxHeartbeats 1000000 in
theorem markFrame_nil (w : World) (e : Bool) (i : Nat) (r : Bool) (d : Int) (c : Nat) :
    Calls Tryd.prog 33 #[frV e i r d none 0 0, .int .i64 (c : Int)] w fun o w' => o = .returned (.int .i64 (c : Int)) ∧ Below w.heap.size w w' := by
  have HM : Hid (∀ W : World, Calls Tryd.prog 57 #[.slice none 0 0, .int .i64 (c : Int)] W fun o w' => o = .returned (.int .i64 (c : Int)) ∧ w' = W) := by
    intro W
    go_enter Tryd.func57, Tryd.ntmps57
    go_wp2
    go_loopw [1, 5] (fun kk i wr => i = .int .i64 0 ∧ kk = .int .i64 (c : Int) ∧ wr = W) (fun _ _ _ => 0)
    case atStart => exact ⟨rfl, rfl, rfl⟩
    case round =>
      obtain ⟨rfl, rfl, rfl⟩ := hrel
      go_wp2
      go_ret
      exact ⟨rfl, rfl⟩
  go_enter Tryd.func33, Tryd.ntmps33
  go_wp2_with fail
  refine (HM.out _).mono ?_
  rintro o w1 ⟨rfl, rfl⟩
  go_wp2_with fail
  go_ret
  exact ⟨rfl, (Below.refl _ _).alloc (Nat.le_refl _) _⟩
set_option maxHeartbeats 1000000 in
theorem heldFrame_row (w : World) (e : Bool) (i : Nat) (r : Bool) (d : Int) (g n cap c : Nat) (hr : rowB w g n (fun t => (c + t) % 256)) (hg : g < w.heap.size) (hcp : n ≤ cap) (hn : n ≤ 1048576) (hc : c ≤ 1000) :
    Calls Tryd.prog 34 #[frV e i r d (some ⟨g, 0, none⟩) n cap, .int .i64 (c : Int)] w fun o w' => o = .returned (.int .i64 ((c + n : Nat) : Int)) ∧ Below w.heap.size w w' := by
  have HR : Hid (rowB (w.alloc (.cells #[.bool e, .int .u32 (i : Int), .bool r, .int .i64 d, .slice (some ⟨g, 0, none⟩) n cap] 29)) g n (fun t => (c + t) % 256)) := hr.below ((Below.refl _ _).alloc (Nat.le_refl _) _) hg
  clear hr
  go_enter Tryd.func34, Tryd.ntmps34
  go_wp2_with fail
  refine (heldByteS_row _ g n cap c HR.out hcp hn hc).mono ?_
  rintro o w1 ⟨rfl, rfl⟩
  generalize hq : c + n = q at *
  have hz : ¬ (q : Int) < 0 := by omega
  go_wp2_with fail
  go_ret
  exact ⟨by rw [hq]; rfl, (Below.refl _ _).alloc (Nat.le_refl _) _⟩
set_option maxHeartbeats 1000000 in
theorem heldFrame_nil (w : World) (e : Bool) (i : Nat) (r : Bool) (d : Int) (c : Nat) :
    Calls Tryd.prog 34 #[frV e i r d none 0 0, .int .i64 (c : Int)] w fun o w' => o = .returned (.int .i64 (c : Int)) ∧ Below w.heap.size w w' := by
  have HM : Hid (∀ W : World, Calls Tryd.prog 58 #[.slice none 0 0, .int .i64 (c : Int)] W fun o w' => o = .returned (.int .i64 (c : Int)) ∧ w' = W) := by
    intro W
    go_enter Tryd.func58, Tryd.ntmps58
    go_wp2
    go_loopw [1, 5] (fun kk i wr => i = .int .i64 0 ∧ kk = .int .i64 (c : Int) ∧ wr = W) (fun _ _ _ => 0)
    case atStart => exact ⟨rfl, rfl, rfl⟩
    case round =>
      obtain ⟨rfl, rfl, rfl⟩ := hrel
      go_wp2
      go_ret
      exact ⟨rfl, rfl⟩
  go_enter Tryd.func34, Tryd.ntmps34
  go_wp2_with fail
  refine (HM.out _).mono ?_
  rintro o w1 ⟨rfl, rfl⟩
  have hz : ¬ (c : Int) < 0 := by omega
  go_wp2_with fail
  go_ret
  exact ⟨rfl, (Below.refl _ _).alloc (Nat.le_refl _) _⟩
set_option maxHeartbeats 1000000 in
theorem markScan_row (w : World) (S : Sc) (g n cap c : Nat) (f : Nat → Nat) (hr : rowB w g n f) (hg : g < w.heap.size) (hcp : n ≤ cap) (hn : n ≤ 1048576) (hc : c ≤ 1000) :
    Calls Tryd.prog 10 #[scV S (some ⟨g, 0, none⟩) n cap, .int .i64 (c : Int)] w fun o w' => o = .returned (.int .i64 ((c + n : Nat) : Int)) ∧ mkd w w' g n c := by
  obtain ⟨sf, slf, srn, slv, scr, sac, e, i, r, d, l⟩ := S
  have HR : Hid (rowB (w.alloc (.cells #[.int .i64 sf, .int .i64 slf, .int .i64 srn, .int .i64 slv, .int .i64 scr, .int .i64 sac, .bool e, .int .u32 (i : Int), .bool r, .int .i64 d, .slice (some ⟨g, 0, none⟩) n cap] 31)) g n f) := hr.below ((Below.refl _ _).alloc (Nat.le_refl _) _) hg
  clear hr
  go_enter Tryd.func10, Tryd.ntmps10
  go_wp2_with fail
  refine (markFrame_row _ e i r d g n cap c f HR.out (by simp; omega) hcp hn hc).mono ?_
  rintro o w1 ⟨rfl, hm⟩
  have HM : Hid (mkd w w1 g n c) := ⟨hm.row, fun b hb hl => (hm.oth b hb (by simp; omega)).trans (Below.heap_alloc _ _ _ hl), (((Below.refl w.heap.size w).alloc (Nat.le_refl _) _).mono (by omega)).trans hm.bel⟩
  clear hm
  go_wp2_with fail
  go_ret
  exact ⟨rfl, HM.out⟩
set_option maxHeartbeats 1000000 in
theorem markScan_nil (w : World) (S : Sc) (c : Nat) :
    Calls Tryd.prog 10 #[scV S none 0 0, .int .i64 (c : Int)] w fun o w' => o = .returned (.int .i64 (c : Int)) ∧ Below w.heap.size w w' := by
  obtain ⟨sf, slf, srn, slv, scr, sac, e, i, r, d, l⟩ := S
  go_enter Tryd.func10, Tryd.ntmps10
  go_wp2_with fail
  refine (markFrame_nil _ e i r d c).mono ?_
  rintro o w1 ⟨rfl, hb⟩
  have HB : Hid (Below w.heap.size w w1) := ((Below.refl w.heap.size w).alloc (Nat.le_refl _) _).trans (hb.mono (by simp))
  clear hb
  go_wp2_with fail
  go_ret
  exact ⟨rfl, HB.out⟩
set_option maxHeartbeats 1000000 in
theorem heldScan_row (w : World) (S : Sc) (g n cap c : Nat) (hr : rowB w g n (fun t => (c + t) % 256)) (hg : g < w.heap.size) (hcp : n ≤ cap) (hn : n ≤ 1048576) (hc : c ≤ 1000) :
    Calls Tryd.prog 11 #[scV S (some ⟨g, 0, none⟩) n cap, .int .i64 (c : Int)] w fun o w' => o = .returned (.int .i64 ((c + n : Nat) : Int)) ∧ Below w.heap.size w w' := by
  obtain ⟨sf, slf, srn, slv, scr, sac, e, i, r, d, l⟩ := S
  have HR : Hid (rowB (w.alloc (.cells #[.int .i64 sf, .int .i64 slf, .int .i64 srn, .int .i64 slv, .int .i64 scr, .int .i64 sac, .bool e, .int .u32 (i : Int), .bool r, .int .i64 d, .slice (some ⟨g, 0, none⟩) n cap] 31)) g n (fun t => (c + t) % 256)) := hr.below ((Below.refl _ _).alloc (Nat.le_refl _) _) hg
  clear hr
  go_enter Tryd.func11, Tryd.ntmps11
  go_wp2_with fail
  refine (heldFrame_row _ e i r d g n cap c HR.out (by simp; omega) hcp hn hc).mono ?_
  rintro o w1 ⟨rfl, hb⟩
  have HB : Hid (Below w.heap.size w w1) := ((Below.refl w.heap.size w).alloc (Nat.le_refl _) _).trans (hb.mono (by simp))
  clear hb
  generalize hq : c + n = q at *
  have hz : ¬ (q : Int) < 0 := by omega
  go_wp2_with fail
  go_ret
  exact ⟨by rw [hq]; rfl, HB.out⟩
set_option maxHeartbeats 1000000 in
theorem heldScan_nil (w : World) (S : Sc) (c : Nat) :
    Calls Tryd.prog 11 #[scV S none 0 0, .int .i64 (c : Int)] w fun o w' => o = .returned (.int .i64 (c : Int)) ∧ Below w.heap.size w w' := by
  obtain ⟨sf, slf, srn, slv, scr, sac, e, i, r, d, l⟩ := S
  go_enter Tryd.func11, Tryd.ntmps11
  go_wp2_with fail
  refine (heldFrame_nil _ e i r d c).mono ?_
  rintro o w1 ⟨rfl, hb⟩
  have HB : Hid (Below w.heap.size w w1) := ((Below.refl w.heap.size w).alloc (Nat.le_refl _) _).trans (hb.mono (by simp))
  clear hb
  have hz : ¬ (c : Int) < 0 := by omega
  go_wp2_with fail
  go_ret
  exact ⟨rfl, HB.out⟩
end Go.Proofs.YtjmlalojfghkiaaDoor
