import Derived.Test.YtpknchjjfiiaeaaGreatDoorV22
namespace Go.Proofs.YtpknchjjfiiaeaaGreatDoor
open Go.RowKit
theorem ownsW.alloc {w : World} {B : Nat} {v : Value} {l : List Nat} (h : ownsW w B v l) (o : Obj) : ownsW (w.alloc o) B v l := by
  unfold ownsW at h ⊢
  exact World.ownsRow.alloc h o
set_option maxHeartbeats 1000000 in
theorem specPack_bad (s : ByteArray) (w : World) (hs : okT s 4000 = false) (hz : s.size ≤ maxLen) :
    Calls Tryz.prog 8 #[.string s] w fun o w' => o = .returned (pkV 0 none 0 0) ∧ Below w.heap.size w w' := by
  have HS : Hid (okT s 4000 = false) := hs
  clear hs
  go_enter Tryz.func8, Tryz.ntmps8
  go_wp2_with (first | (go_at_call 35; refine (okBits_any _ _ _ hz).mono ?_; rw [HS.out]; rintro o w1 ⟨rfl, rfl⟩))
  refine bodyPost_ret (v := pkV 0 none 0 0) (by simp [results, Tryz.results8, go_sem]) rfl ?_
  exact ⟨rfl, (Below.refl _ _).alloc (Nat.le_refl _) _⟩
set_option maxHeartbeats 1000000 in
theorem implPack_bad (s : ByteArray) (w : World) (hs : okT s 4000 = false) :
    Calls Tryz.prog 6 #[.string s] w fun o w' => o = .returned (pkV 0 none 0 0) ∧ Below w.heap.size w w' := by
  have HS : Hid (okT s 4000 = false) := hs
  clear hs
  have HD : Hid (∀ w1, Below (w.alloc (.cells #[.int .i64 0, .slice none 0 0] 27)).heap.size (w.alloc (.cells #[.int .i64 0, .slice none 0 0] 27)) w1 → w1.cell? ⟨w.heap.size, 0, none⟩ = some (.int .i64 0) ∧ w1.cell? ⟨w.heap.size, 1, none⟩ = some (.slice none 0 0) ∧ w1.frozen? ⟨w.heap.size, 0, none⟩ = false ∧ w1.frozen? ⟨w.heap.size, 1, none⟩ = false ∧ Below w.heap.size w w1) := by
    intro w1 hb1
    have h1 : w1.heap[w.heap.size]? = some (.cells #[.int .i64 0, .slice none 0 0] 27) := by rw [hb1.block w.heap.size (by simp)]; exact heap_alloc_new w _
    exact ⟨by simp [World.cell?, h1], by simp [World.cell?, h1], by simp [World.frozen?, h1], by simp [World.frozen?, h1], ((Below.refl _ _).alloc (Nat.le_refl _) _).trans (hb1.mono (by simp))⟩
  go_enter Tryz.func6, Tryz.ntmps6
  go_wp2_with (first | (go_at_call 30; refine (isBitText_any _ _ _).mono ?_; rw [HS.out]; rintro o w1 ⟨rfl, hb1⟩; obtain ⟨d0, d1, g0, g1, hB⟩ := HD.out w1 hb1))
  refine bodyPost_ret (v := pkV 0 none 0 0) (by simp [results, Tryz.results6, go_sem, d0, d1]) rfl ?_
  exact ⟨rfl, (hB.setCell (p := ⟨_, 0, none⟩) (by simp) _).setCell (p := ⟨_, 1, none⟩) (by simp) _⟩
/-- both sides, whatever the text -/
def pkN (s : ByteArray) : Nat := if okT s 4000 = true then s.size else 0
def pkZ (s : ByteArray) : List Nat := pkL s ((pkN s + 63) / 64)
theorem okT_size4 {s : ByteArray} (h : okT s 4000 = true) : s.size ≤ 4000 := by
  unfold okT at h; rw [Bool.and_eq_true, decide_eq_true_iff] at h; have := h.1; omega
theorem specPack_any (s : ByteArray) (w : World) (hz : s.size ≤ maxLen) :
    Calls Tryz.prog 8 #[.string s] w fun o w' => ∃ ao cap, o = .returned (pkV (pkN s : Int) ao ((pkN s + 63) / 64) cap) ∧ ownsW w' w.heap.size (.slice ao ((pkN s + 63) / 64) cap) (pkZ s) ∧ Below w.heap.size w w' := by
  by_cases h : okT s 4000 = true
  · have e : pkN s = s.size := if_pos h
    unfold pkZ
    rw [e]
    refine (specPack_ok s w h (okT_size4 h)).mono ?_
    rintro o w' ⟨ao, cap, rfl, h1, h2⟩
    exact ⟨ao, cap, rfl, h1.lower (by omega), h2⟩
  · have e : pkN s = 0 := if_neg h
    have e2 : pkZ s = [] := by unfold pkZ; rw [e]; rfl
    rw [e2, e]
    refine (specPack_bad s w (by simpa using h) hz).mono ?_
    rintro o w' ⟨rfl, h2⟩
    exact ⟨none, 0, rfl, own_none _ _, h2⟩
theorem implPack_any (s : ByteArray) (w : World) :
    Calls Tryz.prog 6 #[.string s] w fun o w' => ∃ ao cap, o = .returned (pkV (pkN s : Int) ao ((pkN s + 63) / 64) cap) ∧ ownsW w' w.heap.size (.slice ao ((pkN s + 63) / 64) cap) (pkZ s) ∧ Below w.heap.size w w' := by
  by_cases h : okT s 4000 = true
  · have e : pkN s = s.size := if_pos h
    unfold pkZ
    rw [e]
    refine (implPack_ok s w h (okT_size4 h)).mono ?_
    rintro o w' ⟨ao, cap, rfl, -, h1, h2⟩
    exact ⟨ao, cap, rfl, h1, h2⟩
  · have e : pkN s = 0 := if_neg h
    have e2 : pkZ s = [] := by unfold pkZ; rw [e]; rfl
    rw [e2, e]
    refine (implPack_bad s w (by simpa using h)).mono ?_
    rintro o w' ⟨rfl, h2⟩
    exact ⟨none, 0, rfl, own_none _ _, h2⟩
theorem ownsW.below {w w' : World} {B : Nat} {v : Value} {l : List Nat} (h : ownsW w B v l) (hb : Below w.heap.size w w') : ownsW w' B v l :=
  h.otherBlock fun g hg => hb.block g (World.ownsRow.lt h g hg).2
/-- what stands while the law goes on: the two answers and their words -/
structure ldP (w : World) (B b0 b1 : Nat) (N : Int) (m : Nat) (a0 : Option Addr) (c0 : Nat) (a1 : Option Addr) (c1 : Nat) (l0 l1 : List Nat) (W : World) : Prop where
  f0 : W.heap[b0]? = some (.cells #[.int .i64 N, .slice a0 m c0] 27)
  f1 : W.heap[b1]? = some (.cells #[.int .i64 N, .slice a1 m c1] 27)
  o0 : ownsW W w.heap.size (.slice a0 m c0) l0
  lt0 : ∀ g, (Value.slice a0 m c0).ownBlock = some g → g < B
  o1 : ownsW W B (.slice a1 m c1) l1
  bel : Below w.heap.size w W
  lb0 : b0 < B
  lb1 : B ≤ W.heap.size
  lbw : w.heap.size ≤ B
theorem ldP.below {w : World} {B b0 b1 : Nat} {N : Int} {m : Nat} {a0 : Option Addr} {c0 : Nat} {a1 : Option Addr} {c1 : Nat} {l0 l1 : List Nat} {W W' : World} (h : ldP w B b0 b1 N m a0 c0 a1 c1 l0 l1 W) (hb : Below W.heap.size W W') : ldP w B b0 b1 N m a0 c0 a1 c1 l0 l1 W' :=
  ⟨(hb.block b0 (lt_of_block h.f0)).trans h.f0, (hb.block b1 (lt_of_block h.f1)).trans h.f1, h.o0.below hb, h.lt0, h.o1.below hb, h.bel.trans (hb.mono h.bel.size), h.lb0, Nat.le_trans h.lb1 hb.size, h.lbw⟩
end Go.Proofs.YtpknchjjfiiaeaaGreatDoor
