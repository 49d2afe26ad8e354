import Derived.Test.YtcenoecjihcjjaaQ
namespace Go.Proofs.Ytcenoecjihcjjaa
open Go.RowKit
theorem ownsW.alloc {w : World} {B : Nat} {v : Value} {l : List Nat} (h : ownsW w B v l) (o : Obj) : ownsW (w.alloc o) B v l := by
  unfold ownsW at h ⊢
  exact World.ownsRow.alloc h o
set_option maxHeartbeats 1000000 in
theorem markPacked_any (w : World) (B : Nat) (N : Int) (ao : Option Addr) (n cap k : Nat) (l : List Nat) (h : ownsW w B (.slice ao n cap) l) (hn : n = l.length) (hk : k + n ≤ 200) (hB : B ≤ w.heap.size) :
    Calls Try.prog 13 #[pkV N ao n cap, .int .i64 (k : Int)] w fun e w' => e = .returned (.int .i64 ((k + n : Nat) : Int)) ∧ ownsW w' B (.slice ao n cap) (mkL k n l) ∧ Below B w w' ∧ ∀ b, b < w.heap.size → (∀ a, ao = some a → a.block ≠ b) → w'.heap[b]? = w.heap[b]? := by
  have H : Hid (∀ x, Calls Try.prog 30 #[.slice ao n cap, .int .i64 (k : Int)] (w.alloc x) fun e w' => e = .returned (.int .i64 ((k + n : Nat) : Int)) ∧ ownsW w' B (.slice ao n cap) (mkL k n l) ∧ Below B (w.alloc x) w' ∧ ∀ b, (∀ a, ao = some a → a.block ≠ b) → w'.heap[b]? = (w.alloc x).heap[b]?) := fun x => markWordS_any (w.alloc x) B ao n cap k l (h.alloc x) hn hk
  have HB : Hid (B ≤ w.heap.size) := hB
  clear h hB hn
  go_enter Try.func13, Try.ntmps13
  go_wp2_with (first | (go_at_call 30; refine (H.out _).mono ?_; rintro o w1 ⟨rfl, ho, hb, hoth⟩))
  go_ret
  exact ⟨rfl, ho, ((Below.refl B w).alloc HB.out _).trans hb, fun b hb1 hb2 => (hoth b hb2).trans (Below.heap_alloc w _ b hb1)⟩
set_option maxHeartbeats 1000000 in
theorem heldPacked_any (w : World) (B : Nat) (N : Int) (ao : Option Addr) (n cap k : Nat) (l : List Nat) (h : ownsW w B (.slice ao n cap) (mkL k n l)) (hn : n = l.length) (hk : k + n ≤ 200) :
    Calls Try.prog 14 #[pkV N ao n cap, .int .i64 (k : Int)] w fun e w' => e = .returned (.int .i64 ((k + n : Nat) : Int)) ∧ Below w.heap.size w w' := by
  have H : Hid (∀ x, Calls Try.prog 31 #[.slice ao n cap, .int .i64 (k : Int)] (w.alloc x) fun e w' => e = .returned (.int .i64 ((k + n : Nat) : Int)) ∧ ∃ q, w' = (w.alloc x).drewN q) := fun x => heldWordS_any (w.alloc x) B ao n cap k l (h.alloc x) hn hk
  have hk0 : ¬ ((k : Int) + (n : Int)) < 0 := by omega
  clear h hn
  go_enter Try.func14, Try.ntmps14
  go_wp2_with (first | (go_at_call 31; refine (H.out _).mono ?_; rintro o w1 ⟨rfl, q, rfl⟩))
  go_ret
  exact ⟨rfl, below_drewN ((Below.refl _ _).alloc (Nat.le_refl _) _) q⟩
set_option maxHeartbeats 1000000 in
theorem specPack_bad (s : ByteArray) (w : World) (hs : okT s 4000 = false) (hz : s.size ≤ maxLen) :
    Calls Try.prog 10 #[.string s] w fun o w' => o = .returned (pkV 0 none 0 0) ∧ Below w.heap.size w w' := by
  have HS : Hid (okT s 4000 = false) := hs
  clear hs
  go_enter Try.func10, Try.ntmps10
  go_wp2_with (first | (go_at_call 25; refine (okBits_any _ _ _ hz).mono ?_; rw [HS.out]; rintro o w1 ⟨rfl, rfl⟩))
  refine bodyPost_ret (v := pkV 0 none 0 0) (by simp [results, Try.results10, go_sem]) rfl ?_
  exact ⟨rfl, (Below.refl _ _).alloc (Nat.le_refl _) _⟩
set_option maxHeartbeats 1000000 in
theorem implPack_bad (s : ByteArray) (w : World) (hs : okT s 4000 = false) :
    Calls Try.prog 11 #[.string s] w fun o w' => o = .returned (pkV 0 none 0 0) ∧ Below w.heap.size w w' := by
  have HS : Hid (okT s 4000 = false) := hs
  clear hs
  have HD : Hid (∀ w1, Below (w.alloc (.cells #[.int .i64 0, .slice none 0 0] 30)).heap.size (w.alloc (.cells #[.int .i64 0, .slice none 0 0] 30)) w1 → w1.cell? ⟨w.heap.size, 0, none⟩ = some (.int .i64 0) ∧ w1.cell? ⟨w.heap.size, 1, none⟩ = some (.slice none 0 0) ∧ w1.frozen? ⟨w.heap.size, 0, none⟩ = false ∧ w1.frozen? ⟨w.heap.size, 1, none⟩ = false ∧ Below w.heap.size w w1) := by
    intro w1 hb1
    have h1 : w1.heap[w.heap.size]? = some (.cells #[.int .i64 0, .slice none 0 0] 30) := by rw [hb1.block w.heap.size (by simp)]; exact heap_alloc_new w _
    exact ⟨by simp [World.cell?, h1], by simp [World.cell?, h1], by simp [World.frozen?, h1], by simp [World.frozen?, h1], ((Below.refl _ _).alloc (Nat.le_refl _) _).trans (hb1.mono (by simp))⟩
  go_enter Try.func11, Try.ntmps11
  go_wp2_with (first | (go_at_call 26; refine (isBitText_any _ _ _).mono ?_; rw [HS.out]; rintro o w1 ⟨rfl, hb1⟩; obtain ⟨d0, d1, g0, g1, hB⟩ := HD.out w1 hb1))
  refine bodyPost_ret (v := pkV 0 none 0 0) (by simp [results, Try.results11, go_sem, d0, d1]) rfl ?_
  exact ⟨rfl, (hB.setCell (p := ⟨_, 0, none⟩) (by simp) _).setCell (p := ⟨_, 1, none⟩) (by simp) _⟩
/-- both sides, whatever the text -/
def pkN (s : ByteArray) : Nat := if okT s 4000 = true then s.size else 0
def pkZ (s : ByteArray) : List Nat := pkL s ((pkN s + 63) / 64)
theorem okT_size4 {s : ByteArray} (h : okT s 4000 = true) : s.size ≤ 4000 := by
  unfold okT at h; rw [Bool.and_eq_true, decide_eq_true_iff] at h; have := h.1; omega
theorem pkN_le (s : ByteArray) : pkN s ≤ 4000 := by
  unfold pkN
  split
  · exact okT_size4 (by assumption)
  · omega
theorem specPack_any (s : ByteArray) (w : World) (hz : s.size ≤ maxLen) :
    Calls Try.prog 10 #[.string s] w fun o w' => ∃ ao cap, o = .returned (pkV (pkN s : Int) ao ((pkN s + 63) / 64) cap) ∧ ownsW w' w.heap.size (.slice ao ((pkN s + 63) / 64) cap) (pkZ s) ∧ Below w.heap.size w w' := by
  by_cases h : okT s 4000 = true
  · have e : pkN s = s.size := if_pos h
    unfold pkZ
    rw [e]
    refine (specPack_ok s w h (okT_size4 h)).mono ?_
    rintro o w' ⟨ao, cap, rfl, h1, h2⟩
    exact ⟨ao, cap, rfl, h1.lower (by omega), h2⟩
  · have e : pkN s = 0 := if_neg h
    have e2 : pkZ s = [] := by unfold pkZ; rw [e]; rfl
    rw [e2, e]
    refine (specPack_bad s w (by simpa using h) hz).mono ?_
    rintro o w' ⟨rfl, h2⟩
    exact ⟨none, 0, rfl, own_none _ _, h2⟩
theorem implPack_any (s : ByteArray) (w : World) :
    Calls Try.prog 11 #[.string s] w fun o w' => ∃ ao cap, o = .returned (pkV (pkN s : Int) ao ((pkN s + 63) / 64) cap) ∧ ownsW w' w.heap.size (.slice ao ((pkN s + 63) / 64) cap) (pkZ s) ∧ Below w.heap.size w w' := by
  by_cases h : okT s 4000 = true
  · have e : pkN s = s.size := if_pos h
    unfold pkZ
    rw [e]
    refine (implPack_ok s w h (okT_size4 h)).mono ?_
    rintro o w' ⟨ao, cap, rfl, -, h1, h2⟩
    exact ⟨ao, cap, rfl, h1, h2⟩
  · have e : pkN s = 0 := if_neg h
    have e2 : pkZ s = [] := by unfold pkZ; rw [e]; rfl
    rw [e2, e]
    refine (implPack_bad s w (by simpa using h)).mono ?_
    rintro o w' ⟨rfl, h2⟩
    exact ⟨none, 0, rfl, own_none _ _, h2⟩
theorem ownsW.below {w w' : World} {B : Nat} {v : Value} {l : List Nat} (h : ownsW w B v l) (hb : Below w.heap.size w w') : ownsW w' B v l :=
  h.otherBlock fun g hg => hb.block g (World.ownsRow.lt h g hg).2
theorem pkZ_words {s : ByteArray} {w : World} {B : Nat} {ao : Option Addr} {cap : Nat} (h : ownsW w B (.slice ao ((pkN s + 63) / 64) cap) (pkZ s)) : isWords w ao ((pkN s + 63) / 64) cap (pkZ s) :=
  h.words (by simp [pkZ, pkL_len]) (pkL_small s _) (h.cap (by simp [pkZ, pkL_len]))
/-- what stands while the law goes on: the two answers and their words -/
structure ldP (w : World) (B b0 b1 : Nat) (N : Int) (m : Nat) (a0 : Option Addr) (c0 : Nat) (a1 : Option Addr) (c1 : Nat) (l0 l1 : List Nat) (W : World) : Prop where
  f0 : W.heap[b0]? = some (.cells #[.int .i64 N, .slice a0 m c0] 30)
  f1 : W.heap[b1]? = some (.cells #[.int .i64 N, .slice a1 m c1] 30)
  o0 : ownsW W w.heap.size (.slice a0 m c0) l0
  lt0 : ∀ g, (Value.slice a0 m c0).ownBlock = some g → g < B
  o1 : ownsW W B (.slice a1 m c1) l1
  bel : Below w.heap.size w W
  lb0 : b0 < B
  lb1 : B ≤ W.heap.size
  lbw : w.heap.size ≤ B
theorem pk_cells {W : World} {b : Nat} {N : Int} {ao : Option Addr} {m c : Nat} (h : W.heap[b]? = some (.cells #[.int .i64 N, .slice ao m c] 30)) : W.cell? ⟨b, 0, none⟩ = some (.int .i64 N) ∧ W.cell? ⟨b, 1, none⟩ = some (.slice ao m c) := by
  exact ⟨by simp [World.cell?, h], by simp [World.cell?, h]⟩
theorem ldP.below {w : World} {B b0 b1 : Nat} {N : Int} {m : Nat} {a0 : Option Addr} {c0 : Nat} {a1 : Option Addr} {c1 : Nat} {l0 l1 : List Nat} {W W' : World} (h : ldP w B b0 b1 N m a0 c0 a1 c1 l0 l1 W) (hb : Below W.heap.size W W') : ldP w B b0 b1 N m a0 c0 a1 c1 l0 l1 W' :=
  ⟨(hb.block b0 (lt_of_block h.f0)).trans h.f0, (hb.block b1 (lt_of_block h.f1)).trans h.f1, h.o0.below hb, h.lt0, h.o1.below hb, h.bel.trans (hb.mono h.bel.size), h.lb0, Nat.le_trans h.lb1 hb.size, h.lbw⟩
theorem ldP.mark {w : World} {B b0 b1 : Nat} {N : Int} {m : Nat} {a0 : Option Addr} {c0 : Nat} {a1 : Option Addr} {c1 : Nat} {l0 l1 l2 : List Nat} {W W' : World} (h : ldP w B b0 b1 N m a0 c0 a1 c1 l0 l1 W) (ho : ownsW W' B (.slice a1 m c1) l2) (hb : Below B W W') (hk : ∀ b, b < W.heap.size → (∀ a, a1 = some a → a.block ≠ b) → W'.heap[b]? = W.heap[b]?) : ldP w B b0 b1 N m a0 c0 a1 c1 l0 l2 W' := by
  refine ⟨(hb.block b0 h.lb0).trans h.f0, (hk b1 (lt_of_block h.f1) ?_).trans h.f1, h.o0.otherBlock fun g hg => hb.block g (h.lt0 g hg), h.lt0, ho, h.bel.trans (hb.mono h.lbw), h.lb0, ?_, h.lbw⟩
  · intro a ea e
    subst ea
    have h1 := h.o1
    obtain ⟨_, ⟨h2, _⟩ | ⟨g, cap, cur, e2, _, hh, _⟩⟩ := h1
    · cases h2
    · cases e2
      have e' : g = b1 := e
      subst e'
      rw [h.f1] at hh
      cases hh
  · exact Nat.le_trans h.lb1 hb.size
set_option maxHeartbeats 2000000 in
/-- laws.FnExactPack -/
theorem lawPack (s : ByteArray) (w : World) (hs : s.size ≤ maxLen) :
    Calls Try.prog 4 #[.string s] w fun e w' => e = .returned (.bool true) ∧ Below w.heap.size w w' := by
  have hs' := hs
  unfold maxLen at hs'
  have HZ : Hid (s.size ≤ maxLen) := hs
  clear hs
  by_cases hl : (1048576 : Int) < (s.size : Int)
  · go_enter Try.func4, Try.ntmps4
    go_wp2
    go_ret
    exact ⟨rfl, Below.refl _ _⟩
  · have hl' : decide ((1048576 : Int) < (s.size : Int)) = false := by simpa using hl
    have hN := pkN_le s
    have hm : (pkN s + 63) / 64 ≤ 63 := by omega
    have HL : Hid ((pkN s + 63) / 64 = (pkZ s).length ∧ ∀ x ∈ pkZ s, x < 18446744073709551616) := ⟨by simp [pkZ, pkL_len], pkL_small s _⟩
    have HS : Hid (∀ w, Calls Try.prog 10 #[.string s] w fun o w' => ∃ ao cap, o = .returned (pkV (pkN s : Int) ao ((pkN s + 63) / 64) cap) ∧ ownsW w' w.heap.size (.slice ao ((pkN s + 63) / 64) cap) (pkZ s) ∧ Below w.heap.size w w') := fun w => specPack_any s w HZ.out
    have HI : Hid (∀ w, Calls Try.prog 11 #[.string s] w fun o w' => ∃ ao cap, o = .returned (pkV (pkN s : Int) ao ((pkN s + 63) / 64) cap) ∧ ownsW w' w.heap.size (.slice ao ((pkN s + 63) / 64) cap) (pkZ s) ∧ Below w.heap.size w w') := fun w => implPack_any s w
    clear hl hN
    generalize (pkN s + 63) / 64 = m at *
    generalize pkN s = n at *
    generalize pkZ s = l at *
    go_enter Try.func4, Try.ntmps4
    go_wp2_with (first | (go_at_call 10; refine (HS.out _).mono ?_; rintro e w1 ⟨a0, c0, rfl, o0, b1⟩))
    refine (HI.out _).mono ?_
    rintro e w2 ⟨a1, c1, rfl, o1, b2⟩
    have st : ldP w (w1.heap.size + 1) w1.heap.size w2.heap.size (n : Int) m a0 c0 a1 c1 l l (w2.alloc (.cells #[.int .i64 (n : Int), .slice a1 m c1] 30)) := by
      have hz2 := b2.size
      simp at hz2
      have hA : Below w2.heap.size w2 (w2.alloc (.cells #[.int .i64 (n : Int), .slice a1 m c1] 30)) := (Below.refl _ _).alloc (Nat.le_refl _) _
      have h0 : w2.heap[w1.heap.size]? = some (.cells #[.int .i64 (n : Int), .slice a0 m c0] 30) := by rw [b2.block w1.heap.size (by simp)]; exact heap_alloc_new w1 _
      refine ⟨(hA.block _ (by omega)).trans h0, heap_alloc_new w2 _, ?_, fun g hg => ?_, ?_, ?_, by omega, by simp; omega, by have := b1.size; omega⟩
      · exact ((o0.alloc _).below b2).below hA
      · have := (World.ownsRow.lt o0 g hg).2; omega
      · have := o1.below hA; simpa using this
      · exact (b1.trans (((Below.refl _ _).alloc b1.size _))).trans ((b2.mono (by have := b1.size; simp; omega)).trans (hA.mono (by have := b1.size; omega)))
    clear o0 o1 b1 b2
    obtain ⟨p0, p1⟩ := pk_cells st.f0
    have ST : Hid (ldP w (w1.heap.size + 1) w1.heap.size w2.heap.size (n : Int) m a0 c0 a1 c1 l l (w2.alloc (.cells #[.int .i64 (n : Int), .slice a1 m c1] 30))) := st
    clear st
    have HW : Hid (∀ W, ldP w (w1.heap.size + 1) w1.heap.size w2.heap.size (n : Int) m a0 c0 a1 c1 l l W → isWords W a0 m c0 l ∧ isWords W a1 m c1 l) := fun W h => ⟨h.o0.words HL.out.1 HL.out.2 (h.o0.cap HL.out.1), h.o1.words HL.out.1 HL.out.2 (h.o1.cap HL.out.1)⟩
    go_wp2_with fail
    refine (eqPacked_same _ (n : Int) a1 m c1 l (HW.out _ ST.out).2 a0 m c0 (HW.out _ ST.out).1 (by omega)).mono ?_
    rintro o w3 ⟨rfl, b3⟩
    have st := ST.out.below b3
    clear ST p0 p1 b3
    obtain ⟨p0, p1⟩ := pk_cells st.f0
    obtain ⟨q0, q1⟩ := pk_cells st.f1
    have ST : Hid (ldP w (w1.heap.size + 1) w1.heap.size w2.heap.size (n : Int) m a0 c0 a1 c1 l l w3) := st
    clear st
    go_wp2_with fail
    refine (markPacked_any w3 (w1.heap.size + 1) (n : Int) a1 m c1 1 l ST.out.o1 HL.out.1 (by omega) ST.out.lb1).mono ?_
    rintro o w4 ⟨rfl, ho4, hb4, hk4⟩
    have st := ST.out.mark ho4 hb4 hk4
    clear ST ho4 hb4 hk4 p0 p1 q0 q1
    obtain ⟨p0, p1⟩ := pk_cells st.f0
    obtain ⟨q0, q1⟩ := pk_cells st.f1
    have ST : Hid (ldP w (w1.heap.size + 1) w1.heap.size w2.heap.size (n : Int) m a0 c0 a1 c1 l (mkL 1 m l) w4) := st
    clear st
    go_wp2_with fail
    refine (heldPacked_any w4 (w1.heap.size + 1) (n : Int) a1 m c1 1 l ST.out.o1 HL.out.1 (by omega)).mono ?_
    rintro o w5 ⟨rfl, hb5⟩
    have st := ST.out.below hb5
    clear ST hb5 p0 p1 q0 q1
    have ST : Hid (ldP w (w1.heap.size + 1) w1.heap.size w2.heap.size (n : Int) m a0 c0 a1 c1 l (mkL 1 m l) w5) := st
    clear st
    have hm0 : ¬ (1 + (m : Int)) < 0 := by omega
    go_wp2_with fail
    refine (HI.out _).mono ?_
    rintro e w6 ⟨a2, c2, rfl, ho6, hb6⟩
    have hA : Below w6.heap.size w6 (w6.alloc (.cells #[.int .i64 (n : Int), .slice a2 m c2] 30)) := (Below.refl _ _).alloc (Nat.le_refl _) _
    have st7 := (ST.out.below hb6).below hA
    have hy2 : isWords (w6.alloc (.cells #[.int .i64 (n : Int), .slice a2 m c2] 30)) a2 m c2 l := (ho6.below hA).words HL.out.1 HL.out.2 (ho6.cap HL.out.1)
    have HY2 : Hid (isWords (w6.alloc (.cells #[.int .i64 (n : Int), .slice a2 m c2] 30)) a2 m c2 l) := hy2
    clear ST ho6 hb6 hA hy2
    obtain ⟨p0, p1⟩ := pk_cells st7.f0
    have ST : Hid (ldP w (w1.heap.size + 1) w1.heap.size w2.heap.size (n : Int) m a0 c0 a1 c1 l (mkL 1 m l) (w6.alloc (.cells #[.int .i64 (n : Int), .slice a2 m c2] 30))) := st7
    clear st7
    go_wp2_with fail
    refine (eqPacked_same _ (n : Int) a2 m c2 l HY2.out a0 m c0 (ST.out.o0.words HL.out.1 HL.out.2 (ST.out.o0.cap HL.out.1)) (by omega)).mono ?_
    rintro o w8 ⟨rfl, hb8⟩
    have HB : Hid (Below w.heap.size w w8) := (ST.out.below hb8).bel
    clear ST hb8 HY2 p0 p1
    go_wp2
    go_ret
    exact ⟨rfl, HB.out⟩
end Go.Proofs.Ytcenoecjihcjjaa
