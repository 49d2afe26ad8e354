import Derived.Test.YtaamahohdnbpiaaGreatB07
import Derived.Test.YtaamahohdnbpiaaGreatB08
import Derived.Test.YtaamahohdnbpiaaGreatB01
import Derived.Test.YtaamahohdnbpiaaGreatB03
namespace Go.Proofs.YtaamahohdnbpiaaGreat
open Go.RowKit
set_option linter.unusedVariables false
set_option maxHeartbeats 16000000 in
set_option maxRecDepth 20000 in
/-- impl.validHost -/
theorem validHost_any (w : World) (H : Ho) (s : Sl) (h : isHo w H s) (hn : H.le 1048576) :
    Calls Tryz.prog 60 #[hoV H s] w fun o w' => retB o (okHo H) ∧ Below w.heap.size w w' := by
  have H0 : Hid (obS w H s (w.alloc (.cells (hoL H s).toArray 35))) := ⟨blk.new w _ 35, (Below.refl _ _).alloc (Nat.le_refl _) _⟩
  have hl2 := h.bx.len
  have hl3 := h.ff.len
  have hl4 := h.qu.len
  have HCF0 := fun W => validConfig_any W H.c0 H.c1 H.c2 H.c3
  have HFS0 := fun W (hW : Below w.heap.size w W) => validFilters_any W _ _ _ _ (h.fs.below hW) (by rw [h.fs.len]; exact hn.fs)
  have HFF : Hid (∀ W, Below w.heap.size w W → Calls Tryz.prog 125 #[.slice s.a3 s.n3 s.k3, .func (.func 126) #[] #[]] W fun o w' => o = .returned (.bool (!H.ff.all okFr)) ∧ Below W.heap.size W w') := fun W hW => containsFrame_any W _ _ _ _ (h.ff.below hW) (by rw [h.ff.len]; exact hn.ff)
  have HQU : Hid (∀ W, Below w.heap.size w W → Calls Tryz.prog 127 #[.slice s.a4 s.n4 s.k4, .func (.func 128) #[] #[]] W fun o w' => o = .returned (.bool (!H.qu.all okEv)) ∧ Below W.heap.size W w') := fun W hW => containsEvent_any W _ _ _ _ (h.qu.below hW) (by rw [h.qu.len]; exact hn.qu)
  have HBX : Hid (s.n2 ≤ 8 → 0 ≤ H.st ∧ H.st ≤ 1000000 → ∀ W, Below w.heap.size w W → Calls Tryz.prog 124 #[.slice s.a2 s.n2 s.k2, .int .i64 H.st] W fun o w' => retB o (okBxs H.st H.bx) ∧ Below W.heap.size W w') := fun h8 hst W hW => validBoxes_any W _ _ _ _ _ (h.bx.below hW) h8 hst
  clear h hn
  obtain ⟨c0, c1, c2, c3, fs, bx, ff, qu, lo, st⟩ := H
  obtain ⟨a1, n1, k1, a2, n2, k2, a3, n3, k3, a4, n4, k4⟩ := s
  simp only [] at HCF0 HFS0 hl2 hl3 hl4 HBX HFF HQU ⊢
  have HIR : Hid (∀ (W : World) (v l m : Int) (bb : Bool), decide (l ≤ v ∧ v ≤ m) = bb → Calls Tryz.prog 115 #[.int .i64 v, .int .i64 l, .int .i64 m] W fun o w' => o = .returned (.bool bb) ∧ W = w') := fun W v l m bb hbb => hbb ▸ inRange_any W v l m
  have hmf : ∀ (fn : Fn) (first cap : Array Value) (w : World), (Instr.makeFunc fn first cap).run Tryz.prog w = .ok (.func fn first cap) w := fun _ _ _ _ => rfl
  cases hcf : okCf c0 c1 c2 c3
  · have HBAD : Hid (¬ okHo ⟨c0, c1, c2, c3, fs, bx, ff, qu, lo, st⟩) := fun h => by have := h.cf; simp only [] at this; rw [hcf] at this; cases this
    have HCF : Hid (∀ W, Calls Tryz.prog 53 #[cfV c0 c1 c2 c3] W fun o w' => o = .returned (.bool false) ∧ Below W.heap.size W w') := fun W => hcf ▸ HCF0 W
    clear hl2 hl3 hl4 HCF0 HFS0 hcf
    go_enter Tryz.func60, Tryz.ntmps60
    go_wp2_with (first
      | (go_at_call 53; refine (HCF.out _).mono ?_; rintro o w1 ⟨rfl, hb1⟩; have O1 : Hid (obS w ⟨c0, c1, c2, c3, fs, bx, ff, qu, lo, st⟩ ⟨a1, n1, k1, a2, n2, k2, a3, n3, k3, a4, n4, k4⟩ w1) := H0.out.below hb1; have q0 := O1.out.p.cell 0 _ rfl; have q1 := O1.out.p.cell 1 _ rfl; have q3 := O1.out.p.cell 3 _ rfl; have q4 := O1.out.p.cell 4 _ rfl; have q5 := O1.out.p.cell 5 _ rfl; have q6 := O1.out.p.cell 6 _ rfl; have q7 := O1.out.p.cell 7 _ rfl; have q8 := O1.out.p.cell 8 _ rfl; have q9 := O1.out.p.cell 9 _ rfl; clear hb1))
    go_ret
    exact ⟨⟨false, rfl, by simpa using HBAD.out⟩, O1.out.b⟩
  have HCF : Hid (∀ W, Calls Tryz.prog 53 #[cfV c0 c1 c2 c3] W fun o w' => o = .returned (.bool true) ∧ Below W.heap.size W w') := fun W => hcf ▸ HCF0 W
  have HCB : Hid (1 ≤ c0 ∧ c0 ≤ 8 ∧ 1 ≤ c1 ∧ c1 ≤ 16 ∧ 0 ≤ c2 ∧ c2 ≤ 1 ∧ 1 ≤ c3 ∧ c3 ≤ 32) := (of_decide_eq_true hcf : 1 ≤ c0 ∧ c0 ≤ 8 ∧ 1 ≤ c1 ∧ c1 ≤ 16 ∧ 0 ≤ c2 ∧ c2 ≤ 1 ∧ 1 ≤ c3 ∧ c3 ≤ 32)
  have HCT : Hid (okCf c0 c1 c2 c3 = true) := hcf
  clear HCF0 hcf
  cases hfs : okFs fs
  · have HBAD : Hid (¬ okHo ⟨c0, c1, c2, c3, fs, bx, ff, qu, lo, st⟩) := fun h => by have := h.fs; simp only [] at this; rw [hfs] at this; cases this
    have HFS : Hid (∀ W, Below w.heap.size w W → Calls Tryz.prog 54 #[.slice a1 n1 k1] W fun o w' => o = .returned (.bool false) ∧ Below W.heap.size W w') := fun W hW => hfs ▸ HFS0 W hW
    clear hl2 hl3 hl4 HFS0 hfs
    go_enter Tryz.func60, Tryz.ntmps60
    go_wp2_with (first
      | (go_at_call 53; refine (HCF.out _).mono ?_; rintro o w1 ⟨rfl, hb1⟩; have O1 : Hid (obS w ⟨c0, c1, c2, c3, fs, bx, ff, qu, lo, st⟩ ⟨a1, n1, k1, a2, n2, k2, a3, n3, k3, a4, n4, k4⟩ w1) := H0.out.below hb1; have q0 := O1.out.p.cell 0 _ rfl; have q1 := O1.out.p.cell 1 _ rfl; have q3 := O1.out.p.cell 3 _ rfl; have q4 := O1.out.p.cell 4 _ rfl; have q5 := O1.out.p.cell 5 _ rfl; have q6 := O1.out.p.cell 6 _ rfl; have q7 := O1.out.p.cell 7 _ rfl; have q8 := O1.out.p.cell 8 _ rfl; have q9 := O1.out.p.cell 9 _ rfl; clear hb1)
      | (go_at_call 54; refine (HFS.out _ O1.out.b).mono ?_; rintro o w2 ⟨rfl, hb2⟩; have O2 : Hid (obS w ⟨c0, c1, c2, c3, fs, bx, ff, qu, lo, st⟩ ⟨a1, n1, k1, a2, n2, k2, a3, n3, k3, a4, n4, k4⟩ w2) := O1.out.below hb2; clear q0 q1 q3 q4 q5 q6 q7 q8 q9; have q0 := O2.out.p.cell 0 _ rfl; have q1 := O2.out.p.cell 1 _ rfl; have q3 := O2.out.p.cell 3 _ rfl; have q4 := O2.out.p.cell 4 _ rfl; have q5 := O2.out.p.cell 5 _ rfl; have q6 := O2.out.p.cell 6 _ rfl; have q7 := O2.out.p.cell 7 _ rfl; have q8 := O2.out.p.cell 8 _ rfl; have q9 := O2.out.p.cell 9 _ rfl; clear hb2))
    go_ret
    exact ⟨⟨false, rfl, by simpa using HBAD.out⟩, O2.out.b⟩
  have HFS : Hid (∀ W, Below w.heap.size w W → Calls Tryz.prog 54 #[.slice a1 n1 k1] W fun o w' => o = .returned (.bool true) ∧ Below W.heap.size W w') := fun W hW => hfs ▸ HFS0 W hW
  have HFT : Hid (okFs fs = true) := hfs
  clear HFS0 hfs
  by_cases h1 : ¬ (0 ≤ lo ∧ lo ≤ 100000)
  · have HBAD : Hid (¬ okHo ⟨c0, c1, c2, c3, fs, bx, ff, qu, lo, st⟩) := fun h => h1 ⟨h.l0, h.l1⟩
    have J1 : Hid (∀ W, Calls Tryz.prog 115 #[.int .i64 lo, .int .i64 0, .int .i64 100000] W fun o w' => o = .returned (.bool false) ∧ W = w') := fun W => HIR.out W _ _ _ false (decide_eq_false h1)
    clear hl2 hl3 hl4 h1 HIR
    go_enter Tryz.func60, Tryz.ntmps60
    go_wp2_with (first
      | (go_at_call 53; refine (HCF.out _).mono ?_; rintro o w1 ⟨rfl, hb1⟩; have O1 : Hid (obS w ⟨c0, c1, c2, c3, fs, bx, ff, qu, lo, st⟩ ⟨a1, n1, k1, a2, n2, k2, a3, n3, k3, a4, n4, k4⟩ w1) := H0.out.below hb1; have q0 := O1.out.p.cell 0 _ rfl; have q1 := O1.out.p.cell 1 _ rfl; have q3 := O1.out.p.cell 3 _ rfl; have q4 := O1.out.p.cell 4 _ rfl; have q5 := O1.out.p.cell 5 _ rfl; have q6 := O1.out.p.cell 6 _ rfl; have q7 := O1.out.p.cell 7 _ rfl; have q8 := O1.out.p.cell 8 _ rfl; have q9 := O1.out.p.cell 9 _ rfl; clear hb1)
      | (go_at_call 54; refine (HFS.out _ O1.out.b).mono ?_; rintro o w2 ⟨rfl, hb2⟩; have O2 : Hid (obS w ⟨c0, c1, c2, c3, fs, bx, ff, qu, lo, st⟩ ⟨a1, n1, k1, a2, n2, k2, a3, n3, k3, a4, n4, k4⟩ w2) := O1.out.below hb2; clear q0 q1 q3 q4 q5 q6 q7 q8 q9; have q0 := O2.out.p.cell 0 _ rfl; have q1 := O2.out.p.cell 1 _ rfl; have q3 := O2.out.p.cell 3 _ rfl; have q4 := O2.out.p.cell 4 _ rfl; have q5 := O2.out.p.cell 5 _ rfl; have q6 := O2.out.p.cell 6 _ rfl; have q7 := O2.out.p.cell 7 _ rfl; have q8 := O2.out.p.cell 8 _ rfl; have q9 := O2.out.p.cell 9 _ rfl; clear hb2)
      | (go_at_call 115; refine (J1.out _).mono ?_; rintro o wI ⟨rfl, rfl⟩; clear J1))
    go_ret
    exact ⟨⟨false, rfl, by simpa using HBAD.out⟩, O2.out.b⟩
  have h1 : 0 ≤ lo ∧ lo ≤ 100000 := Classical.not_not.1 h1
  have J1 : Hid (∀ W, Calls Tryz.prog 115 #[.int .i64 lo, .int .i64 0, .int .i64 100000] W fun o w' => o = .returned (.bool true) ∧ W = w') := fun W => HIR.out W _ _ _ true (decide_eq_true h1)
  have HLO : Hid (0 ≤ lo ∧ lo ≤ 100000) := h1
  clear h1
  by_cases h2 : ¬ (0 ≤ st ∧ st ≤ 1000000)
  · have HBAD : Hid (¬ okHo ⟨c0, c1, c2, c3, fs, bx, ff, qu, lo, st⟩) := fun h => h2 ⟨h.s0, h.s1⟩
    have J2 : Hid (∀ W, Calls Tryz.prog 115 #[.int .i64 st, .int .i64 0, .int .i64 1000000] W fun o w' => o = .returned (.bool false) ∧ W = w') := fun W => HIR.out W _ _ _ false (decide_eq_false h2)
    clear hl2 hl3 hl4 h2 HIR
    go_enter Tryz.func60, Tryz.ntmps60
    go_wp2_with (first
      | (go_at_call 53; refine (HCF.out _).mono ?_; rintro o w1 ⟨rfl, hb1⟩; have O1 : Hid (obS w ⟨c0, c1, c2, c3, fs, bx, ff, qu, lo, st⟩ ⟨a1, n1, k1, a2, n2, k2, a3, n3, k3, a4, n4, k4⟩ w1) := H0.out.below hb1; have q0 := O1.out.p.cell 0 _ rfl; have q1 := O1.out.p.cell 1 _ rfl; have q3 := O1.out.p.cell 3 _ rfl; have q4 := O1.out.p.cell 4 _ rfl; have q5 := O1.out.p.cell 5 _ rfl; have q6 := O1.out.p.cell 6 _ rfl; have q7 := O1.out.p.cell 7 _ rfl; have q8 := O1.out.p.cell 8 _ rfl; have q9 := O1.out.p.cell 9 _ rfl; clear hb1)
      | (go_at_call 54; refine (HFS.out _ O1.out.b).mono ?_; rintro o w2 ⟨rfl, hb2⟩; have O2 : Hid (obS w ⟨c0, c1, c2, c3, fs, bx, ff, qu, lo, st⟩ ⟨a1, n1, k1, a2, n2, k2, a3, n3, k3, a4, n4, k4⟩ w2) := O1.out.below hb2; clear q0 q1 q3 q4 q5 q6 q7 q8 q9; have q0 := O2.out.p.cell 0 _ rfl; have q1 := O2.out.p.cell 1 _ rfl; have q3 := O2.out.p.cell 3 _ rfl; have q4 := O2.out.p.cell 4 _ rfl; have q5 := O2.out.p.cell 5 _ rfl; have q6 := O2.out.p.cell 6 _ rfl; have q7 := O2.out.p.cell 7 _ rfl; have q8 := O2.out.p.cell 8 _ rfl; have q9 := O2.out.p.cell 9 _ rfl; clear hb2)
      | (go_at_call 115; first | (refine (J1.out _).mono ?_; rintro o wI ⟨rfl, rfl⟩; clear J1) | (refine (J2.out _).mono ?_; rintro o wJ ⟨rfl, rfl⟩; clear J2)))
    go_ret
    exact ⟨⟨false, rfl, by simpa using HBAD.out⟩, O2.out.b⟩
  have h2 : 0 ≤ st ∧ st ≤ 1000000 := Classical.not_not.1 h2
  have J2 : Hid (∀ W, Calls Tryz.prog 115 #[.int .i64 st, .int .i64 0, .int .i64 1000000] W fun o w' => o = .returned (.bool true) ∧ W = w') := fun W => HIR.out W _ _ _ true (decide_eq_true h2)
  have HSTR : Hid (0 ≤ st ∧ st ≤ 1000000) := h2
  clear h2 HIR
  by_cases hb : ¬ (n2 : Int) = c0
  · have HBAD : Hid (¬ okHo ⟨c0, c1, c2, c3, fs, bx, ff, qu, lo, st⟩) := fun h => hb (by have := h.nb; simp only [] at this; omega)
    have hb' : ((n2 : Int) != c0) = true := by simpa using hb
    clear hl2 hl3 hl4 hb
    go_enter Tryz.func60, Tryz.ntmps60
    go_wp2_with (first
      | (go_at_call 53; refine (HCF.out _).mono ?_; rintro o w1 ⟨rfl, hb1⟩; have O1 : Hid (obS w ⟨c0, c1, c2, c3, fs, bx, ff, qu, lo, st⟩ ⟨a1, n1, k1, a2, n2, k2, a3, n3, k3, a4, n4, k4⟩ w1) := H0.out.below hb1; have q0 := O1.out.p.cell 0 _ rfl; have q1 := O1.out.p.cell 1 _ rfl; have q3 := O1.out.p.cell 3 _ rfl; have q4 := O1.out.p.cell 4 _ rfl; have q5 := O1.out.p.cell 5 _ rfl; have q6 := O1.out.p.cell 6 _ rfl; have q7 := O1.out.p.cell 7 _ rfl; have q8 := O1.out.p.cell 8 _ rfl; have q9 := O1.out.p.cell 9 _ rfl; clear hb1)
      | (go_at_call 54; refine (HFS.out _ O1.out.b).mono ?_; rintro o w2 ⟨rfl, hb2⟩; have O2 : Hid (obS w ⟨c0, c1, c2, c3, fs, bx, ff, qu, lo, st⟩ ⟨a1, n1, k1, a2, n2, k2, a3, n3, k3, a4, n4, k4⟩ w2) := O1.out.below hb2; clear q0 q1 q3 q4 q5 q6 q7 q8 q9; have q0 := O2.out.p.cell 0 _ rfl; have q1 := O2.out.p.cell 1 _ rfl; have q3 := O2.out.p.cell 3 _ rfl; have q4 := O2.out.p.cell 4 _ rfl; have q5 := O2.out.p.cell 5 _ rfl; have q6 := O2.out.p.cell 6 _ rfl; have q7 := O2.out.p.cell 7 _ rfl; have q8 := O2.out.p.cell 8 _ rfl; have q9 := O2.out.p.cell 9 _ rfl; clear hb2)
      | (go_at_call 115; first | (refine (J1.out _).mono ?_; rintro o wI ⟨rfl, rfl⟩; clear J1) | (refine (J2.out _).mono ?_; rintro o wJ ⟨rfl, rfl⟩; clear J2)))
    go_ret
    exact ⟨⟨false, rfl, by simpa using HBAD.out⟩, O2.out.b⟩
  have hb' : ((n2 : Int) != c0) = false := by simpa using hb
  have hb : (n2 : Int) = c0 := Classical.not_not.1 hb
  have HB8 : Hid (n2 ≤ 8 ∧ (bx.length : Int) = c0) := by have := HCB.out; exact ⟨by omega, by omega⟩
  clear hb
  by_cases hf : c1 < (n3 : Int)
  · have HBAD : Hid (¬ okHo ⟨c0, c1, c2, c3, fs, bx, ff, qu, lo, st⟩) := fun h => by have := h.nf; simp only [] at this; omega
    clear hl2 hl3 hl4
    go_enter Tryz.func60, Tryz.ntmps60
    go_wp2_with (first
      | (go_at_call 53; refine (HCF.out _).mono ?_; rintro o w1 ⟨rfl, hb1⟩; have O1 : Hid (obS w ⟨c0, c1, c2, c3, fs, bx, ff, qu, lo, st⟩ ⟨a1, n1, k1, a2, n2, k2, a3, n3, k3, a4, n4, k4⟩ w1) := H0.out.below hb1; have q0 := O1.out.p.cell 0 _ rfl; have q1 := O1.out.p.cell 1 _ rfl; have q3 := O1.out.p.cell 3 _ rfl; have q4 := O1.out.p.cell 4 _ rfl; have q5 := O1.out.p.cell 5 _ rfl; have q6 := O1.out.p.cell 6 _ rfl; have q7 := O1.out.p.cell 7 _ rfl; have q8 := O1.out.p.cell 8 _ rfl; have q9 := O1.out.p.cell 9 _ rfl; clear hb1)
      | (go_at_call 54; refine (HFS.out _ O1.out.b).mono ?_; rintro o w2 ⟨rfl, hb2⟩; have O2 : Hid (obS w ⟨c0, c1, c2, c3, fs, bx, ff, qu, lo, st⟩ ⟨a1, n1, k1, a2, n2, k2, a3, n3, k3, a4, n4, k4⟩ w2) := O1.out.below hb2; clear q0 q1 q3 q4 q5 q6 q7 q8 q9; have q0 := O2.out.p.cell 0 _ rfl; have q1 := O2.out.p.cell 1 _ rfl; have q3 := O2.out.p.cell 3 _ rfl; have q4 := O2.out.p.cell 4 _ rfl; have q5 := O2.out.p.cell 5 _ rfl; have q6 := O2.out.p.cell 6 _ rfl; have q7 := O2.out.p.cell 7 _ rfl; have q8 := O2.out.p.cell 8 _ rfl; have q9 := O2.out.p.cell 9 _ rfl; clear hb2)
      | (go_at_call 115; first | (refine (J1.out _).mono ?_; rintro o wI ⟨rfl, rfl⟩; clear J1) | (refine (J2.out _).mono ?_; rintro o wJ ⟨rfl, rfl⟩; clear J2)))
    go_ret
    exact ⟨⟨false, rfl, by simpa using HBAD.out⟩, O2.out.b⟩
  by_cases hq : c3 < (n4 : Int)
  · have HBAD : Hid (¬ okHo ⟨c0, c1, c2, c3, fs, bx, ff, qu, lo, st⟩) := fun h => by have := h.nq; simp only [] at this; omega
    clear hl2 hl3 hl4
    go_enter Tryz.func60, Tryz.ntmps60
    go_wp2_with (first
      | (go_at_call 53; refine (HCF.out _).mono ?_; rintro o w1 ⟨rfl, hb1⟩; have O1 : Hid (obS w ⟨c0, c1, c2, c3, fs, bx, ff, qu, lo, st⟩ ⟨a1, n1, k1, a2, n2, k2, a3, n3, k3, a4, n4, k4⟩ w1) := H0.out.below hb1; have q0 := O1.out.p.cell 0 _ rfl; have q1 := O1.out.p.cell 1 _ rfl; have q3 := O1.out.p.cell 3 _ rfl; have q4 := O1.out.p.cell 4 _ rfl; have q5 := O1.out.p.cell 5 _ rfl; have q6 := O1.out.p.cell 6 _ rfl; have q7 := O1.out.p.cell 7 _ rfl; have q8 := O1.out.p.cell 8 _ rfl; have q9 := O1.out.p.cell 9 _ rfl; clear hb1)
      | (go_at_call 54; refine (HFS.out _ O1.out.b).mono ?_; rintro o w2 ⟨rfl, hb2⟩; have O2 : Hid (obS w ⟨c0, c1, c2, c3, fs, bx, ff, qu, lo, st⟩ ⟨a1, n1, k1, a2, n2, k2, a3, n3, k3, a4, n4, k4⟩ w2) := O1.out.below hb2; clear q0 q1 q3 q4 q5 q6 q7 q8 q9; have q0 := O2.out.p.cell 0 _ rfl; have q1 := O2.out.p.cell 1 _ rfl; have q3 := O2.out.p.cell 3 _ rfl; have q4 := O2.out.p.cell 4 _ rfl; have q5 := O2.out.p.cell 5 _ rfl; have q6 := O2.out.p.cell 6 _ rfl; have q7 := O2.out.p.cell 7 _ rfl; have q8 := O2.out.p.cell 8 _ rfl; have q9 := O2.out.p.cell 9 _ rfl; clear hb2)
      | (go_at_call 115; first | (refine (J1.out _).mono ?_; rintro o wI ⟨rfl, rfl⟩; clear J1) | (refine (J2.out _).mono ?_; rintro o wJ ⟨rfl, rfl⟩; clear J2)))
    go_ret
    exact ⟨⟨false, rfl, by simpa using HBAD.out⟩, O2.out.b⟩
  have HNUM : Hid ((ff.length : Int) ≤ c1 ∧ (qu.length : Int) ≤ c3) := ⟨by omega, by omega⟩
  clear hl2 hl3 hl4
  go_enter Tryz.func60, Tryz.ntmps60
  go_wp2_with (first
    | (go_at_call 53; refine (HCF.out _).mono ?_; rintro o w1 ⟨rfl, hb1⟩; have O1 : Hid (obS w ⟨c0, c1, c2, c3, fs, bx, ff, qu, lo, st⟩ ⟨a1, n1, k1, a2, n2, k2, a3, n3, k3, a4, n4, k4⟩ w1) := H0.out.below hb1; have q0 := O1.out.p.cell 0 _ rfl; have q1 := O1.out.p.cell 1 _ rfl; have q3 := O1.out.p.cell 3 _ rfl; have q4 := O1.out.p.cell 4 _ rfl; have q5 := O1.out.p.cell 5 _ rfl; have q6 := O1.out.p.cell 6 _ rfl; have q7 := O1.out.p.cell 7 _ rfl; have q8 := O1.out.p.cell 8 _ rfl; have q9 := O1.out.p.cell 9 _ rfl; clear hb1)
    | (go_at_call 54; refine (HFS.out _ O1.out.b).mono ?_; rintro o w2 ⟨rfl, hb2⟩; have O2 : Hid (obS w ⟨c0, c1, c2, c3, fs, bx, ff, qu, lo, st⟩ ⟨a1, n1, k1, a2, n2, k2, a3, n3, k3, a4, n4, k4⟩ w2) := O1.out.below hb2; clear q0 q1 q3 q4 q5 q6 q7 q8 q9; have q0 := O2.out.p.cell 0 _ rfl; have q1 := O2.out.p.cell 1 _ rfl; have q3 := O2.out.p.cell 3 _ rfl; have q4 := O2.out.p.cell 4 _ rfl; have q5 := O2.out.p.cell 5 _ rfl; have q6 := O2.out.p.cell 6 _ rfl; have q7 := O2.out.p.cell 7 _ rfl; have q8 := O2.out.p.cell 8 _ rfl; have q9 := O2.out.p.cell 9 _ rfl; clear hb2)
    | (go_at_call 115; first | (refine (J1.out _).mono ?_; rintro o wI ⟨rfl, rfl⟩; clear J1) | (refine (J2.out _).mono ?_; rintro o wJ ⟨rfl, rfl⟩; clear J2)))
  refine (HBX.out HB8.out.1 HSTR.out _ O2.out.b).mono ?_
  rintro o w3 ⟨⟨b3, rfl, h3⟩, hb3⟩
  have O3 : Hid (obS w ⟨c0, c1, c2, c3, fs, bx, ff, qu, lo, st⟩ ⟨a1, n1, k1, a2, n2, k2, a3, n3, k3, a4, n4, k4⟩ w3) := O2.out.below hb3
  have HI3 : Hid (b3 = true ↔ okBxs st bx) := h3
  clear q0 q1 q3 q4 q5 q6 q7 q8 q9
  have q6 := O3.out.p.cell 6 _ rfl
  clear h3 hb3
  cases b3
  · have HBAD : Hid (¬ okHo ⟨c0, c1, c2, c3, fs, bx, ff, qu, lo, st⟩) := fun h => by have := HI3.out.2 h.bx; cases this
    go_wp2_with fail
    go_ret
    exact ⟨⟨false, rfl, by simpa using HBAD.out⟩, O3.out.b⟩
  · have HBX3 : Hid (okBxs st bx) := HI3.out.1 rfl
    clear HI3
    cases hff : ff.all okFr
    · have HBAD : Hid (¬ okHo ⟨c0, c1, c2, c3, fs, bx, ff, qu, lo, st⟩) := fun h => by have := h.ff; simp only [] at this; rw [hff] at this; cases this
      rw [hff] at HFF
      clear hff
      go_wp2_with (first
        | (go_at_call 125; refine (HFF.out _ O3.out.b).mono ?_; rintro o w4 ⟨rfl, hb4⟩))
      go_ret
      exact ⟨⟨false, rfl, by simpa using HBAD.out⟩, (O3.out.below hb4).b⟩
    · have HFT3 : Hid (ff.all okFr = true) := hff
      rw [hff] at HFF
      clear hff
      cases hqu : qu.all okEv
      · have HBAD : Hid (¬ okHo ⟨c0, c1, c2, c3, fs, bx, ff, qu, lo, st⟩) := fun h => by have := h.qu; simp only [] at this; rw [hqu] at this; cases this
        rw [hqu] at HQU
        clear hqu
        go_wp2_with (first
          | (go_at_call 125; refine (HFF.out _ O3.out.b).mono ?_; rintro o w4 ⟨rfl, hb4⟩; have O4 : Hid (obS w ⟨c0, c1, c2, c3, fs, bx, ff, qu, lo, st⟩ ⟨a1, n1, k1, a2, n2, k2, a3, n3, k3, a4, n4, k4⟩ w4) := O3.out.below hb4; have q7 := O4.out.p.cell 7 _ rfl; clear hb4)
          | (go_at_call 127; refine (HQU.out _ O4.out.b).mono ?_; rintro o w5 ⟨rfl, hb5⟩))
        go_ret
        exact ⟨⟨false, rfl, by simpa using HBAD.out⟩, (O4.out.below hb5).b⟩
      · have HGO : Hid (okHo ⟨c0, c1, c2, c3, fs, bx, ff, qu, lo, st⟩) := ⟨HCT.out, HFT.out, HB8.out.2, HNUM.out.1, HNUM.out.2, HLO.out.1, HLO.out.2, HSTR.out.1, HSTR.out.2, HFT3.out, hqu, HBX3.out⟩
        rw [hqu] at HQU
        clear hqu
        go_wp2_with (first
          | (go_at_call 125; refine (HFF.out _ O3.out.b).mono ?_; rintro o w4 ⟨rfl, hb4⟩; have O4 : Hid (obS w ⟨c0, c1, c2, c3, fs, bx, ff, qu, lo, st⟩ ⟨a1, n1, k1, a2, n2, k2, a3, n3, k3, a4, n4, k4⟩ w4) := O3.out.below hb4; have q7 := O4.out.p.cell 7 _ rfl; clear hb4)
          | (go_at_call 127; refine (HQU.out _ O4.out.b).mono ?_; rintro o w5 ⟨rfl, hb5⟩))
        go_ret
        exact ⟨⟨true, rfl, by simpa using HGO.out⟩, (O4.out.below hb5).b⟩
end Go.Proofs.YtaamahohdnbpiaaGreat
namespace Go.Proofs.YtaamahohdnbpiaaGreat
open Go.Shelf Go.RowKit
set_option linter.unusedVariables false
def Tryz.laysE160_ren : Go.Shelf.Ren := ⟨fun | 41 => 160 | n => n, fun | 22 => 31 | 23 => 97 | n => n, fun | n => n⟩
theorem Tryz.laysE160 : Go.Proofs.SlLaysE0.n41 Tryz.prog Tryz.laysE160_ren := {
  mixed := by kernel_rfl
  f41 := ⟨Tryz.f160.name, by kernel_rfl, Tryz.func160.trans (congrArg some (by kernel_rfl))⟩
  t4 := Tryz.underlying4
  a4 := Tryz.isAgg4
  z4 := Tryz.sizeOf4
  v4 := Tryz.zeroValue4
  t22 := Tryz.underlying31
  a22 := Tryz.isAgg31
  z22 := Tryz.sizeOf31
  v22 := Tryz.zeroValue31 }
abbrev X8 := R8 × Option Addr × Nat × Nat
def x8 (t : X8) : List Value := [.int .i64 t.1.x, .int .i64 t.1.y, .int .i64 t.1.z, .bool t.1.e, .int .u32 (t.1.i : Int), .bool t.1.r, .int .i64 t.1.d, .slice t.2.1 t.2.2.1 t.2.2.2]
/-- the cells of a row of boxes -/
def c8 (bs : List X8) : List Value := bs.flatMap x8
theorem c8_len (bs : List X8) : (c8 bs).length = bs.length * 8 := by
  induction bs with
  | nil => rfl
  | cons b bs ih => simp only [c8, List.flatMap_cons, List.length_append] at ih ⊢; rw [ih]; simp only [x8, List.length_cons, List.length_nil]; omega
theorem c8_at (bs : List X8) : ∀ j (h : j < bs.length) t, t < 8 → (c8 bs)[j * 8 + t]? = (x8 bs[j])[t]? := by
  induction bs with
  | nil => intro j h; exact absurd h (Nat.not_lt_zero _)
  | cons b bs ih =>
    intro j h t ht
    cases j with
    | zero =>
      simp only [c8, List.flatMap_cons, Nat.zero_mul, Nat.zero_add]
      rw [List.getElem?_append_left (by simpa [x8] using ht)]
      rfl
    | succ j =>
      have e : (j + 1) * 8 + t = 8 + (j * 8 + t) := by omega
      rw [e]
      simp only [c8, List.flatMap_cons]
      rw [List.getElem?_append_right (by simp [x8])]
      have := ih j (by simpa using h) t ht
      simp only [c8] at this
      simpa [x8] using this
theorem rows8 {w : World} {g off n cap : Nat} {bx : List R8} (h : isR8s w (some ⟨g, off, none⟩) n cap bx) : ∃ bs : List X8, bs.map (·.1) = bx ∧ ∀ j (hj : j < bs.length), at8 w g (off + j * 8) bs[j].1 bs[j].2.1 bs[j].2.2.1 bs[j].2.2.2 := by
  have hc : ∀ j (hj : j < bx.length), ∃ ao m c, at8 w g (off + j * 8) bx[j] ao m c := by
    intro j hj
    obtain ⟨g', off', ha, hc⟩ := h.cells (by intro e; subst e; cases hj)
    cases ha
    exact hc j hj
  clear h
  induction bx generalizing off with
  | nil => exact ⟨[], rfl, fun j hj => absurd hj (Nat.not_lt_zero _)⟩
  | cons b bx ih =>
    obtain ⟨ao, m, c, h0⟩ := hc 0 (by simp)
    obtain ⟨bs, hm, hs⟩ := ih (off := off + 8) (fun j hj => by
      have := hc (j + 1) (by simpa using hj)
      have e : off + (j + 1) * 8 = off + 8 + j * 8 := by omega
      rw [e] at this
      simpa using this)
    refine ⟨(b, ao, m, c) :: bs, by simp [hm], fun j hj => ?_⟩
    cases j with
    | zero => exact h0
    | succ j =>
      have := hs j (by simpa using hj)
      have e : off + (j + 1) * 8 = off + 8 + j * 8 := by omega
      rw [e]
      exact this
theorem c8_cell {w : World} {g off : Nat} {bs : List X8} (h : ∀ j (hj : j < bs.length), at8 w g (off + j * 8) bs[j].1 bs[j].2.1 bs[j].2.2.1 bs[j].2.2.2) (t : Nat) (u : Value) (hu : (c8 bs)[t]? = some u) : w.cell? ⟨g, off + t, none⟩ = some u := by
  have ht : t < bs.length * 8 := by
    have := (List.getElem?_eq_some_iff.mp hu).1
    rwa [c8_len] at this
  have hj : t / 8 < bs.length := by omega
  have e : t = t / 8 * 8 + t % 8 := by omega
  rw [e, c8_at bs (t / 8) hj (t % 8) (by omega)] at hu
  have := (h (t / 8) hj).range (t % 8) u hu
  rw [e, ← Nat.add_assoc]
  exact this
theorem c8_one (bs : List X8) : ∀ u ∈ c8 bs, u.oneCell' = true := by
  intro u hu
  simp only [c8, x8, List.mem_flatMap, List.mem_cons, List.not_mem_nil, or_false] at hu
  obtain ⟨b, _, rfl | rfl | rfl | rfl | rfl | rfl | rfl | rfl⟩ := hu <;> rfl
end Go.Proofs.YtaamahohdnbpiaaGreat
namespace Go.Proofs.YtaamahohdnbpiaaGreat
open Go.RowKit
set_option linter.unusedVariables false
theorem rowF.setCell {w : World} {x N : Nat} (h : rowF w x N) (p : Addr) (v : Value) : rowF (w.setCell p v) x N := fun t ht => by
  obtain ⟨⟨u, hu⟩, hf⟩ := h t ht
  refine ⟨?_, by rw [World.frozen?_setCell]; exact hf⟩
  by_cases e : (⟨x, t, none⟩ : Addr) = p
  · subst e
    exact ⟨v, World.cell?_setCell_same _ _ _ hu⟩
  · exact ⟨u, by rw [World.cell?_setCell_other _ _ _ _ (fun hh => e hh.symm)]; exact hu⟩
theorem rowF.setRow {x N : Nat} (g : Nat) : ∀ (vs : List Value) (w : World) (p : Nat), rowF w x N → rowF (setRow w g p vs) x N := by
  intro vs
  induction vs with
  | nil => intro w p h; exact h
  | cons v vs ih => intro w p h; exact ih _ (p + 1) (h.setCell _ v)
theorem rowF.le {w : World} {x N M : Nat} (h : rowF w x N) (hM : M ≤ N) : rowF w x M := fun t ht => h t (by omega)
/-- marks of bytes from C on -/
def mkB (W : World) (b m C : Nat) : Prop := ∀ t, t < m → W.cell? ⟨b, t, none⟩ = some (.int .u8 (((C + t) % 256 : Nat) : Int))
end Go.Proofs.YtaamahohdnbpiaaGreat
namespace Go.Proofs.YtaamahohdnbpiaaGreat
open Go.RowKit
set_option linter.unusedVariables false
abbrev Hd := Option Addr × Nat × Nat
/-- the bytes of a record: none, or in a block other than g -/
def hd (W : World) (g : Nat) (h : Hd) : Prop := h.2.1 ≤ 1048576 ∧ h.2.1 ≤ h.2.2 ∧ ((h.1 = none ∧ h.2.1 = 0) ∨ ∃ b, h.1 = some ⟨b, 0, none⟩ ∧ b ≠ g ∧ rowF W b h.2.1)
theorem hd.up {W W' : World} {g : Nat} {h : Hd} (H : hd W g h) (hr : ∀ x N, rowF W x N → rowF W' x N) : hd W' g h := by
  obtain ⟨h1, h2, h3⟩ := H
  refine ⟨h1, h2, ?_⟩
  rcases h3 with h3 | ⟨b, e, hn, hf⟩
  · exact Or.inl h3
  · exact Or.inr ⟨b, e, hn, hr _ _ hf⟩
/-- no two of the rows of bytes are one -/
def dst (hs : Nat → Hd) (n : Nat) : Prop := ∀ i j, i < j → j < n → ∀ b, (hs i).1 = some ⟨b, 0, none⟩ → (hs j).1 ≠ some ⟨b, 0, none⟩
/-- n records of 8 cells at g, their bytes as hs tells -/
structure sh8 (W : World) (g n : Nat) (hs : Nat → Hd) : Prop where
  row : rowF W g (n * 8)
  dat : ∀ j, j < n → W.cell? ⟨g, j * 8 + 7, none⟩ = some (.slice (hs j).1 (hs j).2.1 (hs j).2.2) ∧ hd W g (hs j)
/-- the cells that the marks from C on make -/
def m8w (C : Nat) : List Value := [Value.int .i64 (C : Int), Value.int .i64 ((C : Int) + 1), Value.int .i64 ((C : Int) + 1 + 1), Value.bool ((C : Int) % 3 == 0), Value.int .u32 (((C : Int) + 1 + 1 + 1 + 1) % 4294967296), Value.bool (((C : Int) + 5) % 3 == 0), Value.int .i64 ((C : Int) + 1 + 1 + 1 + 1 + 1 + 1)]
/-- a record marked from C on -/
structure mk8 (W : World) (g o C : Nat) (h : Hd) : Prop where
  row : ∀ t (ht : t < 7), W.cell? ⟨g, o + t, none⟩ = some ((m8w C)[t]'(by simpa [m8w] using ht))
  dat : ∀ b, h.1 = some ⟨b, 0, none⟩ → mkB W b h.2.1 (C + 7)
theorem mk8.up {W W' : World} {g o C : Nat} {h : Hd} (H : mk8 W g o C h) (hg : W'.heap[g]? = W.heap[g]?) (hb : ∀ b, h.1 = some ⟨b, 0, none⟩ → W'.heap[b]? = W.heap[b]?) : mk8 W' g o C h :=
  ⟨fun t ht => cell_up (H.row t ht) hg, fun b e t ht => cell_up (H.dat b e t ht) (hb b e)⟩
theorem sh8.up {W W' : World} {g n : Nat} {hs : Nat → Hd} (H : sh8 W g n hs) (hg : W'.heap[g]? = W.heap[g]?) (hr : ∀ x N, rowF W x N → rowF W' x N) : sh8 W' g n hs :=
  ⟨H.row.up hg, fun j hj => ⟨cell_up (H.dat j hj).1 hg, (H.dat j hj).2.up hr⟩⟩
/-- n records of 5 cells at g, their bytes as hs tells -/
structure sh5 (W : World) (g n : Nat) (hs : Nat → Hd) : Prop where
  row : rowF W g (n * 5)
  dat : ∀ j, j < n → W.cell? ⟨g, j * 5 + 4, none⟩ = some (.slice (hs j).1 (hs j).2.1 (hs j).2.2) ∧ hd W g (hs j)
/-- the cells that the marks from C on make -/
def m5w (C : Nat) : List Value := [Value.bool ((C : Int) % 3 == 0), Value.int .u32 (((C : Int) + 1) % 4294967296), Value.bool (((C : Int) + 2) % 3 == 0), Value.int .i64 ((C : Int) + 1 + 1 + 1)]
/-- a record marked from C on -/
structure mk5 (W : World) (g o C : Nat) (h : Hd) : Prop where
  row : ∀ t (ht : t < 4), W.cell? ⟨g, o + t, none⟩ = some ((m5w C)[t]'(by simpa [m5w] using ht))
  dat : ∀ b, h.1 = some ⟨b, 0, none⟩ → mkB W b h.2.1 (C + 4)
theorem mk5.up {W W' : World} {g o C : Nat} {h : Hd} (H : mk5 W g o C h) (hg : W'.heap[g]? = W.heap[g]?) (hb : ∀ b, h.1 = some ⟨b, 0, none⟩ → W'.heap[b]? = W.heap[b]?) : mk5 W' g o C h :=
  ⟨fun t ht => cell_up (H.row t ht) hg, fun b e t ht => cell_up (H.dat b e t ht) (hb b e)⟩
theorem sh5.up {W W' : World} {g n : Nat} {hs : Nat → Hd} (H : sh5 W g n hs) (hg : W'.heap[g]? = W.heap[g]?) (hr : ∀ x N, rowF W x N → rowF W' x N) : sh5 W' g n hs :=
  ⟨H.row.up hg, fun j hj => ⟨cell_up (H.dat j hj).1 hg, (H.dat j hj).2.up hr⟩⟩
end Go.Proofs.YtaamahohdnbpiaaGreat
namespace Go.Proofs.YtaamahohdnbpiaaGreat
open Go.Shelf Go.RowKit
set_option linter.unusedVariables false
theorem ownsRow_split {W : World} {B : Nat} {T : TypeId} {sz : Nat} {v : Value} {n : Nat} {xs : List Value} (ho : W.ownsRow B T sz v n xs) : (v = .slice none 0 0 ∧ n = 0) ∨ ∃ g cap, v = .slice (some ⟨g, 0, none⟩) n cap ∧ B ≤ g ∧ g < W.heap.size ∧ n ≤ cap ∧ rowF W g (n * sz) ∧ W.rangeAt g 0 xs := by
  have ho' := ho
  rcases ho.2 with ⟨e, e2⟩ | ⟨g', cap', cur, hv', hb, hg, hcp, hmx, hsz, htk⟩
  · exact Or.inl ⟨e, by simpa using e2⟩
  · right
    have hl := ho.1
    have hcur : ∀ t, t < n * sz → cur[t]? = xs[t]? := by
      intro t ht
      rw [← htk, List.getElem?_take_of_lt ht, Array.getElem?_toList]
    have hcell : ∀ t, t < n * sz → W.cell? ⟨g', t, none⟩ = xs[t]? := by
      intro t ht
      rw [← hcur t ht]
      simp [World.cell?, hg]
    refine ⟨g', cap', hv', hb, lt_of_some hg, hcp, fun t ht => ⟨?_, ?_⟩, fun j u hu => ?_⟩
    · rw [hcell t ht]
      exact ⟨_, List.getElem?_eq_getElem (by omega)⟩
    · subst hv'
      exact World.ownsRow.frozenAt ho' t
    · have hj : j < xs.length := (List.getElem?_eq_some_iff.mp hu).1
      rw [Nat.zero_add, hcell j (by omega)]
      exact hu
theorem rangeAt.up {W W' : World} {g o : Nat} {l : List Value} (h : W.rangeAt g o l) (he : W'.heap[g]? = W.heap[g]?) : W'.rangeAt g o l := fun j v hv => cell_up (h j v hv) he
/-- a row of records of one's own: the bytes of the first k are its own too, from U on; the others' lie in b0 -/
structure dr8 (b0 : World) (U g n : Nat) (bx : List R8) (hs : Nat → Hd) (k : Nat) (W : World) : Prop where
  len : n = bx.length
  row : rowF W g (n * 8)
  rng : ∀ j (h : j < bx.length), W.rangeAt g (j * 8) (x8 (bx[j], hs j))
  old : ∀ j (h : j < bx.length), k ≤ j → isBytes b0 (hs j).1 (hs j).2.1 (hs j).2.2 bx[j].l
  new : ∀ j (h : j < bx.length), j < k → isBytes W (hs j).1 (hs j).2.1 (hs j).2.2 bx[j].l ∧ (((hs j).1 = none ∧ (hs j).2.1 = 0) ∨ ∃ b, (hs j).1 = some ⟨b, 0, none⟩ ∧ U ≤ b ∧ b < W.heap.size ∧ rowF W b (hs j).2.1)
  dst : dst hs k
  lo : b0.heap.size ≤ g
  hi : g < W.heap.size
  bel : Below b0.heap.size b0 W
  sm : ∀ j (h : j < bx.length), bx[j].l.length ≤ 1048576
theorem dr8.same {b0 W W' : World} {U g n : Nat} {bx : List R8} {hs : Nat → Hd} {k : Nat} (h : dr8 b0 U g n bx hs k W) (he : ∀ x, x = g ∨ U ≤ x → x < W.heap.size → W'.heap[x]? = W.heap[x]?) (hz : W.heap.size ≤ W'.heap.size) (hb : Below b0.heap.size b0 W') : dr8 b0 U g n bx hs k W' :=
  ⟨h.len, h.row.up (he g (Or.inl rfl) h.hi), fun j hj => (rangeAt.up (h.rng j hj) (he g (Or.inl rfl) h.hi)), h.old, fun j hj hk => by
    obtain ⟨h1, h2⟩ := h.new j hj hk
    rcases h2 with ⟨e1, e2⟩ | ⟨b, e1, e2, e3, e4⟩
    · refine ⟨⟨h1.len, h1.cap, h1.small, fun hne => ?_⟩, Or.inl ⟨e1, e2⟩⟩
      exact absurd (List.length_pos_iff.2 hne) (by have := h1.len; omega)
    · rw [e1] at h1 ⊢
      exact ⟨h1.other (he b (Or.inr e2) e3), Or.inr ⟨b, rfl, e2, Nat.lt_of_lt_of_le e3 hz, e4.up (he b (Or.inr e2) e3)⟩⟩, h.dst, h.lo, Nat.lt_of_lt_of_le h.hi hz, hb, h.sm⟩
theorem dr8.below {b0 W W' : World} {U g n : Nat} {bx : List R8} {hs : Nat → Hd} {k : Nat} (h : dr8 b0 U g n bx hs k W) (hb : Below W.heap.size W W') : dr8 b0 U g n bx hs k W' :=
  h.same (fun x _ hx => hb.block x hx) hb.size (h.bel.trans (hb.mono h.bel.size))
theorem dr8.start {b0 W : World} {B U g n : Nat} {L : List R8} (bs : List X8) (hm : bs.map (·.1) = L) (hby : ∀ j (hj : j < bs.length), isBytes b0 bs[j].2.1 bs[j].2.2.1 bs[j].2.2.2 bs[j].1.l) (hn : n = L.length) (hr : rowF W g (n * 8)) (hg : W.rangeAt g 0 (c8 bs)) (hlo : b0.heap.size ≤ g) (hhi : g < W.heap.size) (hb : Below b0.heap.size b0 W) (hsm : ∀ j (h : j < L.length), L[j].l.length ≤ 1048576) : dr8 b0 U g n L (fun j => (bs.getD j (⟨0, 0, 0, false, 0, false, 0, []⟩, none, 0, 0)).2) 0 W := by
  subst hm
  have hl : (bs.map (·.1)).length = bs.length := by simp
  refine ⟨hn, hr, fun j hj => ?_, fun j hj _ => ?_, fun j hj hk => absurd hk (Nat.not_lt_zero _), fun i j _ hj => absurd hj (Nat.not_lt_zero _), hlo, hhi, hb, hsm⟩
  · have hj' : j < bs.length := by omega
    have e : ((bs.map (·.1))[j], (bs.getD j (⟨0, 0, 0, false, 0, false, 0, []⟩, none, 0, 0)).2) = bs[j] := by simp [List.getD, hj']
    rw [e]
    intro t u hu
    have ht : t < 8 := by have := (List.getElem?_eq_some_iff.mp hu).1; simpa [x8] using this
    rw [← c8_at bs j hj' t ht] at hu
    have := hg _ _ hu
    rw [Nat.zero_add] at this
    exact this
  · have hj' : j < bs.length := by omega
    have := hby j hj'
    simpa [List.getD, hj'] using this
theorem dr8.at_ {b0 W : World} {U g n : Nat} {bx : List R8} {hs : Nat → Hd} {k : Nat} (h : dr8 b0 U g n bx hs k W) (j : Nat) (hj : j < bx.length) : at8 W g (j * 8) bx[j] (hs j).1 (hs j).2.1 (hs j).2.2 := by
  have hr := h.rng j hj
  refine ⟨hr 0 _ rfl, hr 1 _ rfl, hr 2 _ rfl, hr 3 _ rfl, hr 4 _ rfl, hr 5 _ rfl, hr 6 _ rfl, hr 7 _ rfl, ?_⟩
  by_cases hk : j < k
  · exact (h.new j hj hk).1
  · exact (h.old j hj (by omega)).below h.bel
theorem dr8.is {b0 W : World} {U g n : Nat} {bx : List R8} {hs : Nat → Hd} {k cap : Nat} (h : dr8 b0 U g n bx hs k W) (hc : n ≤ cap) : isR8s W (some ⟨g, 0, none⟩) n cap bx :=
  ⟨h.len, hc, fun _ => ⟨g, 0, rfl, fun j hj => ⟨_, _, _, by rw [Nat.zero_add]; exact h.at_ j hj⟩⟩⟩
theorem clone8_dr (b0 w : World) (g off n cap : Nat) (bx : List R8) (h : isR8s b0 (some ⟨g, off, none⟩) n cap bx) (hb0 : Below b0.heap.size b0 w) (hn : n ≤ 1048576) (hsm : ∀ j (h : j < bx.length), bx[j].l.length ≤ 1048576) :
    Calls Tryz.prog 160 #[.slice (some ⟨g, off, none⟩) n cap] w fun e w' => ∃ g' cap' hs, e = .returned (.slice (some ⟨g', 0, none⟩) n cap') ∧ w.heap.size ≤ g' ∧ n ≤ cap' ∧ dr8 b0 0 g' n bx hs 0 w' ∧ Below w.heap.size w w' := by
  obtain ⟨bs, hm, hs⟩ := rows8 h
  have hlen : n = bs.length := by rw [h.len, ← hm]; simp
  obtain ⟨i0, hi, hz0, hz1, hz2⟩ := info_parts Tryz.info97
  refine (AnyE.slices_Clone Tryz.laysE160 i0 _ 8 72 hi hz0 hz1 hz2 rfl (by omega) Tryz.sizeOf97 g off n cap (c8 bs) w (by rw [c8_len, hlen]) (by unfold maxLen; omega) (by omega) (fun j u hj => c8_cell (fun j hj => (hs j hj).below hb0) j u hj) (c8_one bs)).mono ?_
  rintro e w' ⟨v', rfl, ho, hv, hbw⟩
  rcases ownsRow_split ho with ⟨e, _⟩ | ⟨g', cap', rfl, hb, hlt, hcp, hrf, hrg⟩
  · exact absurd e hv
  · exact ⟨g', cap', _, rfl, hb, hcp, dr8.start (B := 0) bs hm (fun j hj => (hs j hj).dat) h.len hrf hrg (Nat.le_trans hb0.size hb) hlt (hb0.trans (hbw.mono hb0.size)) hsm, hbw⟩
/-- a row whose bytes lie in b0 hangs on its block alone -/
theorem dr8.at0 {b0 W W' : World} {U g n : Nat} {bx : List R8} {hs : Nat → Hd} (h : dr8 b0 U g n bx hs 0 W) (he : W'.heap[g]? = W.heap[g]?) (hb : Below b0.heap.size b0 W') : dr8 b0 U g n bx hs 0 W' := by
  refine ⟨h.len, h.row.up he, fun j hj => rangeAt.up (h.rng j hj) he, h.old, fun j hj hk => absurd hk (Nat.not_lt_zero _), h.dst, h.lo, ?_, hb, h.sm⟩
  have h1 := h.hi
  rw [Array.getElem?_eq_getElem h1] at he
  exact lt_of_some he
end Go.Proofs.YtaamahohdnbpiaaGreat
namespace Go.Proofs.YtaamahohdnbpiaaGreat
open Go.RowKit
theorem blk.set {w : World} {b : Nat} {l : List Value} {T : TypeId} (h : blk w b l T) (o : Nat) (v : Value) : blk (w.setCell ⟨b, o, none⟩ v) b (l.set o v) T := by
  have := heap_setCell_same w b o _ _ v h
  simpa [blk] using this
theorem blk.setOther {w : World} {b b' : Nat} {l : List Value} {T : TypeId} (h : blk w b l T) (hb : b ≠ b') (o : Nat) (v : Value) : blk (w.setCell ⟨b', o, none⟩ v) b l T := h.other hb o [v]
abbrev z10 : List Value := [.int .i64 0, .int .i64 0, .int .i64 0, .int .i64 0, .slice none 0 0, .slice none 0 0, .slice none 0 0, .slice none 0 0, .int .i64 0, .int .i64 0]
/-- the variables of l3copy: h, the result, g -/
structure gS (w : World) (hv gv : List Value) (W : World) : Prop where
  p : blk W w.heap.size hv 35
  r : blk W (w.heap.size + 1) z10 35
  q : blk W (w.heap.size + 1 + 1) gv 35
  b : Below w.heap.size w W
theorem gS.z {w W : World} {hv gv : List Value} (h : gS w hv gv W) : w.heap.size + 3 ≤ W.heap.size := h.q.lt
theorem gS.below {w W W' : World} {hv gv : List Value} (h : gS w hv gv W) (hb : Below W.heap.size W W') : gS w hv gv W' := ⟨h.p.below hb, h.r.below hb, h.q.below hb, h.b.trans (hb.mono h.b.size)⟩
theorem gS.grown {w W W' : World} {hv gv : List Value} {g : Nat} (h : gS w hv gv W) (hg : W.grownBy W' (some g)) (h3 : w.heap.size + 3 ≤ g) : gS w hv gv W' := by
  have hz := h.z
  exact ⟨h.p.kept (hg.block _ (by omega) (by intro e; cases e; omega)), h.r.kept (hg.block _ (by omega) (by intro e; cases e; omega)), h.q.kept (hg.block _ (by omega) (by intro e; cases e; omega)), h.b.grown hg (by omega) (by intro k e; cases e; omega)⟩
theorem gS.set {w W : World} {hv gv : List Value} (h : gS w hv gv W) (o : Nat) (v : Value) : gS w hv (gv.set o v) (W.setCell ⟨w.heap.size + 1 + 1, o, none⟩ v) :=
  ⟨h.p.setOther (by omega) _ _, h.r.setOther (by omega) _ _, h.q.set _ _, h.b.setCell (by show _ ≤ _ + _ + _; omega) _⟩
/-- what stays in the draws of l3copy's loops -/
structure hS (w : World) (hv : List Value) (W : World) : Prop where
  p : blk W w.heap.size hv 35
  b : Below w.heap.size w W
theorem gS.hs {w W : World} {hv gv : List Value} (h : gS w hv gv W) : hS w hv W := ⟨h.p, h.b⟩
/-- the blocks from B on that W has are the same in W' -/
structure Kp (B : Nat) (W W' : World) : Prop where
  same : ∀ b, B ≤ b → b < W.heap.size → W'.heap[b]? = W.heap[b]?
  size : W.heap.size ≤ W'.heap.size
theorem Kp.refl (B : Nat) (W : World) : Kp B W W := ⟨fun _ _ _ => rfl, Nat.le_refl _⟩
theorem Kp.below {B : Nat} {W W' W'' : World} (h : Kp B W W') (hb : Below W'.heap.size W' W'') : Kp B W W'' := ⟨fun b h1 h2 => (hb.block b (Nat.lt_of_lt_of_le h2 h.size)).trans (h.same b h1 h2), Nat.le_trans h.size hb.size⟩
theorem Kp.grown {B : Nat} {W W' W'' : World} {g : Nat} (h : Kp B W W') (hg : W'.grownBy W'' (some g)) (hw : W.heap.size ≤ g) : Kp B W W'' := ⟨fun b h1 h2 => (hg.block b (Nat.lt_of_lt_of_le h2 h.size) (by intro e; cases e; omega)).trans (h.same b h1 h2), Nat.le_trans h.size hg.size⟩
theorem Kp.set {B : Nat} {W W' : World} (h : Kp B W W') (b o : Nat) (hb : b < B) (v : Value) : Kp B W (W'.setCell ⟨b, o, none⟩ v) := ⟨fun k h1 h2 => (heap_setCell_other _ _ _ _ (by show k ≠ b; omega)).trans (h.same k h1 h2), by simpa using h.size⟩
theorem range_below {w W : World} {g o : Nat} {l : List Value} (h : w.rangeAt g o l) (hb : Below w.heap.size w W) (hg : g < w.heap.size) : W.rangeAt g o l := fun j v hv => (hb.cell (by exact hg)).trans (h j v hv)
end Go.Proofs.YtaamahohdnbpiaaGreat
