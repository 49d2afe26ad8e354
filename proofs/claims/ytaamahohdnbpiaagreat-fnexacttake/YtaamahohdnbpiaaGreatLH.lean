import Derived.Test.YtaamahohdnbpiaaGreatLG
namespace Go.Proofs.YtaamahohdnbpiaaGreat
open Go.RowKit
set_option linter.unusedVariables false
/-- box k goes ahead of the waiting ones among the first v -/
def aheadK (bx : List R8) (k v : Nat) : Prop := ∀ (hk : k < bx.length) j (hj : j < bx.length), j < v → j ≠ k → bx[j].x = 1 → befS bx[k] bx[j] = true
theorem aheadK_succ {bx : List R8} {k v : Nat} (hk : k < bx.length) (hv : v < bx.length) : aheadK bx k (v + 1) ↔ (aheadK bx k v ∧ (v ≠ k → bx[v].x = 1 → befS bx[k] bx[v] = true)) := by
  constructor
  · intro h
    exact ⟨fun hk j hj hjv => h hk j hj (by omega), h hk v hv (by omega)⟩
  · rintro ⟨h1, h2⟩ hk j hj hjv
    by_cases e : j = v
    · subst e; exact h2
    · exact h1 hk j hj (by omega)
theorem aheadK_end {bx : List R8} {k v : Nat} (hk : k < bx.length) (hv : bx.length ≤ v) (hx : bx[k].x = 1) : aheadK bx k v ↔ isBest bx k :=
  ⟨fun h => ⟨hk, hx, fun j hj hne hw => h hk j hj (by omega) hne hw⟩, fun ⟨_, _, h⟩ hk j hj _ hne hw => h j hj hne hw⟩
set_option maxHeartbeats 4000000 in
set_option maxRecDepth 20000 in
/-- spec.l3best -/
theorem l3best_any (w : World) (H : Ho) (s : Sl) (h : isR8s w s.a2 s.n2 s.k2 H.bx) (hn : s.n2 ≤ 8) :
    Calls Tryz.prog 77 #[hoV H s] w fun o w' => ∃ r : Int, o = .returned (.int .i64 r) ∧ bestR H.bx r ∧ Below w.heap.size w w' := by
  have H0 : Hid (obS w H s (w.alloc (.cells (hoL H s).toArray 35))) := ⟨blk.new w _ 35, (Below.refl _ _).alloc (Nat.le_refl _) _⟩
  have hcp := h.cap
  have HB := fun W (hW : Below w.heap.size w W) i j hi hj => l3before_any W H s (h.below hW) hn i j hi hj
  obtain ⟨c0, c1, c2, c3, fs, bx, ff, qu, lo, st⟩ := H
  obtain ⟨a1, n1, k1, a2, n2, k2, a3, n3, k3, a4, n4, k4⟩ := s
  simp only [] at h hcp hn HB ⊢
  have HB : Hid _ := HB
  have HL : Hid (n2 = bx.length) := h.len
  by_cases hl : bx = []
  · subst hl
    have hn0 : n2 = 0 := HL.out
    subst hn0
    clear h HB
    go_enter Tryz.func77, Tryz.ntmps77
    go_wp2_with fail
    go_loopw [3] (fun i wr => i = .int .i64 0 ∧ obS w ⟨c0, c1, c2, c3, fs, [], ff, qu, lo, st⟩ ⟨a1, n1, k1, a2, 0, k2, a3, n3, k3, a4, n4, k4⟩ wr) (fun _ _ => 0)
    case atStart => exact ⟨rfl, H0.out⟩
    case round =>
      obtain ⟨rfl, hS⟩ := hrel
      have p5 := hS.p.cell 5 _ rfl
      have HS := hS.b
      go_wp2
      go_ret
      exact ⟨-1, rfl, Or.inl ⟨rfl, fun i hb => by obtain ⟨hi, _⟩ := hb; cases hi⟩, HS⟩
  obtain ⟨g, off, rfl, hc⟩ := h.cells hl
  have HC : Hid (∀ j (h : j < bx.length), ∃ ao m c, at8 w g (off + j * 8) bx[j] ao m c) := hc
  clear hc h hl
  go_enter Tryz.func77, Tryz.ntmps77
  go_wp2_with fail
  go_loopw [3] (fun i wr => ∃ k : Nat, k ≤ n2 ∧ i = .int .i64 (k : Int) ∧ (∀ j, j < k → ¬ isBest bx j) ∧ obS w ⟨c0, c1, c2, c3, fs, bx, ff, qu, lo, st⟩ ⟨a1, n1, k1, some ⟨g, off, none⟩, n2, k2, a3, n3, k3, a4, n4, k4⟩ wr) (fun i _ => n2 - (intOf i).toNat)
  case atStart => exact ⟨0, Nat.zero_le _, rfl, fun j h => absurd h (Nat.not_lt_zero _), H0.out⟩
  case round =>
    obtain ⟨k, hk, rfl, hA, hS⟩ := hrel
    have HA : Hid (∀ j, j < k → ¬ isBest bx j) := hA
    have HS : Hid (obS w ⟨c0, c1, c2, c3, fs, bx, ff, qu, lo, st⟩ ⟨a1, n1, k1, some ⟨g, off, none⟩, n2, k2, a3, n3, k3, a4, n4, k4⟩ wr) := hS
    have x5 := hS.p.cell 5 _ rfl
    clear hA hS
    by_cases hlt : k < n2
    · have hkl : k < bx.length := by have := HL.out; omega
      obtain ⟨ao, m, c, hx⟩ := HC.out k hkl
      have u0 := (hx.below HS.out.b).c0
      clear hx
      by_cases hx1 : bx[k].x = 1
      · rw [hx1] at u0
        have HX1 : Hid (bx[k].x = 1) := hx1
        clear hx1
        go_wp2_with fail
        clear x5 u0
        go_loopw [4, 5] (fun q j wi => ∃ (v : Nat) (b : Bool), v ≤ n2 ∧ q = .bool b ∧ j = .int .i64 (v : Int) ∧ (b = true ↔ aheadK bx k v) ∧ obS w ⟨c0, c1, c2, c3, fs, bx, ff, qu, lo, st⟩ ⟨a1, n1, k1, some ⟨g, off, none⟩, n2, k2, a3, n3, k3, a4, n4, k4⟩ wi) (fun _ j _ => n2 - (intOf j).toNat)
        case atStart => exact ⟨0, true, Nat.zero_le _, rfl, rfl, ⟨fun _ _ j hj h => absurd h (Nat.not_lt_zero _), fun _ => rfl⟩, HS.out⟩
        case round =>
          obtain ⟨v, b, hv, rfl, rfl, hq, hS⟩ := hrel
          have HQ : Hid (b = true ↔ aheadK bx k v) := hq
          clear HS
          have HS : Hid (obS w ⟨c0, c1, c2, c3, fs, bx, ff, qu, lo, st⟩ ⟨a1, n1, k1, some ⟨g, off, none⟩, n2, k2, a3, n3, k3, a4, n4, k4⟩ wr) := hS
          have x5 := hS.p.cell 5 _ rfl
          clear hq hS
          by_cases hvn : v < n2
          · have hvl : v < bx.length := by have := HL.out; omega
            have HSU : Hid (aheadK bx k (v + 1) ↔ (aheadK bx k v ∧ (v ≠ k → bx[v].x = 1 → befS bx[k] bx[v] = true))) := aheadK_succ hkl hvl
            have HCB : Hid (Calls Tryz.prog 141 #[.agg (hoL ⟨c0, c1, c2, c3, fs, bx, ff, qu, lo, st⟩ ⟨a1, n1, k1, some ⟨g, off, none⟩, n2, k2, a3, n3, k3, a4, n4, k4⟩).toArray, .int .i64 (k : Int), .int .i64 (v : Int)] wr fun o w' => o = .returned (.bool (befS bx[k] bx[v])) ∧ Below wr.heap.size wr w') := HB.out wr HS.out.b k v hkl hvl
            obtain ⟨ao, m, c, hx⟩ := HC.out v hvl
            have u0 := (hx.below HS.out.b).c0
            clear hx
            generalize bx[v].x = xv at *
            generalize befS bx[k] bx[v] = bf at *
            by_cases hvk : v = k
            · have HQ2 : Hid (b = true ↔ aheadK bx k (v + 1)) := HQ.out.trans (HSU.out.trans ⟨fun h => h.1, fun h => ⟨h, fun hne => absurd hvk hne⟩⟩).symm
              have hvk' : ((v : Int) == (k : Int)) = true := by simp; omega
              subst hvk
              clear HCB HSU HQ
              go_wp2_with fail
              go_roundw
              case rel => exact ⟨v + 1, b, by omega, rfl, by go_num, HQ2.out, HS.out⟩
              case measure => simp [intOf]; omega
            · have hvk' : ((v : Int) == (k : Int)) = false := by simp; omega
              by_cases hxv : xv = 1
              · subst hxv
                have HR0 := HS.out.p.load
                have HR0 : Hid (wr.rangeAt w.heap.size 0 (hoL ⟨c0, c1, c2, c3, fs, bx, ff, qu, lo, st⟩ ⟨a1, n1, k1, some ⟨g, off, none⟩, n2, k2, a3, n3, k3, a4, n4, k4⟩)) := HR0
                cases bf with
                | true =>
                  have HQ2 : Hid (b = true ↔ aheadK bx k (v + 1)) := HQ.out.trans (HSU.out.trans ⟨fun h => h.1, fun h => ⟨h, fun _ _ => rfl⟩⟩).symm
                  clear HSU HQ
                  go_wp2_with (first
                    | (refine wpList_load_midG (by simp [Region.wanted, yielded]; omega) 35 _ rfl w.heap.size 0 rfl _ _ HR0.out Tryz.underlying35 rfl (sz41L _ _) ?_)
                    | (go_at_call 141; refine HCB.out.mono ?_; rintro o w4 ⟨rfl, hb4⟩))
                  have HS4 := HS.out.below hb4
                  go_roundw
                  case rel => exact ⟨v + 1, b, by omega, rfl, by go_num, HQ2.out, HS4⟩
                  case measure => simp [intOf]; omega
                | false =>
                  have HQ2 : Hid (false = true ↔ aheadK bx k (v + 1)) := ⟨fun h => absurd h (by decide), fun h => (HSU.out.1 h).2 hvk rfl⟩
                  clear HSU HQ
                  go_wp2_with (first
                    | (refine wpList_load_midG (by simp [Region.wanted, yielded]; omega) 35 _ rfl w.heap.size 0 rfl _ _ HR0.out Tryz.underlying35 rfl (sz41L _ _) ?_)
                    | (go_at_call 141; refine HCB.out.mono ?_; rintro o w4 ⟨rfl, hb4⟩))
                  have HS4 := HS.out.below hb4
                  go_roundw
                  case rel => exact ⟨v + 1, false, by omega, rfl, by go_num, HQ2.out, HS4⟩
                  case measure => simp [intOf]; omega
              · have HQ2 : Hid (b = true ↔ aheadK bx k (v + 1)) := HQ.out.trans (HSU.out.trans ⟨fun h => h.1, fun h => ⟨h, fun _ hw => absurd hw hxv⟩⟩).symm
                have hxv' : (xv == 1) = false := by simpa using hxv
                clear HCB HSU HQ
                go_wp2_with fail
                go_roundw
                case rel => exact ⟨v + 1, b, by omega, rfl, by go_num, HQ2.out, HS.out⟩
                case measure => simp [intOf]; omega
          · have HF : Hid (b = true ↔ isBest bx k) := HQ.out.trans (aheadK_end hkl (by have := HL.out; omega) HX1.out)
            cases b with
            | true =>
              go_wp2
              go_ret
              exact ⟨k, rfl, Or.inr ⟨k, rfl, HF.out.1 (by trivial)⟩, HS.out.b⟩
            | false =>
              have HA2 : Hid (∀ j, j < k + 1 → ¬ isBest bx j) := fun j hj hb => by
                by_cases e : j = k
                · subst e; exact absurd (HF.out.2 hb) (by decide)
                · exact HA.out j (by omega) hb
              go_wp2
              go_roundw
              case rel => exact ⟨k + 1, by omega, by go_num, HA2.out, HS.out⟩
              case measure => simp [intOf]; omega
      · have HA2 : Hid (∀ j, j < k + 1 → ¬ isBest bx j) := fun j hj hb => by
          by_cases e : j = k
          · subst e; obtain ⟨_, h1, _⟩ := hb; exact hx1 h1
          · exact HA.out j (by omega) hb
        have hx1' : (bx[k].x == 1) = false := by simpa using hx1
        generalize bx[k].x = xk at *
        clear hx1
        go_wp2
        go_roundw
        case rel => exact ⟨k + 1, by omega, by go_num, HA2.out, HS.out⟩
        case measure => simp [intOf]; omega
    · have HF : Hid (∀ i, ¬ isBest bx i) := fun i hb => HA.out i (by obtain ⟨hi, _⟩ := hb; have := HL.out; omega) hb
      go_wp2
      go_ret
      exact ⟨-1, rfl, Or.inl ⟨rfl, HF.out⟩, HS.out.b⟩
end Go.Proofs.YtaamahohdnbpiaaGreat
