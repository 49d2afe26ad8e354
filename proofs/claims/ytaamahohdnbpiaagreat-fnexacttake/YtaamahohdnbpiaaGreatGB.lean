import Derived.Test.YtaamahohdnbpiaaGreatHN
import Derived.Shelf.SlicesE.Clone
namespace Go.Proofs.YtaamahohdnbpiaaGreat
open Go.RowKit
/-- a config in its ranges -/
def okCf (a b c d : Int) : Bool := decide (1 ≤ a ∧ a ≤ 8 ∧ 1 ≤ b ∧ b ≤ 16 ∧ 0 ≤ c ∧ c ≤ 1 ∧ 1 ≤ d ∧ d ≤ 32)
theorem okCf_yes {a b c d : Int} (h : 1 ≤ a ∧ a ≤ 8 ∧ 1 ≤ b ∧ b ≤ 16 ∧ 0 ≤ c ∧ c ≤ 1 ∧ 1 ≤ d ∧ d ≤ 32) : okCf a b c d = true := decide_eq_true h
theorem okCf_no {a b c d : Int} (h : ¬ (1 ≤ a ∧ a ≤ 8 ∧ 1 ≤ b ∧ b ≤ 16 ∧ 0 ≤ c ∧ c ≤ 1 ∧ 1 ≤ d ∧ d ≤ 32)) : okCf a b c d = false := decide_eq_false h
theorem inRange_any (w : World) (v l m : Int) : Calls Tryz.prog 115 #[.int .i64 v, .int .i64 l, .int .i64 m] w fun o w' => o = .returned (.bool (decide (l ≤ v ∧ v ≤ m))) ∧ w = w' := by
  have HD : Hid (∀ b : Bool, (b = true ↔ (l ≤ v ∧ v ≤ m)) → b = decide (l ≤ v ∧ v ≤ m)) := fun b h => by rw [Bool.eq_iff_iff, h]; simp
  generalize decide (l ≤ v ∧ v ≤ m) = R at *
  go_enter Tryz.func115, Tryz.ntmps115
  go_wp2
  all_goals
    go_ret
    refine ⟨ret_bool (HD.out _ ?_), rfl⟩
    simp
    try omega
set_option maxHeartbeats 1000000 in
theorem l3okConfig_any (w : World) (a b c d : Int) : Calls Tryz.prog 69 #[cfV a b c d] w fun o w' => o = .returned (.bool (okCf a b c d)) ∧ Below w.heap.size w w' := by
  go_enter Tryz.func69, Tryz.ntmps69
  go_wp2
  all_goals
    go_ret
    refine ⟨ret_bool ?_, (Below.refl _ _).alloc (Nat.le_refl _) _⟩
    unfold okCf
    rw [Bool.eq_iff_iff]
    simp
    try omega
set_option maxHeartbeats 1000000 in
theorem validConfig_any (w : World) (a b c d : Int) : Calls Tryz.prog 53 #[cfV a b c d] w fun o w' => o = .returned (.bool (okCf a b c d)) ∧ Below w.heap.size w w' := by
  go_enter Tryz.func53, Tryz.ntmps53
  go_wp2_with (first | (go_at_call 115; refine (inRange_any _ _ _ _).mono ?_; rintro o w1 ⟨rfl, rfl⟩))
  all_goals
    go_ret
    refine ⟨ret_bool ?_, (Below.refl _ _).alloc (Nat.le_refl _) _⟩
    unfold okCf
    rw [Bool.eq_iff_iff]
    simp
    try omega
/-- a filter in its ranges -/
def okFl (x : R3) : Bool := decide (x.m < (if x.e = true then 536870912 else 2048)) && decide (x.k < (if x.e = true then 536870912 else 2048))
set_option maxHeartbeats 1000000 in
theorem wrongFilter_any (w : World) (x : R3) : Calls Tryz.prog 117 #[flV x.e x.m x.k] w fun o w' => o = .returned (.bool (!okFl x)) ∧ Below w.heap.size w w' := by
  obtain ⟨e, m, k⟩ := x
  cases e
  · have HD : Hid (∀ b : Bool, (b = true ↔ ¬ (m < 2048 ∧ k < 2048)) → b = !okFl ⟨false, m, k⟩) := fun b h => by rw [Bool.eq_iff_iff, h]; simp [okFl]; omega
    generalize okFl ⟨false, m, k⟩ = R at *
    go_enter Tryz.func117, Tryz.ntmps117
    go_wp2
    all_goals
      go_ret
      refine ⟨ret_bool (HD.out _ ?_), (Below.refl _ _).alloc (Nat.le_refl _) _⟩
      simp
      try omega
  · have HD : Hid (∀ b : Bool, (b = true ↔ ¬ (m < 536870912 ∧ k < 536870912)) → b = !okFl ⟨true, m, k⟩) := fun b h => by rw [Bool.eq_iff_iff, h]; simp [okFl]; omega
    generalize okFl ⟨true, m, k⟩ = R at *
    go_enter Tryz.func117, Tryz.ntmps117
    go_wp2
    all_goals
      go_ret
      refine ⟨ret_bool (HD.out _ ?_), (Below.refl _ _).alloc (Nat.le_refl _) _⟩
      simp
      try omega
end Go.Proofs.YtaamahohdnbpiaaGreat
namespace Go.Proofs.YtaamahohdnbpiaaGreat
open Go.RowKit
/-- where the look at the filters stands behind k of them -/
theorem all_snoc {bs : List R3} {k : Nat} (hk : k < bs.length) (h : ∀ j (hj : j < bs.length), j < k → okFl bs[j] = true) (h1 : okFl bs[k] = true) : ∀ j (hj : j < bs.length), j < k + 1 → okFl bs[j] = true := by
  intro j hj h2
  by_cases e : j = k
  · subst e; exact h1
  · exact h j hj (by omega)
theorem all_yes {bs : List R3} {k : Nat} (hk : bs.length ≤ k) (h : ∀ j (hj : j < bs.length), j < k → okFl bs[j] = true) : bs.all okFl = true := by
  rw [List.all_eq_true]
  intro x hx
  obtain ⟨j, hj, rfl⟩ := List.getElem_of_mem hx
  exact h j hj (by omega)
theorem all_no {bs : List R3} {k : Nat} (hk : k < bs.length) (h1 : okFl bs[k] = false) : bs.all okFl = false := by
  rw [List.all_eq_false]
  exact ⟨bs[k], List.getElem_mem hk, by rw [h1]; simp⟩
set_option maxHeartbeats 2000000 in
theorem indexFunc_any (w : World) (a : Option Addr) (n cap : Nat) (bs : List R3) (h : isR3s w a n cap bs) (hn : n ≤ 1048576) :
    Calls Tryz.prog 159 #[.slice a n cap, .func (.func 117) #[] #[]] w fun o w' => ∃ z : Int, o = .returned (.int .i64 z) ∧ decide (0 ≤ z) = !bs.all okFl ∧ Below w.heap.size w w' := by
  have hlen := h.len
  have hcp := h.cap
  by_cases hl : bs = []
  · subst hl
    have hn0 : n = 0 := hlen
    subst hn0
    clear hlen h
    go_enter Tryz.func159, Tryz.ntmps159
    go_wp2
    go_loopw [8] (fun i wr => i = .int .i64 0 ∧ wr = w) (fun _ _ => 0)
    case atStart => exact ⟨rfl, rfl⟩
    case round =>
      obtain ⟨rfl, rfl⟩ := hrel
      go_wp2
      go_ret
      exact ⟨-1, rfl, rfl, Below.refl _ _⟩
  · obtain ⟨g, off, rfl, hc⟩ := h.cells hl
    have HL : Hid (n = bs.length) := hlen
    have HC : Hid (∀ j (h : j < bs.length), at3 w g (off + j * 3) bs[j]) := hc
    have hgz : g < w.heap.size := World.block_lt_of_cell? w _ (hc 0 (List.length_pos_iff.2 hl)).c0
    clear h hlen hc
    go_enter Tryz.func159, Tryz.ntmps159
    go_wp2
    go_loopw [8] (fun i wr => ∃ k : Nat, k ≤ n ∧ i = .int .i64 (k : Int) ∧ (∀ j (hj : j < bs.length), j < k → okFl bs[j] = true) ∧ Below w.heap.size w wr) (fun i _ => n - (intOf i).toNat)
    case atStart => exact ⟨0, Nat.zero_le _, rfl, fun j hj h => absurd h (Nat.not_lt_zero _), Below.refl _ _⟩
    case round =>
      obtain ⟨k, hk, rfl, hdone, hb⟩ := hrel
      by_cases hlt : k < n
      · have hkl : k < bs.length := by have := HL.out; omega
        have hx := HC.out k hkl
        have x0 := (hb.cell (by exact hgz)).trans hx.c0
        have x1 := (hb.cell (by exact hgz)).trans hx.c1
        have x2 := (hb.cell (by exact hgz)).trans hx.c2
        have HB : Hid (Below w.heap.size w wr) := hb
        have HD : Hid (∀ j (hj : j < bs.length), j < k → okFl bs[j] = true) := hdone
        have HW : Hid (∀ W, Calls Tryz.prog 117 #[flV bs[k].e bs[k].m bs[k].k] W fun o w' => o = .returned (.bool (!okFl bs[k])) ∧ Below W.heap.size W w') := fun W => wrongFilter_any W bs[k]
        clear hx hb hdone
        cases hok : okFl bs[k]
        · have HN : Hid (bs.all okFl = false) := all_no hkl hok
          rw [hok] at HW
          clear hok
          generalize bs[k].e = e0 at *
          generalize bs[k].m = m0 at *
          generalize bs[k].k = k0 at *
          go_wp2_with (first | (go_at_call 117; refine (HW.out _).mono ?_; rintro o w5 ⟨rfl, hb5⟩))
          go_ret
          exact ⟨_, rfl, by rw [HN.out]; simp, HB.out.trans (hb5.mono HB.out.size)⟩
        · have HN : Hid (∀ j (hj : j < bs.length), j < k + 1 → okFl bs[j] = true) := all_snoc hkl HD.out hok
          rw [hok] at HW
          clear hok
          generalize bs[k].e = e0 at *
          generalize bs[k].m = m0 at *
          generalize bs[k].k = k0 at *
          go_wp2_with (first | (go_at_call 117; refine (HW.out _).mono ?_; rintro o w5 ⟨rfl, hb5⟩))
          go_roundw
          case rel => exact ⟨k + 1, by omega, by go_num, HN.out, HB.out.trans (hb5.mono HB.out.size)⟩
          case measure => simp [intOf]; omega
      · have HN : Hid (bs.all okFl = true) := all_yes (by have := HL.out; omega) hdone
        clear hdone
        go_wp2
        go_ret
        exact ⟨_, rfl, by rw [HN.out]; simp, hb⟩
theorem containsFunc_any (w : World) (a : Option Addr) (n cap : Nat) (bs : List R3) (h : isR3s w a n cap bs) (hn : n ≤ 1048576) :
    Calls Tryz.prog 116 #[.slice a n cap, .func (.func 117) #[] #[]] w fun o w' => o = .returned (.bool (!bs.all okFl)) ∧ Below w.heap.size w w' := by
  have HI : Hid (Calls Tryz.prog 159 #[.slice a n cap, .func (.func 117) #[] #[]] w fun o w' => ∃ z : Int, o = .returned (.int .i64 z) ∧ decide (0 ≤ z) = !bs.all okFl ∧ Below w.heap.size w w') := indexFunc_any w a n cap bs h hn
  clear h
  go_enter Tryz.func116, Tryz.ntmps116
  go_wp2_with (first | (go_at_call 159; refine HI.out.mono ?_; rintro o w5 ⟨z, rfl, hz, hb5⟩; have HZ : Hid (decide (0 ≤ z) = !bs.all okFl) := hz; clear hz))
  go_ret
  exact ⟨ret_bool HZ.out, hb5⟩
def okFs (bs : List R3) : Bool := decide (bs.length ≤ 16) && bs.all okFl
theorem validFilters_any (w : World) (a : Option Addr) (n cap : Nat) (bs : List R3) (h : isR3s w a n cap bs) (hn : n ≤ 1048576) :
    Calls Tryz.prog 54 #[.slice a n cap] w fun o w' => o = .returned (.bool (okFs bs)) ∧ Below w.heap.size w w' := by
  have hl := h.len
  have HI : Hid (Calls Tryz.prog 116 #[.slice a n cap, .func (.func 117) #[] #[]] w fun o w' => o = .returned (.bool (!bs.all okFl)) ∧ Below w.heap.size w w') := containsFunc_any w a n cap bs h hn
  clear h
  by_cases h16 : n ≤ 16
  · have HD : Hid (okFs bs = bs.all okFl) := by unfold Hid okFs; rw [show decide (bs.length ≤ 16) = true from decide_eq_true (by omega)]; simp
    have hd : decide ((n : Int) ≤ 16) = true := by simp; omega
    clear hl
    have hmf : ∀ (fn : Fn) (first cap : Array Value) (w : World), (Instr.makeFunc fn first cap).run Tryz.prog w = .ok (.func fn first cap) w := fun _ _ _ _ => rfl
    go_enter Tryz.func54, Tryz.ntmps54
    go_wp2_with (first | (go_at_call 116; refine HI.out.mono ?_; rintro o w5 ⟨rfl, hb5⟩))
    go_ret
    exact ⟨ret_bool (by rw [HD.out]; try simp), hb5⟩
  · have HD : Hid (okFs bs = false) := by unfold Hid okFs; rw [show decide (bs.length ≤ 16) = false from decide_eq_false (by omega)]; rfl
    have hd : decide ((n : Int) ≤ 16) = false := by simp; omega
    clear hl
    go_enter Tryz.func54, Tryz.ntmps54
    go_wp2
    go_ret
    exact ⟨ret_bool HD.out.symm, Below.refl _ _⟩
end Go.Proofs.YtaamahohdnbpiaaGreat
namespace Go.Proofs.YtaamahohdnbpiaaGreat
open Go.RowKit
theorem below_q {B : Nat} (w : World) (q : Nat) : Below B w (w.drewN q) := below_drewN (Below.refl _ _) q
theorem okFl_iff (x : R3) : okFl x = true ↔ (x.m < (if x.e = true then 536870912 else 2048) ∧ x.k < (if x.e = true then 536870912 else 2048)) := by simp [okFl]
set_option maxHeartbeats 4000000 in
theorem l3okFilters_any (w : World) (a : Option Addr) (n cap : Nat) (bs : List R3) (h : isR3s w a n cap bs) (hn : n ≤ 1048576) :
    Calls Tryz.prog 70 #[.slice a n cap] w fun o w' => o = .returned (.bool (okFs bs)) ∧ Below w.heap.size w w' := by
  have hlen := h.len
  have hcp := h.cap
  by_cases h16 : n ≤ 16
  · have HF : Hid (okFs bs = bs.all okFl) := by unfold Hid okFs; rw [show decide (bs.length ≤ 16) = true from decide_eq_true (by omega)]; simp
    have hd : decide ((16 : Int) < (n : Int)) = false := by simp; omega
    by_cases hl : bs = []
    · subst hl
      have hn0 : n = 0 := hlen
      subst hn0
      clear hlen h
      go_enter Tryz.func70, Tryz.ntmps70
      go_wp2
      go_loopw [3, 4] (fun i _ wr => i = .int .i64 0 ∧ wr = w) (fun _ _ _ => 0)
      case atStart => exact ⟨rfl, rfl⟩
      case round =>
        obtain ⟨rfl, rfl⟩ := hrel
        go_wp2
        go_ret
        exact ⟨ret_bool HF.out.symm, Below.refl _ _⟩
    · obtain ⟨g, off, rfl, hc⟩ := h.cells hl
      have HL : Hid (n = bs.length) := hlen
      have HC : Hid (∀ j (h : j < bs.length), at3 w g (off + j * 3) bs[j]) := hc
      clear h hlen hc
      go_enter Tryz.func70, Tryz.ntmps70
      go_wp2
      go_loopw [3, 4] (fun i _ wr => ∃ k : Nat, k ≤ n ∧ i = .int .i64 (k : Int) ∧ (∀ j (hj : j < bs.length), j < k → okFl bs[j] = true) ∧ ∃ q, wr = w.drewN q) (fun i _ _ => n - (intOf i).toNat)
      case atStart => exact ⟨0, Nat.zero_le _, rfl, fun j hj h => absurd h (Nat.not_lt_zero _), 0, rfl⟩
      case round =>
        obtain ⟨k, hk, rfl, hdone, q, rfl⟩ := hrel
        have HD : Hid (∀ j (hj : j < bs.length), j < k → okFl bs[j] = true) := hdone
        clear hdone
        by_cases hlt : k < n
        · have hkl : k < bs.length := by have := HL.out; omega
          have hx := HC.out k hkl
          have hgz := World.block_lt_of_cell? w _ hx.c0
          have x0 := ((below_q (B := w.heap.size) w q).cell (by exact hgz)).trans hx.c0
          have x1 := ((below_q (B := w.heap.size) w q).cell (by exact hgz)).trans hx.c1
          have x2 := ((below_q (B := w.heap.size) w q).cell (by exact hgz)).trans hx.c2
          have HY : Hid (okFl bs[k] = true → ∀ j (hj : j < bs.length), j < k + 1 → okFl bs[j] = true) := fun h => all_snoc hkl HD.out h
          have HN : Hid (okFl bs[k] = false → bs.all okFl = false) := fun h => all_no hkl h
          have HO : Hid (okFl bs[k] = true ↔ (bs[k].m < (if bs[k].e = true then 536870912 else 2048) ∧ bs[k].k < (if bs[k].e = true then 536870912 else 2048))) := okFl_iff bs[k]
          clear hx
          generalize okFl bs[k] = R at *
          generalize bs[k].m = m0 at *
          generalize bs[k].k = k0 at *
          generalize hW : w.drewN q = W at *
          have HW : Hid (W = w.drewN q) := hW.symm
          clear hW
          cases he : bs[k].e
          · rw [he] at x0 HO
            clear he
            by_cases hm : m0 < 2048
            · have hdm : decide (2048 ≤ m0) = false := by simp; omega
              by_cases hk0 : k0 < 2048
              · have hdk : decide (2048 ≤ k0) = false := by simp; omega
                have HR : Hid (R = true) := HO.out.2 (by simp; omega)
                go_wp2
                go_roundw
                case rel => exact ⟨k + 1, by omega, by go_num, HY.out HR.out, q, HW.out⟩
                case measure => simp [intOf]; omega
              · have hdk : decide (2048 ≤ k0) = true := by simp; omega
                have HR : Hid (R = false) := by cases hR : R with | false => exact rfl | true => exact absurd (HO.out.1 hR) (by simp; omega)
                go_wp2
                go_ret
                exact ⟨ret_bool (by rw [HF.out, HN.out HR.out]), by rw [HW.out]; exact below_q w q⟩
            · have hdm : decide (2048 ≤ m0) = true := by simp; omega
              have HR : Hid (R = false) := by cases hR : R with | false => exact rfl | true => exact absurd (HO.out.1 hR) (by simp; omega)
              go_wp2
              go_ret
              exact ⟨ret_bool (by rw [HF.out, HN.out HR.out]), by rw [HW.out]; exact below_q w q⟩
          · rw [he] at x0 HO
            clear he
            by_cases hm : m0 < 536870912
            · have hdm : decide (536870912 ≤ m0) = false := by simp; omega
              by_cases hk0 : k0 < 536870912
              · have hdk : decide (536870912 ≤ k0) = false := by simp; omega
                have HR : Hid (R = true) := HO.out.2 (by simp; omega)
                go_wp2
                go_roundw
                case rel => exact ⟨k + 1, by omega, by go_num, HY.out HR.out, q, HW.out⟩
                case measure => simp [intOf]; omega
              · have hdk : decide (536870912 ≤ k0) = true := by simp; omega
                have HR : Hid (R = false) := by cases hR : R with | false => exact rfl | true => exact absurd (HO.out.1 hR) (by simp; omega)
                go_wp2
                go_ret
                exact ⟨ret_bool (by rw [HF.out, HN.out HR.out]), by rw [HW.out]; exact below_q w q⟩
            · have hdm : decide (536870912 ≤ m0) = true := by simp; omega
              have HR : Hid (R = false) := by cases hR : R with | false => exact rfl | true => exact absurd (HO.out.1 hR) (by simp; omega)
              go_wp2
              go_ret
              exact ⟨ret_bool (by rw [HF.out, HN.out HR.out]), by rw [HW.out]; exact below_q w q⟩
        · have HA : Hid (bs.all okFl = true) := all_yes (by have := HL.out; omega) HD.out
          go_wp2
          go_ret
          exact ⟨ret_bool (by rw [HF.out, HA.out]), below_q w q⟩
  · have HF : Hid (okFs bs = false) := by unfold Hid okFs; rw [show decide (bs.length ≤ 16) = false from decide_eq_false (by omega)]; rfl
    have hd : decide ((16 : Int) < (n : Int)) = true := by simp; omega
    clear h hlen
    go_enter Tryz.func70, Tryz.ntmps70
    go_wp2
    go_ret
    exact ⟨ret_bool HF.out.symm, Below.refl _ _⟩
end Go.Proofs.YtaamahohdnbpiaaGreat
namespace Go.Proofs.YtaamahohdnbpiaaGreat
open Go.RowKit
/-- the filter that the marks from c on make -/
def mkF (c : Nat) : R3 := ⟨decide (c % 3 = 0), ((c + 1 : Nat) : Int), ((c + 2 : Nat) : Int)⟩
theorem mkF_row (C : Nat) : [Value.bool ((C : Int) % 3 == 0), .int .u32 ((C : Int) + 1), .int .u32 ((C : Int) + 1 + 1)] = [.bool (mkF C).e, .int .u32 (mkF C).m, .int .u32 (mkF C).k] := by
  have h1 : ((C : Int) % 3 == 0) = decide (C % 3 = 0) := by rw [Bool.eq_iff_iff]; simp; omega
  simp only [mkF, h1]
  congr 3
set_option maxHeartbeats 2000000 in
theorem markFilterS_any (w : World) (g n cap c : Nat) (hr : rowZ w g (n * 3)) (hcp : n ≤ cap) (hn : n ≤ 1048576) (hc : c ≤ 1000) :
    Calls Tryz.prog 96 #[.slice (some ⟨g, 0, none⟩) n cap, .int .i64 (c : Int)] w fun o w' => o = .returned (.int .i64 ((c + 3 * n : Nat) : Int)) ∧ (∀ j, j < n → at3 w' g (j * 3) (mkF (c + 3 * j))) ∧ rowZ w' g (n * 3) ∧ (∀ b, b ≠ g → w'.heap[b]? = w.heap[b]?) ∧ w'.heap.size = w.heap.size ∧ Below g w w' := by
  have HR : Hid (rowZ w g (n * 3)) := hr
  clear hr
  go_enter Tryz.func96, Tryz.ntmps96
  go_wp2
  go_loopw [1, 5] (fun kk i wr => ∃ k : Nat, k ≤ n ∧ i = .int .i64 (k : Int) ∧ kk = .int .i64 ((c + 3 * k : Nat) : Int) ∧ (∀ j, j < k → at3 wr g (j * 3) (mkF (c + 3 * j))) ∧ rowZ wr g (n * 3) ∧ (∀ b, b ≠ g → wr.heap[b]? = w.heap[b]?) ∧ wr.heap.size = w.heap.size ∧ Below g w wr) (fun _ i _ => n - (intOf i).toNat)
  case atStart => exact ⟨0, Nat.zero_le _, rfl, by go_num, fun j hj => absurd hj (Nat.not_lt_zero _), HR.out, fun _ _ => rfl, rfl, Below.refl _ _⟩
  case round =>
    obtain ⟨k, hk, rfl, rfl, hdone, hrow, hoth, hsz, hb⟩ := hrel
    by_cases hlt : k < n
    · obtain ⟨v0, z0⟩ := hrow.cell (k * 3) (by omega)
      obtain ⟨v1, z1⟩ := hrow.cell (k * 3 + 1) (by omega)
      obtain ⟨v2, z2⟩ := hrow.cell (k * 3 + 2) (by omega)
      have f0 := hrow.free (k * 3)
      have f1 := hrow.free (k * 3 + 1)
      have f2 := hrow.free (k * 3 + 2)
      have HD : Hid ((∀ j, j < k → at3 wr g (j * 3) (mkF (c + 3 * j))) ∧ rowZ wr g (n * 3) ∧ (∀ b, b ≠ g → wr.heap[b]? = w.heap[b]?) ∧ wr.heap.size = w.heap.size ∧ Below g w wr) := ⟨hdone, hrow, hoth, hsz, hb⟩
      clear hdone hrow hoth hsz hb
      generalize hC : c + 3 * k = C at *
      have HC : Hid (c + 3 * k = C) := hC
      have hC1 : C ≤ 4000000 := by omega
      clear hC
      have e3 : (C : Int).tmod 3 = ((C % 3 : Nat) : Int) := by rw [Int.tmod_eq_emod_of_nonneg (by omega)]; omega
      go_wp2
      obtain ⟨r1, r2, r3, r4, r5⟩ := HD.out
      have hC := HC.out
      refine ⟨⟨k + 1, by omega, by go_num, by rw [← hC]; go_num, fun j hj => ?_, r2.put [Value.bool ((C : Int) % 3 == 0), .int .u32 ((C : Int) + 1), .int .u32 ((C : Int) + 1 + 1)] (k * 3) (by simp; omega), fun b hb => (setRow_block g b hb [Value.bool ((C : Int) % 3 == 0), .int .u32 ((C : Int) + 1), .int .u32 ((C : Int) + 1 + 1)] wr (k * 3)).trans (r3 b hb), (setRow_size g [Value.bool ((C : Int) % 3 == 0), .int .u32 ((C : Int) + 1), .int .u32 ((C : Int) + 1 + 1)] wr (k * 3)).trans r4, setRow_below g g (Nat.le_refl _) w [Value.bool ((C : Int) % 3 == 0), .int .u32 ((C : Int) + 1), .int .u32 ((C : Int) + 1 + 1)] wr (k * 3) r5⟩, by simp [intOf]; omega⟩
      by_cases e : j = k
      · subst e
        have := at3.new r2 (j * 3) (by omega) (mkF C)
        rw [← mkF_row] at this
        rw [hC]
        exact this
      · exact (r1 j (by omega)).keep [Value.bool ((C : Int) % 3 == 0), .int .u32 ((C : Int) + 1), .int .u32 ((C : Int) + 1 + 1)] (k * 3) (by simp; omega)
    · have hkn : k = n := by omega
      subst hkn
      go_wp2
      go_ret
      exact ⟨rfl, hdone, hrow, hoth, hsz, hb⟩
set_option maxHeartbeats 2000000 in
theorem heldFilterS_any (w : World) (g n cap c : Nat) (hr : ∀ j, j < n → at3 w g (j * 3) (mkF (c + 3 * j))) (hcp : n ≤ cap) (hn : n ≤ 1048576) (hc : c ≤ 1000) :
    Calls Tryz.prog 100 #[.slice (some ⟨g, 0, none⟩) n cap, .int .i64 (c : Int)] w fun o w' => o = .returned (.int .i64 ((c + 3 * n : Nat) : Int)) ∧ Below w.heap.size w w' := by
  have HR : Hid (∀ j, j < n → at3 w g (j * 3) (mkF (c + 3 * j))) := hr
  clear hr
  go_enter Tryz.func100, Tryz.ntmps100
  go_wp2
  go_loopw [1, 5] (fun kk i wr => ∃ k q : Nat, k ≤ n ∧ i = .int .i64 (k : Int) ∧ kk = .int .i64 ((c + 3 * k : Nat) : Int) ∧ wr = w.drewN q) (fun _ i _ => n - (intOf i).toNat)
  case atStart => exact ⟨0, 0, Nat.zero_le _, rfl, by go_num, rfl⟩
  case round =>
    obtain ⟨k, q, hk, rfl, rfl, rfl⟩ := hrel
    by_cases hlt : k < n
    · have hx := HR.out k hlt
      have hgz := World.block_lt_of_cell? w _ hx.c0
      have x0 := ((below_q (B := w.heap.size) w q).cell (by exact hgz)).trans hx.c0
      have x1 := ((below_q (B := w.heap.size) w q).cell (by exact hgz)).trans hx.c1
      have x2 := ((below_q (B := w.heap.size) w q).cell (by exact hgz)).trans hx.c2
      clear hx
      generalize hC : c + 3 * k = C at *
      have HC : Hid (c + 3 * k = C) := hC
      have hC1 : C ≤ 4000000 := by omega
      clear hC
      have e3 : (C : Int).tmod 3 = ((C % 3 : Nat) : Int) := by rw [Int.tmod_eq_emod_of_nonneg (by omega)]; omega
      have h1 : (mkF C).e = ((C : Int) % 3 == 0) := by rw [Bool.eq_iff_iff]; simp [mkF]; omega
      have h2 : (mkF C).m = (C : Int) + 1 := by simp [mkF]
      have h3 : (mkF C).k = (C : Int) + 1 + 1 := by simp [mkF]; omega
      rw [h1] at x0
      rw [h2] at x1
      rw [h3] at x2
      clear h1 h2 h3
      generalize hW : w.drewN q = W at *
      have HW : Hid (W = w.drewN q) := hW.symm
      clear hW
      go_wp2
      refine ⟨⟨k + 1, q, by omega, by go_num, by rw [← HC.out]; go_num, HW.out⟩, by simp [intOf]; omega⟩
    · have hkn : k = n := by omega
      subst hkn
      go_wp2
      go_ret
      exact ⟨rfl, below_q w q⟩
end Go.Proofs.YtaamahohdnbpiaaGreat
namespace Go.Proofs.YtaamahohdnbpiaaGreat
open Go.Shelf Go.RowKit
def Tryz.laysE41_ren : Go.Shelf.Ren := ⟨fun | 41 => 55 | n => n, fun | 22 => 30 | 23 => 85 | n => n, fun | n => n⟩
theorem Tryz.laysE41 : Go.Proofs.SlLaysE0.n41 Tryz.prog Tryz.laysE41_ren := {
  mixed := by kernel_rfl
  f41 := ⟨Tryz.f55.name, by kernel_rfl, Tryz.func55.trans (congrArg some (by kernel_rfl))⟩
  t4 := Tryz.underlying4
  a4 := Tryz.isAgg4
  z4 := Tryz.sizeOf4
  v4 := Tryz.zeroValue4
  t22 := Tryz.underlying30
  a22 := Tryz.isAgg30
  z22 := Tryz.sizeOf30
  v22 := Tryz.zeroValue30 }
/-- the cells of a row of filters -/
def c3 (bs : List R3) : List Value := bs.flatMap fun b => [.bool b.e, .int .u32 b.m, .int .u32 b.k]
theorem c3_len (bs : List R3) : (c3 bs).length = bs.length * 3 := by
  induction bs with
  | nil => rfl
  | cons b bs ih => simp only [c3, List.flatMap_cons, List.length_append, List.length_cons, List.length_nil] at ih ⊢; omega
theorem c3_at (bs : List R3) : ∀ j (h : j < bs.length), (c3 bs)[j * 3]? = some (.bool bs[j].e) ∧ (c3 bs)[j * 3 + 1]? = some (.int .u32 bs[j].m) ∧ (c3 bs)[j * 3 + 2]? = some (.int .u32 bs[j].k) := by
  induction bs with
  | nil => intro j h; exact absurd h (Nat.not_lt_zero _)
  | cons b bs ih =>
    intro j h
    cases j with
    | zero => exact ⟨rfl, rfl, rfl⟩
    | succ j =>
      have := ih j (by simpa using h)
      have e : ∀ t, (c3 (b :: bs))[(t + 3)]? = (c3 bs)[t]? := fun t => by simp [c3, List.flatMap_cons]
      have e0 : (j + 1) * 3 = j * 3 + 3 := by omega
      have e1 : (j + 1) * 3 + 1 = (j * 3 + 1) + 3 := by omega
      have e2 : (j + 1) * 3 + 2 = (j * 3 + 2) + 3 := by omega
      rw [e0, e, show j * 3 + 3 + 1 = (j * 3 + 1) + 3 by omega, e, show j * 3 + 3 + 2 = (j * 3 + 2) + 3 by omega, e]
      exact this
theorem c3_cell {w : World} {g n cap : Nat} {bs : List R3} (h : isR3s w (some ⟨g, 0, none⟩) n cap bs) (t : Nat) (u : Value) (hu : (c3 bs)[t]? = some u) : w.cell? ⟨g, 0 + t, none⟩ = some u := by
  have ht : t < bs.length * 3 := by
    have := (List.getElem?_eq_some_iff.mp hu).1
    rwa [c3_len] at this
  have hj : t / 3 < bs.length := by omega
  have hne : bs ≠ [] := by intro e; subst e; simp at hj
  obtain ⟨g', off, ha, hc⟩ := h.cells hne
  cases ha
  have x := hc (t / 3) hj
  obtain ⟨y0, y1, y2⟩ := c3_at bs (t / 3) hj
  have hr : t % 3 = 0 ∨ t % 3 = 1 ∨ t % 3 = 2 := by omega
  rcases hr with r | r | r
  · have e : t = t / 3 * 3 := by omega
    rw [← e] at y0
    have := x.c0
    rw [← e] at this
    rw [this, ← y0, hu]
  · have e : t = t / 3 * 3 + 1 := by omega
    rw [← e] at y1
    have := x.c1
    rw [Nat.add_assoc, ← e] at this
    rw [this, ← y1, hu]
  · have e : t = t / 3 * 3 + 2 := by omega
    rw [← e] at y2
    have := x.c2
    rw [Nat.add_assoc, ← e] at this
    rw [this, ← y2, hu]
theorem c3_one (bs : List R3) : ∀ u ∈ c3 bs, u.oneCell' = true := by
  intro u hu
  simp only [c3, List.mem_flatMap, List.mem_cons, List.not_mem_nil, or_false] at hu
  obtain ⟨b, _, rfl | rfl | rfl⟩ := hu <;> rfl
theorem clone_any (w : World) (g n cap : Nat) (bs : List R3) (h : isR3s w (some ⟨g, 0, none⟩) n cap bs) (hn : n ≤ 1048576) :
    Calls Tryz.prog 55 #[.slice (some ⟨g, 0, none⟩) n cap] w fun e w' => ∃ v', e = .returned v' ∧ w'.ownsRow w.heap.size 85 3 v' n (c3 bs) ∧ v' ≠ .slice none 0 0 ∧ Below w.heap.size w w' := by
  obtain ⟨i0, hi, hz0, hz1, hz2⟩ := info_parts Tryz.info85
  exact AnyE.slices_Clone Tryz.laysE41 i0 _ 3 12 hi hz0 hz1 hz2 rfl (by omega) Tryz.sizeOf85 g 0 n cap (c3 bs) w (by rw [c3_len, h.len]) (by unfold maxLen; omega) (by omega) (fun j u hj => c3_cell h j u hj) (c3_one bs)
theorem c3_owns {w : World} {B n : Nat} {v : Value} {bs : List R3} (hn : n = bs.length) (ho : w.ownsRow B 85 3 v n (c3 bs)) (hv : v ≠ .slice none 0 0) :
    ∃ g cap, v = .slice (some ⟨g, 0, none⟩) n cap ∧ B ≤ g ∧ g < w.heap.size ∧ n ≤ cap ∧ rowZ w g (n * 3) ∧ St B w (fun W => isR3s W (some ⟨g, 0, none⟩) n cap bs) := by
  rcases ho.2 with ⟨e, _⟩ | ⟨g, cap, cur, hv', hb, hg, hcp, hmx, hsz, htk⟩
  · exact absurd e hv
  · have hlt : g < w.heap.size := by
      rcases Nat.lt_or_ge g w.heap.size with h | h
      · exact h
      · rw [Array.getElem?_eq_none h] at hg; cases hg
    have hcur : ∀ t, t < n * 3 → cur[t]? = (c3 bs)[t]? := by
      intro t ht
      rw [← htk, List.getElem?_take_of_lt ht, Array.getElem?_toList]
    have hcell : ∀ W : World, W.heap[g]? = w.heap[g]? → ∀ t, t < n * 3 → W.cell? ⟨g, t, none⟩ = (c3 bs)[t]? := by
      intro W hW t ht
      have e : W.heap[g]? = some (.cells cur 85 (0, 0)) := hW.trans hg
      rw [← hcur t ht]
      simp [World.cell?, e]
    refine ⟨g, cap, hv', hb, hlt, hcp, ⟨fun t ht => ?_, fun t => ?_⟩, fun W hW => ⟨hn, hcp, fun hne => ⟨g, 0, rfl, fun j hj => ?_⟩⟩⟩
    · rw [hcell w rfl t ht]
      have hl : t < (c3 bs).length := by rw [c3_len, ← hn]; exact ht
      exact ⟨_, List.getElem?_eq_getElem hl⟩
    · subst hv'
      exact World.ownsRow.frozenAt ho t
    · have e := hW g hb hlt
      obtain ⟨y0, y1, y2⟩ := c3_at bs j hj
      exact ⟨(by rw [Nat.zero_add]; exact (hcell W e _ (by omega)).trans y0), (by rw [Nat.zero_add]; exact (hcell W e _ (by omega)).trans y1), (by rw [Nat.zero_add]; exact (hcell W e _ (by omega)).trans y2)⟩
end Go.Proofs.YtaamahohdnbpiaaGreat
