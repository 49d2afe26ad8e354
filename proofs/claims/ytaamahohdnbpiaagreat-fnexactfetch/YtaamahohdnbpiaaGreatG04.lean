import Derived.Test.YtaamahohdnbpiaaGreatG03
import Derived.Shelf.SlicesE.Clone
namespace Go.Proofs.YtaamahohdnbpiaaGreat
open Go.RowKit
theorem below_q {B : Nat} (w : World) (q : Nat) : Below B w (w.drewN q) := below_drewN (Below.refl _ _) q
theorem okFl_iff (x : R3) : okFl x = true ↔ (x.m < (if x.e = true then 536870912 else 2048) ∧ x.k < (if x.e = true then 536870912 else 2048)) := by simp [okFl]
set_option maxHeartbeats 4000000 in
theorem l3okFilters_any (w : World) (a : Option Addr) (n cap : Nat) (bs : List R3) (h : isR3s w a n cap bs) (hn : n ≤ 1048576) :
    Calls Tryz.prog 70 #[.slice a n cap] w fun o w' => o = .returned (.bool (okFs bs)) ∧ Below w.heap.size w w' := by
  have hlen := h.len
  have hcp := h.cap
  by_cases h16 : n ≤ 16
  · have HF : Hid (okFs bs = bs.all okFl) := by unfold Hid okFs; rw [show decide (bs.length ≤ 16) = true from decide_eq_true (by omega)]; simp
    have hd : decide ((16 : Int) < (n : Int)) = false := by simp; omega
    by_cases hl : bs = []
    · subst hl
      have hn0 : n = 0 := hlen
      subst hn0
      clear hlen h
      go_enter Tryz.func70, Tryz.ntmps70
      go_wp2
      go_loopw [3, 4] (fun i _ wr => i = .int .i64 0 ∧ wr = w) (fun _ _ _ => 0)
      case atStart => exact ⟨rfl, rfl⟩
      case round =>
        obtain ⟨rfl, rfl⟩ := hrel
        go_wp2
        go_ret
        exact ⟨ret_bool HF.out.symm, Below.refl _ _⟩
    · obtain ⟨g, off, rfl, hc⟩ := h.cells hl
      have HL : Hid (n = bs.length) := hlen
      have HC : Hid (∀ j (h : j < bs.length), at3 w g (off + j * 3) bs[j]) := hc
      clear h hlen hc
      go_enter Tryz.func70, Tryz.ntmps70
      go_wp2
      go_loopw [3, 4] (fun i _ wr => ∃ k : Nat, k ≤ n ∧ i = .int .i64 (k : Int) ∧ (∀ j (hj : j < bs.length), j < k → okFl bs[j] = true) ∧ ∃ q, wr = w.drewN q) (fun i _ _ => n - (intOf i).toNat)
      case atStart => exact ⟨0, Nat.zero_le _, rfl, fun j hj h => absurd h (Nat.not_lt_zero _), 0, rfl⟩
      case round =>
        obtain ⟨k, hk, rfl, hdone, q, rfl⟩ := hrel
        have HD : Hid (∀ j (hj : j < bs.length), j < k → okFl bs[j] = true) := hdone
        clear hdone
        by_cases hlt : k < n
        · have hkl : k < bs.length := by have := HL.out; omega
          have hx := HC.out k hkl
          have hgz := World.block_lt_of_cell? w _ hx.c0
          have x0 := ((below_q (B := w.heap.size) w q).cell (by exact hgz)).trans hx.c0
          have x1 := ((below_q (B := w.heap.size) w q).cell (by exact hgz)).trans hx.c1
          have x2 := ((below_q (B := w.heap.size) w q).cell (by exact hgz)).trans hx.c2
          have HY : Hid (okFl bs[k] = true → ∀ j (hj : j < bs.length), j < k + 1 → okFl bs[j] = true) := fun h => all_snoc hkl HD.out h
          have HN : Hid (okFl bs[k] = false → bs.all okFl = false) := fun h => all_no hkl h
          have HO : Hid (okFl bs[k] = true ↔ (bs[k].m < (if bs[k].e = true then 536870912 else 2048) ∧ bs[k].k < (if bs[k].e = true then 536870912 else 2048))) := okFl_iff bs[k]
          clear hx
          generalize okFl bs[k] = R at *
          generalize bs[k].m = m0 at *
          generalize bs[k].k = k0 at *
          generalize hW : w.drewN q = W at *
          have HW : Hid (W = w.drewN q) := hW.symm
          clear hW
          cases he : bs[k].e
          · rw [he] at x0 HO
            clear he
            by_cases hm : m0 < 2048
            · have hdm : decide (2048 ≤ m0) = false := by simp; omega
              by_cases hk0 : k0 < 2048
              · have hdk : decide (2048 ≤ k0) = false := by simp; omega
                have HR : Hid (R = true) := HO.out.2 (by simp; omega)
                go_wp2
                go_roundw
                case rel => exact ⟨k + 1, by omega, by go_num, HY.out HR.out, q, HW.out⟩
                case measure => simp [intOf]; omega
              · have hdk : decide (2048 ≤ k0) = true := by simp; omega
                have HR : Hid (R = false) := by cases hR : R with | false => exact rfl | true => exact absurd (HO.out.1 hR) (by simp; omega)
                go_wp2
                go_ret
                exact ⟨ret_bool (by rw [HF.out, HN.out HR.out]), by rw [HW.out]; exact below_q w q⟩
            · have hdm : decide (2048 ≤ m0) = true := by simp; omega
              have HR : Hid (R = false) := by cases hR : R with | false => exact rfl | true => exact absurd (HO.out.1 hR) (by simp; omega)
              go_wp2
              go_ret
              exact ⟨ret_bool (by rw [HF.out, HN.out HR.out]), by rw [HW.out]; exact below_q w q⟩
          · rw [he] at x0 HO
            clear he
            by_cases hm : m0 < 536870912
            · have hdm : decide (536870912 ≤ m0) = false := by simp; omega
              by_cases hk0 : k0 < 536870912
              · have hdk : decide (536870912 ≤ k0) = false := by simp; omega
                have HR : Hid (R = true) := HO.out.2 (by simp; omega)
                go_wp2
                go_roundw
                case rel => exact ⟨k + 1, by omega, by go_num, HY.out HR.out, q, HW.out⟩
                case measure => simp [intOf]; omega
              · have hdk : decide (536870912 ≤ k0) = true := by simp; omega
                have HR : Hid (R = false) := by cases hR : R with | false => exact rfl | true => exact absurd (HO.out.1 hR) (by simp; omega)
                go_wp2
                go_ret
                exact ⟨ret_bool (by rw [HF.out, HN.out HR.out]), by rw [HW.out]; exact below_q w q⟩
            · have hdm : decide (536870912 ≤ m0) = true := by simp; omega
              have HR : Hid (R = false) := by cases hR : R with | false => exact rfl | true => exact absurd (HO.out.1 hR) (by simp; omega)
              go_wp2
              go_ret
              exact ⟨ret_bool (by rw [HF.out, HN.out HR.out]), by rw [HW.out]; exact below_q w q⟩
        · have HA : Hid (bs.all okFl = true) := all_yes (by have := HL.out; omega) HD.out
          go_wp2
          go_ret
          exact ⟨ret_bool (by rw [HF.out, HA.out]), below_q w q⟩
  · have HF : Hid (okFs bs = false) := by unfold Hid okFs; rw [show decide (bs.length ≤ 16) = false from decide_eq_false (by omega)]; rfl
    have hd : decide ((16 : Int) < (n : Int)) = true := by simp; omega
    clear h hlen
    go_enter Tryz.func70, Tryz.ntmps70
    go_wp2
    go_ret
    exact ⟨ret_bool HF.out.symm, Below.refl _ _⟩
end Go.Proofs.YtaamahohdnbpiaaGreat
namespace Go.Proofs.YtaamahohdnbpiaaGreat
open Go.RowKit
/-- the filter that the marks from c on make -/
def mkF (c : Nat) : R3 := ⟨decide (c % 3 = 0), ((c + 1 : Nat) : Int), ((c + 2 : Nat) : Int)⟩
theorem mkF_row (C : Nat) : [Value.bool ((C : Int) % 3 == 0), .int .u32 ((C : Int) + 1), .int .u32 ((C : Int) + 1 + 1)] = [.bool (mkF C).e, .int .u32 (mkF C).m, .int .u32 (mkF C).k] := by
  have h1 : ((C : Int) % 3 == 0) = decide (C % 3 = 0) := by rw [Bool.eq_iff_iff]; simp; omega
  simp only [mkF, h1]
  congr 3
set_option maxHeartbeats 2000000 in
theorem heldFilterS_any (w : World) (g n cap c : Nat) (hr : ∀ j, j < n → at3 w g (j * 3) (mkF (c + 3 * j))) (hcp : n ≤ cap) (hn : n ≤ 1048576) (hc : c ≤ 1000) :
    Calls Tryz.prog 100 #[.slice (some ⟨g, 0, none⟩) n cap, .int .i64 (c : Int)] w fun o w' => o = .returned (.int .i64 ((c + 3 * n : Nat) : Int)) ∧ Below w.heap.size w w' := by
  have HR : Hid (∀ j, j < n → at3 w g (j * 3) (mkF (c + 3 * j))) := hr
  clear hr
  go_enter Tryz.func100, Tryz.ntmps100
  go_wp2
  go_loopw [1, 5] (fun kk i wr => ∃ k q : Nat, k ≤ n ∧ i = .int .i64 (k : Int) ∧ kk = .int .i64 ((c + 3 * k : Nat) : Int) ∧ wr = w.drewN q) (fun _ i _ => n - (intOf i).toNat)
  case atStart => exact ⟨0, 0, Nat.zero_le _, rfl, by go_num, rfl⟩
  case round =>
    obtain ⟨k, q, hk, rfl, rfl, rfl⟩ := hrel
    by_cases hlt : k < n
    · have hx := HR.out k hlt
      have hgz := World.block_lt_of_cell? w _ hx.c0
      have x0 := ((below_q (B := w.heap.size) w q).cell (by exact hgz)).trans hx.c0
      have x1 := ((below_q (B := w.heap.size) w q).cell (by exact hgz)).trans hx.c1
      have x2 := ((below_q (B := w.heap.size) w q).cell (by exact hgz)).trans hx.c2
      clear hx
      generalize hC : c + 3 * k = C at *
      have HC : Hid (c + 3 * k = C) := hC
      have hC1 : C ≤ 4000000 := by omega
      clear hC
      have e3 : (C : Int).tmod 3 = ((C % 3 : Nat) : Int) := by rw [Int.tmod_eq_emod_of_nonneg (by omega)]; omega
      have h1 : (mkF C).e = ((C : Int) % 3 == 0) := by rw [Bool.eq_iff_iff]; simp [mkF]; omega
      have h2 : (mkF C).m = (C : Int) + 1 := by simp [mkF]
      have h3 : (mkF C).k = (C : Int) + 1 + 1 := by simp [mkF]; omega
      rw [h1] at x0
      rw [h2] at x1
      rw [h3] at x2
      clear h1 h2 h3
      generalize hW : w.drewN q = W at *
      have HW : Hid (W = w.drewN q) := hW.symm
      clear hW
      go_wp2
      refine ⟨⟨k + 1, q, by omega, by go_num, by rw [← HC.out]; go_num, HW.out⟩, by simp [intOf]; omega⟩
    · have hkn : k = n := by omega
      subst hkn
      go_wp2
      go_ret
      exact ⟨rfl, below_q w q⟩
end Go.Proofs.YtaamahohdnbpiaaGreat
namespace Go.Proofs.YtaamahohdnbpiaaGreat
open Go.Shelf Go.RowKit
def Tryz.laysE41_ren : Go.Shelf.Ren := ⟨fun | 41 => 55 | n => n, fun | 22 => 30 | 23 => 85 | n => n, fun | n => n⟩
theorem Tryz.laysE41 : Go.Proofs.SlLaysE0.n41 Tryz.prog Tryz.laysE41_ren := {
  mixed := by kernel_rfl
  f41 := ⟨Tryz.f55.name, by kernel_rfl, Tryz.func55.trans (congrArg some (by kernel_rfl))⟩
  t4 := Tryz.underlying4
  a4 := Tryz.isAgg4
  z4 := Tryz.sizeOf4
  v4 := Tryz.zeroValue4
  t22 := Tryz.underlying30
  a22 := Tryz.isAgg30
  z22 := Tryz.sizeOf30
  v22 := Tryz.zeroValue30 }
/-- the cells of a row of filters -/
def c3 (bs : List R3) : List Value := bs.flatMap fun b => [.bool b.e, .int .u32 b.m, .int .u32 b.k]
theorem c3_len (bs : List R3) : (c3 bs).length = bs.length * 3 := by
  induction bs with
  | nil => rfl
  | cons b bs ih => simp only [c3, List.flatMap_cons, List.length_append, List.length_cons, List.length_nil] at ih ⊢; omega
theorem c3_at (bs : List R3) : ∀ j (h : j < bs.length), (c3 bs)[j * 3]? = some (.bool bs[j].e) ∧ (c3 bs)[j * 3 + 1]? = some (.int .u32 bs[j].m) ∧ (c3 bs)[j * 3 + 2]? = some (.int .u32 bs[j].k) := by
  induction bs with
  | nil => intro j h; exact absurd h (Nat.not_lt_zero _)
  | cons b bs ih =>
    intro j h
    cases j with
    | zero => exact ⟨rfl, rfl, rfl⟩
    | succ j =>
      have := ih j (by simpa using h)
      have e : ∀ t, (c3 (b :: bs))[(t + 3)]? = (c3 bs)[t]? := fun t => by simp [c3, List.flatMap_cons]
      have e0 : (j + 1) * 3 = j * 3 + 3 := by omega
      have e1 : (j + 1) * 3 + 1 = (j * 3 + 1) + 3 := by omega
      have e2 : (j + 1) * 3 + 2 = (j * 3 + 2) + 3 := by omega
      rw [e0, e, show j * 3 + 3 + 1 = (j * 3 + 1) + 3 by omega, e, show j * 3 + 3 + 2 = (j * 3 + 2) + 3 by omega, e]
      exact this
theorem c3_cell {w : World} {g n cap : Nat} {bs : List R3} (h : isR3s w (some ⟨g, 0, none⟩) n cap bs) (t : Nat) (u : Value) (hu : (c3 bs)[t]? = some u) : w.cell? ⟨g, 0 + t, none⟩ = some u := by
  have ht : t < bs.length * 3 := by
    have := (List.getElem?_eq_some_iff.mp hu).1
    rwa [c3_len] at this
  have hj : t / 3 < bs.length := by omega
  have hne : bs ≠ [] := by intro e; subst e; simp at hj
  obtain ⟨g', off, ha, hc⟩ := h.cells hne
  cases ha
  have x := hc (t / 3) hj
  obtain ⟨y0, y1, y2⟩ := c3_at bs (t / 3) hj
  have hr : t % 3 = 0 ∨ t % 3 = 1 ∨ t % 3 = 2 := by omega
  rcases hr with r | r | r
  · have e : t = t / 3 * 3 := by omega
    rw [← e] at y0
    have := x.c0
    rw [← e] at this
    rw [this, ← y0, hu]
  · have e : t = t / 3 * 3 + 1 := by omega
    rw [← e] at y1
    have := x.c1
    rw [Nat.add_assoc, ← e] at this
    rw [this, ← y1, hu]
  · have e : t = t / 3 * 3 + 2 := by omega
    rw [← e] at y2
    have := x.c2
    rw [Nat.add_assoc, ← e] at this
    rw [this, ← y2, hu]
theorem c3_one (bs : List R3) : ∀ u ∈ c3 bs, u.oneCell' = true := by
  intro u hu
  simp only [c3, List.mem_flatMap, List.mem_cons, List.not_mem_nil, or_false] at hu
  obtain ⟨b, _, rfl | rfl | rfl⟩ := hu <;> rfl
theorem clone_any (w : World) (g n cap : Nat) (bs : List R3) (h : isR3s w (some ⟨g, 0, none⟩) n cap bs) (hn : n ≤ 1048576) :
    Calls Tryz.prog 55 #[.slice (some ⟨g, 0, none⟩) n cap] w fun e w' => ∃ v', e = .returned v' ∧ w'.ownsRow w.heap.size 85 3 v' n (c3 bs) ∧ v' ≠ .slice none 0 0 ∧ Below w.heap.size w w' := by
  obtain ⟨i0, hi, hz0, hz1, hz2⟩ := info_parts Tryz.info85
  exact AnyE.slices_Clone Tryz.laysE41 i0 _ 3 12 hi hz0 hz1 hz2 rfl (by omega) Tryz.sizeOf85 g 0 n cap (c3 bs) w (by rw [c3_len, h.len]) (by unfold maxLen; omega) (by omega) (fun j u hj => c3_cell h j u hj) (c3_one bs)
theorem c3_owns {w : World} {B n : Nat} {v : Value} {bs : List R3} (hn : n = bs.length) (ho : w.ownsRow B 85 3 v n (c3 bs)) (hv : v ≠ .slice none 0 0) :
    ∃ g cap, v = .slice (some ⟨g, 0, none⟩) n cap ∧ B ≤ g ∧ g < w.heap.size ∧ n ≤ cap ∧ rowZ w g (n * 3) ∧ St B w (fun W => isR3s W (some ⟨g, 0, none⟩) n cap bs) := by
  rcases ho.2 with ⟨e, _⟩ | ⟨g, cap, cur, hv', hb, hg, hcp, hmx, hsz, htk⟩
  · exact absurd e hv
  · have hlt : g < w.heap.size := by
      rcases Nat.lt_or_ge g w.heap.size with h | h
      · exact h
      · rw [Array.getElem?_eq_none h] at hg; cases hg
    have hcur : ∀ t, t < n * 3 → cur[t]? = (c3 bs)[t]? := by
      intro t ht
      rw [← htk, List.getElem?_take_of_lt ht, Array.getElem?_toList]
    have hcell : ∀ W : World, W.heap[g]? = w.heap[g]? → ∀ t, t < n * 3 → W.cell? ⟨g, t, none⟩ = (c3 bs)[t]? := by
      intro W hW t ht
      have e : W.heap[g]? = some (.cells cur 85 (0, 0)) := hW.trans hg
      rw [← hcur t ht]
      simp [World.cell?, e]
    refine ⟨g, cap, hv', hb, hlt, hcp, ⟨fun t ht => ?_, fun t => ?_⟩, fun W hW => ⟨hn, hcp, fun hne => ⟨g, 0, rfl, fun j hj => ?_⟩⟩⟩
    · rw [hcell w rfl t ht]
      have hl : t < (c3 bs).length := by rw [c3_len, ← hn]; exact ht
      exact ⟨_, List.getElem?_eq_getElem hl⟩
    · subst hv'
      exact World.ownsRow.frozenAt ho t
    · have e := hW g hb hlt
      obtain ⟨y0, y1, y2⟩ := c3_at bs j hj
      exact ⟨(by rw [Nat.zero_add]; exact (hcell W e _ (by omega)).trans y0), (by rw [Nat.zero_add]; exact (hcell W e _ (by omega)).trans y1), (by rw [Nat.zero_add]; exact (hcell W e _ (by omega)).trans y2)⟩
end Go.Proofs.YtaamahohdnbpiaaGreat
namespace Go.Proofs.YtaamahohdnbpiaaGreat
open Go.RowKit
/-- the cells of a box without data that the marks from C on make -/
def m8 (C : Int) : List Value := [.int .i64 C, .int .i64 (C + 1), .int .i64 (C + 1 + 1), .bool (C % 3 == 0), .int .u32 (C + 1 + 1 + 1 + 1), .bool ((C + 5) % 3 == 0), .int .i64 (C + 1 + 1 + 1 + 1 + 1 + 1)]
structure atM (w : World) (g o : Nat) (C : Int) : Prop where
  row : ∀ t (h : t < 7), w.cell? ⟨g, o + t, none⟩ = some ((m8 C)[t]'(by simpa [m8] using h))
  dat : w.cell? ⟨g, o + 7, none⟩ = some (.slice none 0 0)
theorem atM.new {w : World} {g M : Nat} (h : rowZ w g M) (p : Nat) (hp : p + 8 ≤ M) (C : Int) (hd : w.cell? ⟨g, p + 7, none⟩ = some (.slice none 0 0)) : atM (setRow w g p (m8 C)) g p C :=
  ⟨fun t ht => setRow_at g (m8 C) w p t (by simpa [m8] using ht) (h.cell (p + t) (by omega)), (setRow_other g (m8 C) w p (p + 7) (by simp [m8])).trans hd⟩
theorem atM.keep {w : World} {g o : Nat} {C : Int} (h : atM w g o C) (vs : List Value) (p : Nat) (hp : o + 8 ≤ p ∨ p + vs.length ≤ o) : atM (setRow w g p vs) g o C :=
  ⟨fun t ht => (setRow_other g vs w p (o + t) (by omega)).trans (h.row t ht), (setRow_other g vs w p (o + 7) (by omega)).trans h.dat⟩
end Go.Proofs.YtaamahohdnbpiaaGreat
namespace Go.Proofs.YtaamahohdnbpiaaGreat
open Go.RowKit
theorem none50 (w : World) (c : Nat) : Calls Tryz.prog 98 #[.slice none 0 0, .int .i64 (c : Int)] w fun o w' => o = .returned (.int .i64 (c : Int)) ∧ w' = w := by
  go_enter Tryz.func98, Tryz.ntmps98
  go_wp2
  go_loopw [1, 5] (fun kk i wr => i = .int .i64 0 ∧ kk = .int .i64 (c : Int) ∧ wr = w) (fun _ _ _ => 0)
  case atStart => exact ⟨rfl, rfl, rfl⟩
  case round =>
    obtain ⟨rfl, rfl, rfl⟩ := hrel
    go_wp2
    go_ret
    exact ⟨rfl, rfl⟩
theorem none51 (w : World) (c : Nat) : Calls Tryz.prog 40 #[.slice none 0 0, .int .i64 (c : Int)] w fun o w' => o = .returned (.int .i64 (c : Int)) ∧ w' = w := by
  go_enter Tryz.func40, Tryz.ntmps40
  go_wp2
  go_loopw [1, 5] (fun kk i wr => i = .int .i64 0 ∧ kk = .int .i64 (c : Int) ∧ wr = w) (fun _ _ _ => 0)
  case atStart => exact ⟨rfl, rfl, rfl⟩
  case round =>
    obtain ⟨rfl, rfl, rfl⟩ := hrel
    go_wp2
    go_ret
    exact ⟨rfl, rfl⟩
theorem none54 (w : World) (c : Nat) : Calls Tryz.prog 102 #[.slice none 0 0, .int .i64 (c : Int)] w fun o w' => o = .returned (.int .i64 (c : Int)) ∧ w' = w := by
  go_enter Tryz.func102, Tryz.ntmps102
  go_wp2
  go_loopw [1, 5] (fun kk i wr => i = .int .i64 0 ∧ kk = .int .i64 (c : Int) ∧ wr = w) (fun _ _ _ => 0)
  case atStart => exact ⟨rfl, rfl, rfl⟩
  case round =>
    obtain ⟨rfl, rfl, rfl⟩ := hrel
    go_wp2
    go_ret
    exact ⟨rfl, rfl⟩
theorem none55 (w : World) (c : Nat) : Calls Tryz.prog 42 #[.slice none 0 0, .int .i64 (c : Int)] w fun o w' => o = .returned (.int .i64 (c : Int)) ∧ w' = w := by
  go_enter Tryz.func42, Tryz.ntmps42
  go_wp2
  go_loopw [1, 5] (fun kk i wr => i = .int .i64 0 ∧ kk = .int .i64 (c : Int) ∧ wr = w) (fun _ _ _ => 0)
  case atStart => exact ⟨rfl, rfl, rfl⟩
  case round =>
    obtain ⟨rfl, rfl, rfl⟩ := hrel
    go_wp2
    go_ret
    exact ⟨rfl, rfl⟩
theorem rowZ.up {W w : World} {g N : Nat} (h : rowZ w g N) (he : W.heap[g]? = w.heap[g]?) : rowZ W g N :=
  ⟨fun t ht => by obtain ⟨v, hv⟩ := h.cell t ht; exact ⟨v, cell_up hv he⟩, fun t => by have := h.free t; simp only [World.frozen?, he] at this ⊢; exact this⟩
theorem atM.up {W w : World} {g o : Nat} {C : Int} (h : atM w g o C) (he : W.heap[g]? = w.heap[g]?) : atM W g o C := ⟨fun t ht => cell_up (h.row t ht) he, cell_up h.dat he⟩
theorem cell_same {W w : World} {g : Nat} (he : W.heap[g]? = w.heap[g]?) (o : Nat) : W.cell? ⟨g, o, none⟩ = w.cell? ⟨g, o, none⟩ := by simp only [World.cell?, he]
end Go.Proofs.YtaamahohdnbpiaaGreat
namespace Go.Proofs.YtaamahohdnbpiaaGreat
open Go.RowKit
theorem none18 (w : World) (c : Nat) : Calls Tryz.prog 96 #[.slice none 0 0, .int .i64 (c : Int)] w fun o w' => o = .returned (.int .i64 (c : Int)) ∧ w' = w := by
  go_enter Tryz.func96, Tryz.ntmps96
  go_wp2
  go_loopw [1, 5] (fun kk i wr => i = .int .i64 0 ∧ kk = .int .i64 (c : Int) ∧ wr = w) (fun _ _ _ => 0)
  case atStart => exact ⟨rfl, rfl, rfl⟩
  case round =>
    obtain ⟨rfl, rfl, rfl⟩ := hrel
    go_wp2
    go_ret
    exact ⟨rfl, rfl⟩
theorem none49 (w : World) (c : Nat) : Calls Tryz.prog 97 #[.slice none 0 0, .int .i64 (c : Int)] w fun o w' => o = .returned (.int .i64 (c : Int)) ∧ w' = w := by
  go_enter Tryz.func97, Tryz.ntmps97
  go_wp2
  go_loopw [1, 5] (fun kk i wr => i = .int .i64 0 ∧ kk = .int .i64 (c : Int) ∧ wr = w) (fun _ _ _ => 0)
  case atStart => exact ⟨rfl, rfl, rfl⟩
  case round =>
    obtain ⟨rfl, rfl, rfl⟩ := hrel
    go_wp2
    go_ret
    exact ⟨rfl, rfl⟩
theorem none52 (w : World) (c : Nat) : Calls Tryz.prog 100 #[.slice none 0 0, .int .i64 (c : Int)] w fun o w' => o = .returned (.int .i64 (c : Int)) ∧ w' = w := by
  go_enter Tryz.func100, Tryz.ntmps100
  go_wp2
  go_loopw [1, 5] (fun kk i wr => i = .int .i64 0 ∧ kk = .int .i64 (c : Int) ∧ wr = w) (fun _ _ _ => 0)
  case atStart => exact ⟨rfl, rfl, rfl⟩
  case round =>
    obtain ⟨rfl, rfl, rfl⟩ := hrel
    go_wp2
    go_ret
    exact ⟨rfl, rfl⟩
theorem none53 (w : World) (c : Nat) : Calls Tryz.prog 101 #[.slice none 0 0, .int .i64 (c : Int)] w fun o w' => o = .returned (.int .i64 (c : Int)) ∧ w' = w := by
  go_enter Tryz.func101, Tryz.ntmps101
  go_wp2
  go_loopw [1, 5] (fun kk i wr => i = .int .i64 0 ∧ kk = .int .i64 (c : Int) ∧ wr = w) (fun _ _ _ => 0)
  case atStart => exact ⟨rfl, rfl, rfl⟩
  case round =>
    obtain ⟨rfl, rfl, rfl⟩ := hrel
    go_wp2
    go_ret
    exact ⟨rfl, rfl⟩
set_option maxHeartbeats 4000000 in
set_option maxRecDepth 20000 in
theorem markHost_nil (w : World) (c0 c1 c2 c3 lo st : Int) (c : Nat) (hc : c ≤ 1000) :
    Calls Tryz.prog 39 #[.agg #[.int .i64 c0, .int .i64 c1, .int .i64 c2, .int .i64 c3, .slice none 0 0, .slice none 0 0, .slice none 0 0, .slice none 0 0, .int .i64 lo, .int .i64 st], .int .i64 (c : Int)] w fun o w' => o = .returned (.int .i64 (c : Int)) ∧ Below w.heap.size w w' := by
  have z1 : ¬ (c : Int) < 0 := by omega
  go_enter Tryz.func39, Tryz.ntmps39
  go_wp2_with (first | (go_at_call 96; refine (none18 _ c).mono ?_; rintro o w1 ⟨rfl, rfl⟩) | (go_at_call 97; refine (none49 _ c).mono ?_; rintro o w2 ⟨rfl, rfl⟩) | (go_at_call 98; refine (none50 _ c).mono ?_; rintro o w3 ⟨rfl, rfl⟩) | (go_at_call 40; refine (none51 _ c).mono ?_; rintro o w4 ⟨rfl, rfl⟩))
  go_ret
  exact ⟨rfl, (Below.refl w.heap.size w).alloc (Nat.le_refl _) _⟩
set_option maxHeartbeats 4000000 in
set_option maxRecDepth 20000 in
theorem heldHost_nil (w : World) (c0 c1 c2 c3 lo st : Int) (c : Nat) (hc : c ≤ 1000) :
    Calls Tryz.prog 41 #[.agg #[.int .i64 c0, .int .i64 c1, .int .i64 c2, .int .i64 c3, .slice none 0 0, .slice none 0 0, .slice none 0 0, .slice none 0 0, .int .i64 lo, .int .i64 st], .int .i64 (c : Int)] w fun o w' => o = .returned (.int .i64 (c : Int)) ∧ Below w.heap.size w w' := by
  have z1 : ¬ (c : Int) < 0 := by omega
  go_enter Tryz.func41, Tryz.ntmps41
  go_wp2_with (first | (go_at_call 100; refine (none52 _ c).mono ?_; rintro o w1 ⟨rfl, rfl⟩) | (go_at_call 101; refine (none53 _ c).mono ?_; rintro o w2 ⟨rfl, rfl⟩) | (go_at_call 102; refine (none54 _ c).mono ?_; rintro o w3 ⟨rfl, rfl⟩) | (go_at_call 42; refine (none55 _ c).mono ?_; rintro o w4 ⟨rfl, rfl⟩))
  go_ret
  exact ⟨rfl, (Below.refl w.heap.size w).alloc (Nat.le_refl _) _⟩
end Go.Proofs.YtaamahohdnbpiaaGreat
namespace Go.Proofs.YtaamahohdnbpiaaGreat
open Go.RowKit
/-- the empty box -/
def bx0 : R8 := ⟨0, 0, 0, false, 0, false, 0, []⟩
end Go.Proofs.YtaamahohdnbpiaaGreat
namespace Go.Proofs.YtaamahohdnbpiaaGreat
open Go.RowKit
theorem setCells_block (b : Nat) (t : TypeId) : ∀ (vs old pre post : List Value) (w : World), old.length = vs.length → w.heap[b]? = some (.cells (pre ++ old ++ post).toArray t (0, 0)) → (w.setCells b pre.length vs).heap[b]? = some (.cells (pre ++ vs ++ post).toArray t (0, 0)) := by
  intro vs
  induction vs with
  | nil =>
    intro old pre post w hl h
    have : old = [] := List.length_eq_zero_iff.1 hl
    subst this
    exact h
  | cons v vs ih =>
    intro old pre post w hl h
    match old, hl with
    | o :: old', hl =>
      have h1 := heap_setCell_same w b pre.length _ _ v h
      have e : (pre ++ o :: old' ++ post).toArray.setIfInBounds pre.length v = ((pre ++ [v]) ++ old' ++ post).toArray := by simp
      have h2 := ih old' (pre ++ [v]) post (w.setCell ⟨b, pre.length, none⟩ v) (by simpa using hl) (by rw [← e]; exact h1)
      rw [List.length_append, List.length_singleton] at h2
      rw [List.append_assoc pre [v] vs] at h2
      exact h2
theorem range_block {w : World} {b : Nat} {l : List Value} {t : TypeId} {fr : Nat × Nat} (h : w.heap[b]? = some (.cells l.toArray t fr)) : w.rangeAt b 0 l := fun j v hv => by
  simp [World.cell?, h, hv]
theorem there_block {w : World} {b : Nat} {l : List Value} {t : TypeId} (h : w.heap[b]? = some (.cells l.toArray t (0, 0))) (o n : Nat) (ho : o + n ≤ l.length) : w.there b o n := fun j hj => by
  refine ⟨?_, ?_⟩
  · have : o + j < l.length := by omega
    simp [World.cell?, h, this]
  · simp [World.frozen?, h]
theorem setCells_other (b k : Nat) (hk : k ≠ b) (vs : List Value) (w : World) (o : Nat) : (w.setCells b o vs).heap[k]? = w.heap[k]? := by
  rw [setCells_row]; exact setRow_block b k hk vs w o
theorem St.setCells {B : Nat} {w : World} {p : World → Prop} (h : St B w p) (b o : Nat) (hb : b < B) (vs : List Value) : St B (w.setCells b o vs) p := fun W hW => h W fun k h1 h2 => (hW k h1 (by rw [setCells_row, setRow_size]; exact h2)).trans (setCells_other b k (by omega) vs w o)
theorem sz41 : (Tryz.prog.info? 35).map (·.size) = some 10 := by kernel_rfl
theorem one10 (c0 c1 c2 c3 : Int) (b1 : Option Addr) (m1 l1 : Nat) (b2 : Option Addr) (m2 l2 : Nat) (b3 : Option Addr) (m3 l3 : Nat) (b4 : Option Addr) (m4 l4 : Nat) (lo st : Int) : (#[.int .i64 c0, .int .i64 c1, .int .i64 c2, .int .i64 c3, .slice b1 m1 l1, .slice b2 m2 l2, .slice b3 m3 l3, .slice b4 m4 l4, .int .i64 lo, .int .i64 st] : Array Value).all (·.oneCell') = true :=
  all_oneCell_toArray (by simp [Value.oneCell'])
end Go.Proofs.YtaamahohdnbpiaaGreat
namespace Go.Proofs.YtaamahohdnbpiaaGreat
open Go.RowKit
theorem rowZ_alloc (w : World) (l : List Value) (T : TypeId) : rowZ (w.alloc (.cells l.toArray T)) w.heap.size l.length := by
  have e : (w.alloc (.cells l.toArray T)).heap[w.heap.size]? = some (.cells l.toArray T) := heap_alloc_new w _
  refine ⟨fun t ht => ?_, fun t => ?_⟩
  · have := there_block e 0 l.length (by omega) t ht
    rw [Nat.zero_add] at this
    exact Option.isSome_iff_exists.1 this.1
  · unfold World.frozen?
    rw [e]
    simp
/-- what stays true in impl.NewHost's last statement -/
structure nhS (w : World) (m b c d : Int) (W : World) : Prop where
  p : W.heap[w.heap.size]? = some (.cells [.int .i64 m, .int .i64 b, .int .i64 c, .int .i64 d].toArray 29)
  r : rowZ W (w.heap.size + 1) 10
  b : Below w.heap.size w W
  z : w.heap.size + 2 ≤ W.heap.size
theorem nhS.below {w : World} {m b c d : Int} {W W' : World} (h : nhS w m b c d W) (hb : Below W.heap.size W W') : nhS w m b c d W' :=
  ⟨(hb.block _ (by have := h.z; omega)).trans h.p, h.r.below hb (by have := h.z; omega), h.b.trans (hb.mono h.b.size), Nat.le_trans h.z hb.size⟩
theorem nhS.put {w : World} {m b c d : Int} {W : World} (h : nhS w m b c d W) (vs : List Value) (hv : vs.length = 10) : nhS w m b c d (setRow W (w.heap.size + 1) 0 vs) :=
  ⟨(setRow_block _ _ (by omega) vs W 0).trans h.p, h.r.put vs 0 (by omega), setRow_below _ _ (by omega) w vs W 0 h.b, by rw [setRow_size]; exact h.z⟩
theorem nhS.cell {w : World} {m b c d : Int} {W : World} (h : nhS w m b c d W) : W.cell? ⟨w.heap.size, 0, none⟩ = some (.int .i64 m) := by
  have := range_block h.p 0 (.int .i64 m) rfl
  simpa using this
theorem sz35 : (Tryz.prog.info? 29).map (·.size) = some 4 := by kernel_rfl
/-- what impl.NewHost leaves -/
structure nhOut (w w' : World) (g1 n k1 g2 m : Nat) (bs : List R3) : Prop where
  ne : g1 ≠ g2
  l1 : w.heap.size ≤ g1
  u1 : g1 < w'.heap.size
  l2 : w.heap.size ≤ g2
  u2 : g2 < w'.heap.size
  c1 : n ≤ k1
  z1 : rowZ w' g1 (n * 3)
  z2 : rowZ w' g2 (m * 8)
  s1 : St (w.heap.size + 2) w' (fun V => isR3s V (some ⟨g1, 0, none⟩) n k1 bs)
  a2 : ∀ j, j < m → at8 w' g2 (j * 8) bx0 none 0 0
theorem at8.upN {W w : World} {g o : Nat} (h : at8 w g o bx0 none 0 0) (he : W.heap[g]? = w.heap[g]?) : at8 W g o bx0 none 0 0 :=
  ⟨cell_up h.c0 he, cell_up h.c1 he, cell_up h.c2 he, cell_up h.c3 he, cell_up h.c4 he, cell_up h.c5 he, cell_up h.c6 he, cell_up h.cs he, ⟨rfl, Nat.le_refl _, fun _ hx => (by cases hx), fun hne => absurd rfl hne⟩⟩
theorem nhOut.put {w W : World} {g1 n k1 g2 m : Nat} {bs : List R3} (h : nhOut w W g1 n k1 g2 m bs) (h1 : w.heap.size + 2 ≤ g1) (h2 : w.heap.size + 2 ≤ g2) (vs : List Value) : nhOut w (setRow W (w.heap.size + 1) 0 vs) g1 n k1 g2 m bs := by
  have e1 := setRow_block (w.heap.size + 1) g1 (by omega) vs W 0
  have e2 := setRow_block (w.heap.size + 1) g2 (by omega) vs W 0
  refine ⟨h.ne, h.l1, by rw [setRow_size]; exact h.u1, h.l2, by rw [setRow_size]; exact h.u2, h.c1, h.z1.up e1, h.z2.up e2, ?_, fun j hj => (h.a2 j hj).upN e2⟩
  rw [← setCells_row]
  exact h.s1.setCells _ _ (by omega) vs
end Go.Proofs.YtaamahohdnbpiaaGreat
namespace Go.Proofs.YtaamahohdnbpiaaGreat
open Go.RowKit
theorem lt_of_some {w : World} {g : Nat} {o : Obj} (hg : w.heap[g]? = some o) : g < w.heap.size := by
  rcases Nat.lt_or_ge g w.heap.size with h | h
  · exact h
  · rw [Array.getElem?_eq_none h] at hg; cases hg
/-- a row that the call made, as a slice of its own -/
theorem own_slice {w : World} {B n E sz : Nat} {v : Value} {xs : List Value} (ho : w.ownsRow B E sz v n xs) (hv : v ≠ .slice none 0 0) :
    ∃ g cap, v = .slice (some ⟨g, 0, none⟩) n cap ∧ B ≤ g ∧ g < w.heap.size ∧ n ≤ cap ∧ ∀ W : World, W.heap[g]? = w.heap[g]? → ∀ t, t < n * sz → W.cell? ⟨g, t, none⟩ = xs[t]? := by
  rcases ho.2 with ⟨e, _⟩ | ⟨g, cap, cur, hv', hb, hg, hcp, hmx, hsz, htk⟩
  · exact absurd e hv
  · refine ⟨g, cap, hv', hb, lt_of_some hg, hcp, fun W hW t ht => ?_⟩
    have hcur : cur[t]? = xs[t]? := by rw [← htk, List.getElem?_take_of_lt ht, Array.getElem?_toList]
    have e : W.heap[g]? = some (.cells cur E (0, 0)) := hW.trans hg
    rw [← hcur]
    simp [World.cell?, e]
theorem ownsB_bytes {w : World} {B : Nat} {v : Value} {l : List Nat} (h : ownsB w B v l) (hv : v ≠ .slice none 0 0) (hl : ∀ x ∈ l, x < 256) :
    ∃ g k, v = .slice (some ⟨g, 0, none⟩) l.length k ∧ B ≤ g ∧ g < w.heap.size ∧ St B w (fun W => isBytes W (some ⟨g, 0, none⟩) l.length k l) := by
  obtain ⟨g, cap, rfl, h1, h2, h3, h4⟩ := own_slice h hv
  refine ⟨g, cap, rfl, h1, h2, fun W hW => ⟨rfl, h3, hl, fun _ => ⟨g, 0, rfl, fun j hj => ?_⟩⟩⟩
  rw [Nat.zero_add, h4 W (hW g h1 h2) j (by omega), bv_at l j hj]
theorem take_snoc (l : List Nat) (k : Nat) (h : k < l.length) : l.take k ++ [l[k]] = l.take (k + 1) := by rw [List.take_succ_eq_append_getElem h]
set_option maxHeartbeats 2000000 in
set_option maxRecDepth 20000 in
/-- spec.l1copyFrame -/
theorem l1copyFrame_any (w : World) (e : Bool) (i : Nat) (r : Bool) (d : Int) (a : Option Addr) (n cap : Nat) (l : List Nat) (h : isBytes w a n cap l) (hn : n ≤ 1048576) :
    Calls Tryz.prog 136 #[frV e i r d a n cap] w fun o w' => ∃ g k, o = .returned (frV e i r d (some ⟨g, 0, none⟩) n k) ∧ (w.heap.size ≤ g ∧ g < w'.heap.size ∧ St (w.heap.size + 2) w' (fun W => isBytes W (some ⟨g, 0, none⟩) n k l) ∧ w.heap.size + 2 ≤ g) ∧ Below w.heap.size w w' := by
  have HH : Hid (isBytes w a n cap l) := h
  have HL : Hid (n = l.length) := h.len
  have HSm : Hid (∀ x ∈ l, x < 256) := h.small
  have hcp := h.cap
  clear h
  have hB0 : Below w.heap.size w ((w.alloc (.cells #[.bool e, .int .u32 (i : Int), .bool r, .int .i64 d, .slice a n cap] 25)).alloc (.cells #[.bool false, .int .u32 0, .bool false, .int .i64 0, .slice none 0 0] 25)) := ((Below.refl _ _).alloc (Nat.le_refl _) _).alloc (by simp) _
  have HB0 : Hid _ := hB0
  clear hB0
  go_enter Tryz.func136, Tryz.ntmps136
  go_wp2_with fail
  have hown := own_nil ((w.alloc (.cells #[.bool e, .int .u32 (i : Int), .bool r, .int .i64 d, .slice a n cap] 25)).alloc (.cells #[.bool false, .int .u32 0, .bool false, .int .i64 0, .slice none 0 0] 25)) (w.heap.size + 2) (by simp)
  have x0 : ((w.alloc (.cells #[.bool e, .int .u32 (i : Int), .bool r, .int .i64 d, .slice a n cap] 25)).alloc (.cells #[.bool false, .int .u32 0, .bool false, .int .i64 0, .slice none 0 0] 25)).heap[w.heap.size]? = some (.cells [.bool e, .int .u32 (i : Int), .bool r, .int .i64 d, .slice a n cap].toArray 25) := by
    rw [Below.heap_alloc _ _ _ (by simp)]
    exact heap_alloc_new w _
  have x1 : rowZ ((w.alloc (.cells #[.bool e, .int .u32 (i : Int), .bool r, .int .i64 d, .slice a n cap] 25)).alloc (.cells #[.bool false, .int .u32 0, .bool false, .int .i64 0, .slice none 0 0] 25)) (w.heap.size + 1) 5 := by
    have := rowZ_alloc (w.alloc (.cells #[.bool e, .int .u32 (i : Int), .bool r, .int .i64 d, .slice a n cap] 25)) [.bool false, .int .u32 0, .bool false, .int .i64 0, .slice none 0 0] 25
    simpa using this
  have hz2 : ((w.alloc (.cells #[.bool e, .int .u32 (i : Int), .bool r, .int .i64 d, .slice a n cap] 25)).alloc (.cells #[.bool false, .int .u32 0, .bool false, .int .i64 0, .slice none 0 0] 25)).heap.size = w.heap.size + 2 := by simp
  have hs2 : w.heap.size + 1 + 1 = ((w.alloc (.cells #[.bool e, .int .u32 (i : Int), .bool r, .int .i64 d, .slice a n cap] 25)).alloc (.cells #[.bool false, .int .u32 0, .bool false, .int .i64 0, .slice none 0 0] 25)).heap.size := by simp
  simp only [hs2]
  clear hs2
  generalize (w.alloc (.cells #[.bool e, .int .u32 (i : Int), .bool r, .int .i64 d, .slice a n cap] 25)).alloc (.cells #[.bool false, .int .u32 0, .bool false, .int .i64 0, .slice none 0 0] 25) = W2 at *
  rw [← hz2] at hown
  have HX0 : Hid (W2.heap[w.heap.size]? = some (.cells [.bool e, .int .u32 (i : Int), .bool r, .int .i64 d, .slice a n cap].toArray 25)) := x0
  have HX1 : Hid (rowZ W2 (w.heap.size + 1) 5) := x1
  have HZ2 : Hid (W2.heap.size = w.heap.size + 2) := hz2
  clear x0 x1 hz2
  go_loopw [3, 4] (fun v t wr => ∃ k : Nat, k ≤ n ∧ t = .int .i64 k ∧ ownsB wr W2.heap.size v (l.take k) ∧ (k = 0 → v = .slice (some ⟨W2.heap.size, 0, none⟩) 0 0) ∧ Below W2.heap.size W2 wr) (fun _ t _ => n - (intOf t).toNat)
  case atStart => exact ⟨0, Nat.zero_le _, rfl, hown, fun _ => rfl, (Below.refl _ _).alloc (Nat.le_refl _) _⟩
  case round =>
    clear hown
    obtain ⟨k, hk, rfl, ho, hv0, hb⟩ := hrel
    have hrg := range_block ((hb.block _ (by have := HZ2.out; omega)).trans HX0.out)
    have y0 := hrg 0 (.bool e) rfl
    have y1 := hrg 1 (.int .u32 (i : Int)) rfl
    have y2 := hrg 2 (.bool r) rfl
    have y3 := hrg 3 (.int .i64 d) rfl
    have y4 := hrg 4 (.slice a n cap) rfl
    simp only [Nat.zero_add, Nat.add_zero] at y0 y1 y2 y3 y4
    clear hrg
    by_cases hlt : k < n
    · have hkl : k < l.length := by have := HL.out; omega
      obtain ⟨g0, o0, rfl, hc⟩ := HH.out.cells (by intro e; rw [e] at hkl; exact absurd hkl (Nat.not_lt_zero _))
      have hx := hc k hkl
      have hgz : g0 < w.heap.size := World.block_lt_of_cell? w _ hx
      have xk := (hb.cell (p := ⟨g0, o0 + k, none⟩) (by have := HZ2.out; show g0 < _; omega)).trans ((HB0.out.cell (p := ⟨g0, o0 + k, none⟩) (by exact hgz)).trans hx)
      have HO : Hid (ownsB wr W2.heap.size u3 (l.take k)) := ho
      have HB : Hid (Below W2.heap.size W2 wr) := hb
      have HT : Hid (l.take k ++ [l[k]] = l.take (k + 1)) := take_snoc l k hkl
      have HLT : Hid ((l.take k).length ≤ 100000000) := by show _ ≤ _; rw [List.length_take]; omega
      clear ho hb hc hx hv0
      generalize l[k] = ck at *
      go_wp2_with (first | (at_builtin; refine app_byte W2 wr rfl (.tmp 13) (.tmp 19) rfl W2.heap.size u3 (l.take k) ck _ rfl rfl HO.out rfl HLT.out HB.out.size HB.out ?_; intro v' w' ho' hb' _))
      go_roundw
      case rel => exact ⟨k + 1, by omega, by go_num, by rw [← HT.out]; exact ho', fun e => absurd e (by omega), hb'⟩
      case measure => simp [intOf]; omega
    · have hkn : k = n := by omega
      subst hkn
      have htk : l.take k = l := by rw [List.take_of_length_le (by have := HL.out; omega)]
      rw [htk] at ho
      have hnn : u3 ≠ .slice none 0 0 := by
        intro e
        by_cases hk0 : k = 0
        · rw [hv0 hk0] at e; cases e
        · subst e
          rcases ho.2 with ⟨_, h⟩ | ⟨g, _, _, h, _⟩
          · have := HL.out; omega
          · cases h
      obtain ⟨g1, k1, rfl, q1, q2, q3⟩ := ownsB_bytes ho hnn HSm.out
      rw [← HL.out] at q3 ⊢
      have HQ : Hid (w.heap.size + 2 ≤ g1 ∧ g1 < wr.heap.size ∧ St W2.heap.size wr (fun W => isBytes W (some ⟨g1, 0, none⟩) k k1 l)) := ⟨by have := HZ2.out; omega, q2, q3⟩
      have HB : Hid (Below w.heap.size w wr) := HB0.out.trans (hb.mono (by have := HZ2.out; omega))
      have hZ := HX1.out.below hb (by have := HZ2.out; omega)
      obtain ⟨u0, z0⟩ := hZ.cell 0 (by omega)
      obtain ⟨u1, z1⟩ := hZ.cell 1 (by omega)
      obtain ⟨u2, z2⟩ := hZ.cell 2 (by omega)
      obtain ⟨u3, z3⟩ := hZ.cell 3 (by omega)
      obtain ⟨u4, z4⟩ := hZ.cell 4 (by omega)
      have f0 := hZ.free 0
      have f1 := hZ.free 1
      have f2 := hZ.free 2
      have f3 := hZ.free 3
      have f4 := hZ.free 4
      clear hZ q1 q2 q3 ho hb hv0 hnn htk
      go_wp2
      refine bodyPost_ret (v := frV e i r d (some ⟨g1, 0, none⟩) k k1) (by simp [results, Tryz.results136, go_sem, z0, z1, z2, z3, z4]) rfl ?_
      have hq := HQ.out
      have hz := HZ2.out
      refine ⟨g1, k1, rfl, ⟨by omega, by simpa using hq.2.1, ?_, hq.1⟩, ?_⟩
      · rw [show w.heap.size + 2 = W2.heap.size from hz.symm]
        exact ((((hq.2.2.set _ _ (by omega) _).set _ _ (by omega) _).set _ _ (by omega) _).set _ _ (by omega) _).set _ _ (by omega) _
      · (repeat refine Below.setCell ?_ (by simp) _)
        exact HB.out
end Go.Proofs.YtaamahohdnbpiaaGreat
