import Derived.Test.YtihndnclplkleaaSC
import Derived.Deep.RegionWith
namespace Go.Proofs.Ytihndnclplkleaa
open Go.RowKit

/-- the table in block b, its first m places filled -/
structure tabS (w : World) (b m : Nat) : Prop where
  cell : ∀ j, j < 256 → w.cell? ⟨b, 3 + j, none⟩ = some (.int .u16 ((if j < m then M.tabN j else 0 : Nat) : Int))
  free : ∀ j, w.frozen? ⟨b, j, none⟩ = false
/-- nothing but the table's places has changed -/
structure tabO (b : Nat) (w w' : World) : Prop where
  bel : Below b w w'
  oth : ∀ k, k ≠ b → w'.heap[k]? = w.heap[k]?
  low : ∀ j, j < 3 → w'.cell? ⟨b, j, none⟩ = w.cell? ⟨b, j, none⟩
theorem tabO.refl (b : Nat) (w : World) : tabO b w w := ⟨Below.refl _ _, fun _ _ => rfl, fun _ _ => rfl⟩
theorem tabO.set {b : Nat} {w w' : World} (h : tabO b w w') (j : Nat) (v : Value) : tabO b w (w'.setCell ⟨b, 3 + j, none⟩ v) :=
  ⟨h.bel.setCell (p := ⟨b, 3 + j, none⟩) (by simp) v, fun k hk => (heap_setCell_other w' ⟨b, 3 + j, none⟩ k v hk).trans (h.oth k hk), fun i hi => (World.cell?_setCell_other _ _ _ _ (by intro e; simp at e; try omega)).trans (h.low i hi)⟩
theorem tabO.drew {b : Nat} {w w' : World} (h : tabO b w w') : tabO b w w'.drew := ⟨h.bel.drew, h.oth, h.low⟩
theorem tabS.drew {b m : Nat} {w : World} (h : tabS w b m) : tabS w.drew b m := ⟨h.cell, h.free⟩
theorem tabS.put {w : World} {b m : Nat} (h : tabS w b m) (hm : m < 256) (x : Int) (hx : x = (M.tabN m : Int)) : tabS (w.setCell ⟨b, 3 + m, none⟩ (.int .u16 x)) b (m + 1) := by
  refine ⟨fun j hj => ?_, fun j => by rw [World.frozen?_setCell]; exact h.free j⟩
  by_cases e : j = m
  · subst e
    rw [World.cell?_setCell_same _ _ _ (h.cell j hj), if_pos (by omega), hx]
  · rw [World.cell?_setCell_other _ _ _ _ (by intro e2; simp at e2; try omega), h.cell j hj]
    by_cases h2 : j < m
    · rw [if_pos h2, if_pos (by omega)]
    · rw [if_neg h2, if_neg (by omega)]
theorem or_idx (j r : Nat) (hj : j < 8) (hr : r < 2 ^ j) : bits BinOp.or IntKind.i64 ((2 ^ j : Nat) : Int) (r : Int) = ((2 ^ j + r : Nat) : Int) := by
  have h1 : (2 : Nat) ^ j ≤ 2 ^ 7 := Nat.pow_le_pow_right (by decide) (by omega)
  have h2 : 2 ^ j ||| r = 2 ^ j + r := by
    have := Nat.two_pow_add_eq_or_of_lt hr 1
    rw [Nat.mul_one] at this
    exact this.symm
  show IntKind.i64.wrap ((BitVec.ofInt 64 ((2 ^ j : Nat) : Int) ||| BitVec.ofInt 64 (r : Int)).toNat : Int) = _
  rw [BitVec.toNat_or, ofInt_u64 _ (by omega), ofInt_u64 r (by omega), h2, wraps_i64 _ (by omega) (by omega)]
theorem fill_val (j r : Nat) (hj : j < 8) (hr : r < 2 ^ j) : bits BinOp.xor IntKind.u16 (M.regN (j + 1) : Int) (M.tabN r : Int) = (M.tabN (2 ^ j + r) : Int) := by
  have h1 : (2 : Nat) ^ j ≤ 2 ^ 7 := Nat.pow_le_pow_right (by decide) (by omega)
  have h2 : 2 ^ j ||| r = 2 ^ j + r := by
    have := Nat.two_pow_add_eq_or_of_lt hr 1
    rw [Nat.mul_one] at this
    exact this.symm
  have h3 := M.tab_fill j hj r (by omega) hr
  rw [h2] at h3
  rw [h3]
  have ha := M.regN_lt (j + 1)
  have hb := M.tab_lt r (by omega)
  generalize M.regN (j + 1) = x at *
  generalize M.tabN r = y at *
  show IntKind.u16.wrap ((BitVec.ofInt 16 (x : Int) ^^^ BitVec.ofInt 16 (y : Int)).toNat : Int) = _
  have hx : (BitVec.ofInt 16 (x : Int)).toNat = x := by simp; omega
  have hy : (BitVec.ofInt 16 (y : Int)).toNat = y := by simp; omega
  have hz : x ^^^ y < 2 ^ 15 := Nat.xor_lt_two_pow ha hb
  rw [BitVec.toNat_xor, hx, hy]
  simp [IntKind.wrap, IntKind.bits, IntKind.signed]; omega
set_option maxHeartbeats 2000000 in
set_option maxRecDepth 20000 in
theorem fill_any (w : World) (b : Nat) (h : tabS w b 1) :
    Calls Try.prog 63 #[.pointer (some ⟨b, 0, none⟩)] w fun o w' => o = .returned (.tuple #[]) ∧ tabS w' b 256 ∧ tabO b w w' := by
  go_enter Try.func63, Try.ntmps63
  go_wp2
  go_loopw [2, 3] (fun r i wr => ∃ j : Nat, j ≤ 8 ∧ r = .int .i64 (M.regN j : Int) ∧ i = .int .i64 ((2 ^ j : Nat) : Int) ∧ tabS wr b (2 ^ j) ∧ tabO b w wr) (fun _ i _ => 256 - (intOf i).toNat)
  case atStart => exact ⟨0, by decide, rfl, rfl, h, tabO.refl _ _⟩
  case round =>
    clear h
    obtain ⟨j, hj, rfl, rfl, ht, ho⟩ := hrel
    by_cases hj8 : j < 8
    · have hp : (2 : Nat) ^ j ≤ 2 ^ 7 := Nat.pow_le_pow_right (by decide) (by omega)
      have hp1 : 0 < (2 : Nat) ^ j := Nat.pos_of_ne_zero (by simp)
      have hreg := M.regN_lt j
      have hreg1 := M.regN_lt (j + 1)
      have HR : Hid (M.stepN (M.regN j) 0 = M.regN (j + 1)) := rfl
      have HO : Hid (∀ r : Nat, r < 2 ^ j → bits BinOp.or IntKind.i64 ((2 ^ j : Nat) : Int) (r : Int) = ((2 ^ j + r : Nat) : Int)) := fun r hr => or_idx j r hj8 hr
      have HV : Hid (∀ r : Nat, r < 2 ^ j → bits BinOp.xor IntKind.u16 (M.regN (j + 1) : Int) (M.tabN r : Int) = (M.tabN (2 ^ j + r) : Int)) := fun r hr => fill_val j r hj8 hr
      have HP : Hid (2 ^ (j + 1) = 2 ^ j + 2 ^ j) := by show (2 : Nat) ^ (j + 1) = _; rw [Nat.pow_succ]; omega
      have HT : Hid (tabS wr b (2 ^ j) ∧ tabO b w wr) := ⟨ht, ho⟩
      clear ht ho
      generalize hq : (2 : Nat) ^ j = q at *
      have HQ : Hid ((2 : Nat) ^ j = q) := hq
      clear hq
      have hp' : q ≤ 128 := hp
      clear hp
      have hlt : decide ((q : Int) < 256) = true := by simp; omega
      generalize M.regN j = x at *
      generalize hy : M.regN (j + 1) = y at *
      have HY : Hid (M.regN (j + 1) = y) := hy
      clear hy
      go_wp2_with (first | (go_at_call 34; refine (crcStep_any x 0 _ hreg).mono ?_; rw [HR.out]; rintro o w1 ⟨rfl, rfl⟩))
      go_loopw [12] (fun i wr => ∃ r : Nat, r ≤ q ∧ i = .int .i64 (r : Int) ∧ tabS wr b (q + r) ∧ tabO b w wr) (fun i _ => q - (intOf i).toNat)
      case atStart => exact ⟨0, Nat.zero_le _, rfl, HT.out.1, HT.out.2⟩
      case round =>
        clear HT
        obtain ⟨r, hr, rfl, ht, ho⟩ := hrel
        by_cases hrq : r < q
        · have hor := HO.out r hrq
          have hc := ht.cell r (by omega)
          rw [if_pos (by omega)] at hc
          have hc2 := ht.cell (q + r) (by omega)
          have hf := ht.free (3 + (q + r))
          have HN : Hid (tabS (wr.setCell ⟨b, 3 + (q + r), none⟩ (.int .u16 (bits BinOp.xor IntKind.u16 (y : Int) (M.tabN r : Int)))) b (q + r + 1) ∧ tabO b w (wr.setCell ⟨b, 3 + (q + r), none⟩ (.int .u16 (bits BinOp.xor IntKind.u16 (y : Int) (M.tabN r : Int))))) := ⟨ht.put (by omega) _ (HV.out r hrq), ho.set _ _⟩
          clear ht ho
          generalize M.tabN r = z at *
          go_wp2
          go_region
          go_wp2
          refine ⟨⟨r + 1, by omega, by go_num, HN.out.1.drew, HN.out.2.drew⟩, by simp [intOf]; omega⟩
        · have hrr : r = q := by omega
          subst hrr
          go_wp2
          go_roundw
          case rel => exact ⟨j + 1, by omega, by rw [HY.out], by rw [HP.out]; go_num, by rw [HP.out]; exact ht, ho⟩
          case measure => simp [intOf]; omega
    · have hj9 : j = 8 := by omega
      subst hj9
      go_wp2
      go_end0
      exact ⟨rfl, ht, ho⟩
end Go.Proofs.Ytihndnclplkleaa
