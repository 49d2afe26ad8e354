import Derived.Test.YtnefmdjodjpopaaAN
namespace Go.Proofs.Ytnefmdjodjpopaa
open Go.RowKit

def Wk.keep1 (k : Wk) (bit : Nat) : Wk := if k.field ≤ 9 then { k with sum := M.stepN k.sum bit } else k
def Wk.keep (k : Wk) (bit : Nat) : Wk :=
  if k.field = 2 ∨ k.field = 5 then { k.keep1 bit with id := 2 * k.id + bit }
  else if k.field = 3 ∨ k.field = 6 then { k.keep1 bit with rtr := decide (bit = 1) }
  else if k.field = 4 then { k.keep1 bit with ext := decide (bit = 1) }
  else if k.field = 8 then { k.keep1 bit with dlc := 2 * k.dlc + bit }
  else if k.field = 9 then { k.keep1 bit with data := keepD k.data k.taken bit }
  else if k.field = 10 then { k.keep1 bit with crc := 2 * k.crc + bit }
  else k.keep1 bit
theorem or_i64 (x bit : Nat) (hx : x < 1000000) (hb : bit < 2) : bits BinOp.or IntKind.i64 ((x : Int) * 2) (bit : Int) = ((2 * x + bit : Nat) : Int) := by
  have e : (x : Int) * 2 = ((2 * x : Nat) : Int) := by omega
  rw [e, (bits_nat .i64 62 (by decide) wraps_i64 (2 * x) bit (by omega) (by omega)).2, nat_join 1 _ _ (by omega) (by omega)]
theorem or_u32 (x bit : Nat) (hx : x < 1073741824) (hb : bit < 2) : bits BinOp.or IntKind.u32 ((x : Int) * 2) (bit : Int) = ((2 * x + bit : Nat) : Int) := by
  have e : (x : Int) * 2 = ((2 * x : Nat) : Int) := by omega
  rw [e, u32_or_nat _ _ (by omega) (by omega), nat_join 1 _ _ (by omega) (by omega)]
set_option maxHeartbeats 4000000 in
theorem keep_wk (w : World) (B b : Nat) (k : Wk) (bit : Nat) (h : wkI B b k w) (hbit : bit < 2) (hs : k.sum < 32768) (hi : k.id < 1073741824) (hdl : k.dlc < 1000000) (hcr : k.crc < 1000000) (ht : k.taken ≤ 1000000)
    (hdata : k.field = 9 → k.data.length ≤ 1000 ∧ (¬ k.taken % 8 = 0 → k.data ≠ []) ∧ (∀ x ∈ k.data, x < 256)) :
    Calls Try.prog 94 #[.pointer (some ⟨b, 0, none⟩), .int .i64 (bit : Int)] w fun e w' => e = .returned (.tuple #[]) ∧ wkI B b (k.keep bit) w' ∧ kept B b w w' := by
  obtain ⟨⟨v, hw, ho⟩, hB⟩ := h
  obtain ⟨c0, c1, -, -, c4, c5, c6, c7, c8, c9, c10, -⟩ := hw.cells
  have hfr := fun j => hw.free j
  have hb1 : ((bit : Int) == 1) = decide (bit = 1) := by rw [Bool.eq_iff_iff]; simp; omega
  have HW : Hid (wkAt w b k v ∧ ownsB w B v k.data) := ⟨hw, ho⟩
  have hs1 := fun (hf : k.field ≤ 9) => wk_set (k' := { k with sum := M.stepN k.sum bit }) hw ho hB 4 (.int .i64 ((M.stepN k.sum bit : Nat) : Int)) rfl (by simp)
  have HS1 : Hid (k.field ≤ 9 → wkAt (w.setCell ⟨b, 4, none⟩ (.int .i64 ((M.stepN k.sum bit : Nat) : Int))) b { k with sum := M.stepN k.sum bit } v ∧ ownsB (w.setCell ⟨b, 4, none⟩ (.int .i64 ((M.stepN k.sum bit : Nat) : Int))) B v k.data ∧ kept B b w (w.setCell ⟨b, 4, none⟩ (.int .i64 ((M.stepN k.sum bit : Nat) : Int)))) := hs1
  clear hs1 hw ho
  rcases (show k.field = 0 ∨ k.field = 1 ∨ k.field = 2 ∨ k.field = 3 ∨ k.field = 4 ∨ k.field = 5 ∨ k.field = 6 ∨ k.field = 7 ∨ k.field = 8 ∨ k.field = 9 ∨ k.field = 10 ∨ 11 ≤ k.field from by omega) with hf | hf | hf | hf | hf | hf | hf | hf | hf | hf | hf | hf
  · have hF : (k.field : Int) = 0 := by omega
    rw [hF] at c0
    have h9 : k.field ≤ 9 := by omega
    clear hF
    have HE : Hid (k.keep bit = { k with sum := M.stepN k.sum bit }) := by unfold Hid Wk.keep Wk.keep1; rw [hf]; simp
    clear hf hdata
    go_enter Try.func94, Try.ntmps94
    go_wp2_with (first | (go_at_call 50; refine (crcStep_any k.sum bit _ hs).mono ?_; rintro o w2 ⟨rfl, rfl⟩))
    go_end0
    have h1 := HS1.out h9
    rw [HE.out]
    exact ⟨rfl, ⟨⟨v, h1.1, h1.2.1⟩, hB⟩, h1.2.2⟩
  · have hF : (k.field : Int) = 1 := by omega
    rw [hF] at c0
    have h9 : k.field ≤ 9 := by omega
    clear hF
    have HE : Hid (k.keep bit = { k with sum := M.stepN k.sum bit }) := by unfold Hid Wk.keep Wk.keep1; rw [hf]; simp
    clear hf hdata
    go_enter Try.func94, Try.ntmps94
    go_wp2_with (first | (go_at_call 50; refine (crcStep_any k.sum bit _ hs).mono ?_; rintro o w2 ⟨rfl, rfl⟩))
    go_end0
    have h1 := HS1.out h9
    rw [HE.out]
    exact ⟨rfl, ⟨⟨v, h1.1, h1.2.1⟩, hB⟩, h1.2.2⟩
  · have hF : (k.field : Int) = 2 := by omega
    rw [hF] at c0
    have h9 : k.field ≤ 9 := by omega
    clear hF
    have HE : Hid (k.keep bit = { k with sum := M.stepN k.sum bit, id := 2 * k.id + bit }) := by unfold Hid Wk.keep Wk.keep1; rw [hf]; simp
    clear hf hdata
    have hor := or_u32 k.id bit hi hbit
    go_enter Try.func94, Try.ntmps94
    go_wp2_with (first | (go_at_call 50; refine (crcStep_any k.sum bit _ hs).mono ?_; rintro o w2 ⟨rfl, rfl⟩))
    go_end0
    have h1 := HS1.out h9
    have h2 := wk_set (k' := { k with sum := M.stepN k.sum bit, id := 2 * k.id + bit }) h1.1 h1.2.1 hB 7 (.int .u32 ((2 * k.id + bit : Nat) : Int)) rfl (by simp)
    rw [HE.out]
    exact ⟨rfl, ⟨⟨v, h2.1, h2.2.1⟩, hB⟩, h1.2.2.trans h2.2.2⟩
  · have hF : (k.field : Int) = 3 := by omega
    rw [hF] at c0
    have h9 : k.field ≤ 9 := by omega
    clear hF
    have HE : Hid (k.keep bit = { k with sum := M.stepN k.sum bit, rtr := decide (bit = 1) }) := by unfold Hid Wk.keep Wk.keep1; rw [hf]; simp
    clear hf hdata
    go_enter Try.func94, Try.ntmps94
    go_wp2_with (first | (go_at_call 50; refine (crcStep_any k.sum bit _ hs).mono ?_; rintro o w2 ⟨rfl, rfl⟩))
    go_end0
    have h1 := HS1.out h9
    have h2 := wk_set (k' := { k with sum := M.stepN k.sum bit, rtr := decide (bit = 1) }) h1.1 h1.2.1 hB 8 (.bool (decide (bit = 1))) rfl (by simp)
    rw [HE.out]
    exact ⟨rfl, ⟨⟨v, h2.1, h2.2.1⟩, hB⟩, h1.2.2.trans h2.2.2⟩
  · have hF : (k.field : Int) = 4 := by omega
    rw [hF] at c0
    have h9 : k.field ≤ 9 := by omega
    clear hF
    have HE : Hid (k.keep bit = { k with sum := M.stepN k.sum bit, ext := decide (bit = 1) }) := by unfold Hid Wk.keep Wk.keep1; rw [hf]; simp
    clear hf hdata
    go_enter Try.func94, Try.ntmps94
    go_wp2_with (first | (go_at_call 50; refine (crcStep_any k.sum bit _ hs).mono ?_; rintro o w2 ⟨rfl, rfl⟩))
    go_end0
    have h1 := HS1.out h9
    have h2 := wk_set (k' := { k with sum := M.stepN k.sum bit, ext := decide (bit = 1) }) h1.1 h1.2.1 hB 6 (.bool (decide (bit = 1))) rfl (by simp)
    rw [HE.out]
    exact ⟨rfl, ⟨⟨v, h2.1, h2.2.1⟩, hB⟩, h1.2.2.trans h2.2.2⟩
  · have hF : (k.field : Int) = 5 := by omega
    rw [hF] at c0
    have h9 : k.field ≤ 9 := by omega
    clear hF
    have HE : Hid (k.keep bit = { k with sum := M.stepN k.sum bit, id := 2 * k.id + bit }) := by unfold Hid Wk.keep Wk.keep1; rw [hf]; simp
    clear hf hdata
    have hor := or_u32 k.id bit hi hbit
    go_enter Try.func94, Try.ntmps94
    go_wp2_with (first | (go_at_call 50; refine (crcStep_any k.sum bit _ hs).mono ?_; rintro o w2 ⟨rfl, rfl⟩))
    go_end0
    have h1 := HS1.out h9
    have h2 := wk_set (k' := { k with sum := M.stepN k.sum bit, id := 2 * k.id + bit }) h1.1 h1.2.1 hB 7 (.int .u32 ((2 * k.id + bit : Nat) : Int)) rfl (by simp)
    rw [HE.out]
    exact ⟨rfl, ⟨⟨v, h2.1, h2.2.1⟩, hB⟩, h1.2.2.trans h2.2.2⟩
  · have hF : (k.field : Int) = 6 := by omega
    rw [hF] at c0
    have h9 : k.field ≤ 9 := by omega
    clear hF
    have HE : Hid (k.keep bit = { k with sum := M.stepN k.sum bit, rtr := decide (bit = 1) }) := by unfold Hid Wk.keep Wk.keep1; rw [hf]; simp
    clear hf hdata
    go_enter Try.func94, Try.ntmps94
    go_wp2_with (first | (go_at_call 50; refine (crcStep_any k.sum bit _ hs).mono ?_; rintro o w2 ⟨rfl, rfl⟩))
    go_end0
    have h1 := HS1.out h9
    have h2 := wk_set (k' := { k with sum := M.stepN k.sum bit, rtr := decide (bit = 1) }) h1.1 h1.2.1 hB 8 (.bool (decide (bit = 1))) rfl (by simp)
    rw [HE.out]
    exact ⟨rfl, ⟨⟨v, h2.1, h2.2.1⟩, hB⟩, h1.2.2.trans h2.2.2⟩
  · have hF : (k.field : Int) = 7 := by omega
    rw [hF] at c0
    have h9 : k.field ≤ 9 := by omega
    clear hF
    have HE : Hid (k.keep bit = { k with sum := M.stepN k.sum bit }) := by unfold Hid Wk.keep Wk.keep1; rw [hf]; simp
    clear hf hdata
    go_enter Try.func94, Try.ntmps94
    go_wp2_with (first | (go_at_call 50; refine (crcStep_any k.sum bit _ hs).mono ?_; rintro o w2 ⟨rfl, rfl⟩))
    go_end0
    have h1 := HS1.out h9
    rw [HE.out]
    exact ⟨rfl, ⟨⟨v, h1.1, h1.2.1⟩, hB⟩, h1.2.2⟩
  · have hF : (k.field : Int) = 8 := by omega
    rw [hF] at c0
    have h9 : k.field ≤ 9 := by omega
    clear hF
    have HE : Hid (k.keep bit = { k with sum := M.stepN k.sum bit, dlc := 2 * k.dlc + bit }) := by unfold Hid Wk.keep Wk.keep1; rw [hf]; simp
    clear hf hdata
    have hor := or_i64 k.dlc bit hdl hbit
    go_enter Try.func94, Try.ntmps94
    go_wp2_with (first | (go_at_call 50; refine (crcStep_any k.sum bit _ hs).mono ?_; rintro o w2 ⟨rfl, rfl⟩))
    go_end0
    have h1 := HS1.out h9
    have h2 := wk_set (k' := { k with sum := M.stepN k.sum bit, dlc := 2 * k.dlc + bit }) h1.1 h1.2.1 hB 9 (.int .i64 ((2 * k.dlc + bit : Nat) : Int)) rfl (by simp)
    rw [HE.out]
    exact ⟨rfl, ⟨⟨v, h2.1, h2.2.1⟩, hB⟩, h1.2.2.trans h2.2.2⟩
  · have hF : (k.field : Int) = 9 := by omega
    rw [hF] at c0
    have h9 : k.field ≤ 9 := by omega
    clear hF
    have HE : Hid (k.keep bit = { k with sum := M.stepN k.sum bit, data := keepD k.data k.taken bit }) := by unfold Hid Wk.keep Wk.keep1; rw [hf]; simp
    have hdd := hdata hf
    have HDD : Hid (k.data.length ≤ 1000 ∧ (¬ k.taken % 8 = 0 → k.data ≠ []) ∧ (∀ x ∈ k.data, x < 256)) := hdd
    clear hf hdata hdd
    have h1 := HS1.out h9
    have HI : Hid (wkI B b { k with sum := M.stepN k.sum bit } (w.setCell ⟨b, 4, none⟩ (.int .i64 ((M.stepN k.sum bit : Nat) : Int)))) := ⟨⟨v, h1.1, h1.2.1⟩, hB⟩
    clear h1
    go_enter Try.func94, Try.ntmps94
    go_wp2_with (first | (go_at_call 50; refine (crcStep_any k.sum bit _ hs).mono ?_; rintro o w2 ⟨rfl, rfl⟩) | (go_at_call 100; refine (keepData_wk _ B b _ bit HI.out hbit HDD.out.1 HDD.out.2.1 HDD.out.2.2 ht).mono ?_; rintro o w5 ⟨rfl, hI5, hk5⟩))
    go_end0
    rw [HE.out]
    exact ⟨rfl, hI5, (HS1.out h9).2.2.trans hk5⟩
  · have hF : (k.field : Int) = 10 := by omega
    rw [hF] at c0
    clear hF
    have HE : Hid (k.keep bit = { k with crc := 2 * k.crc + bit }) := by unfold Hid Wk.keep Wk.keep1; simp [hf]
    clear hf hdata
    have hor := or_i64 k.crc bit hcr hbit
    go_enter Try.func94, Try.ntmps94
    go_wp2
    go_end0
    have h2 := wk_set (k' := { k with crc := 2 * k.crc + bit }) HW.out.1 HW.out.2 hB 5 (.int .i64 ((2 * k.crc + bit : Nat) : Int)) rfl (by simp)
    rw [HE.out]
    exact ⟨rfl, ⟨⟨v, h2.1, h2.2.1⟩, hB⟩, h2.2.2⟩
  · have HE : Hid (k.keep bit = k) := by
      unfold Hid Wk.keep Wk.keep1
      simp only [show ¬ (k.field = 2 ∨ k.field = 5) by omega, show ¬ (k.field = 3 ∨ k.field = 6) by omega, show ¬ k.field = 4 by omega, show ¬ k.field = 8 by omega, show ¬ k.field = 9 by omega, show ¬ k.field = 10 by omega, show ¬ k.field ≤ 9 by omega, if_false]
    have hF : (11 : Int) ≤ (k.field : Int) := by omega
    have e2 : ((k.field : Int) == 2) = false := by simp; omega
    have e3 : ((k.field : Int) == 3) = false := by simp; omega
    have e4 : ((k.field : Int) == 4) = false := by simp; omega
    have e5 : ((k.field : Int) == 5) = false := by simp; omega
    have e6 : ((k.field : Int) == 6) = false := by simp; omega
    have e8 : ((k.field : Int) == 8) = false := by simp; omega
    have e9 : ((k.field : Int) == 9) = false := by simp; omega
    have e10 : ((k.field : Int) == 10) = false := by simp; omega
    clear hf hdata
    go_enter Try.func94, Try.ntmps94
    go_wp2
    go_end0
    rw [HE.out]
    exact ⟨rfl, ⟨⟨v, HW.out.1, HW.out.2⟩, hB⟩, kept.refl _ _ _⟩
end Go.Proofs.Ytnefmdjodjpopaa
