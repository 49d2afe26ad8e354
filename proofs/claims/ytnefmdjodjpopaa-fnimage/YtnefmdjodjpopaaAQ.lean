import Derived.Test.YtnefmdjodjpopaaAP
namespace Go.Proofs.Ytnefmdjodjpopaa
open Go.RowKit

/-- the bounds that the walk's own numbers keep -/
structure wkOk (k : Wk) : Prop where
  run : k.last.2 ≤ 50000
  sum : k.sum < 32768
  id : k.id < 1073741824
  dlc : k.dlc ≤ 400
  crc : k.crc < 400000
  taken : k.taken ≤ 1000
  field : k.field ≤ 100
  data : k.field = 9 → k.data.length ≤ 1000 ∧ (¬ k.taken % 8 = 0 → k.data ≠ []) ∧ (∀ x ∈ k.data, x < 256)
def Wk.heard (k : Wk) (c : Nat) : Wk := { k with last := M.hear k.last c }
/-- one letter taken: the walk behind it, the code -/
def Wk.take (k : Wk) (c : Nat) : Wk × Nat :=
  if k.due = true ∧ c = k.last.1 then (k, 3)
  else if k.due = true then (k.heard c, 0)
  else (((k.heard c).keep (c - 48)).adv, (k.heard c).plainCode (c - 48))
theorem keep_dlc (k : Wk) (bit : Nat) (hb : bit < 2) (h : k.dlc ≤ 400) : (k.keep bit).dlc ≤ 1000 := by
  unfold Wk.keep Wk.keep1
  (repeat' split) <;> ((try dsimp only); omega)
theorem keep_taken (k : Wk) (bit : Nat) : (k.keep bit).taken = k.taken := by
  unfold Wk.keep Wk.keep1
  (repeat' split) <;> rfl
theorem keep_field (k : Wk) (bit : Nat) : (k.keep bit).field = k.field := by
  unfold Wk.keep Wk.keep1
  (repeat' split) <;> rfl

set_option maxHeartbeats 2000000 in
theorem take_wk (w : World) (B b : Nat) (k : Wk) (c : Nat) (h : wkI B b k w) (hok : wkOk k) (hc : M.isL c) :
    Calls Try.prog 91 #[.pointer (some ⟨b, 0, none⟩), .int .i32 (c : Int)] w fun e w' => e = .returned (.int .i64 ((k.take c).2 : Nat)) ∧ wkI B b (k.take c).1 w' ∧ kept B b w w' := by
  have h' := h
  obtain ⟨⟨v, hw, ho⟩, hB⟩ := h'
  have c2 := hw.cells.2.2.1
  have HI : Hid (wkI B b k w) := h
  have HW : Hid (wkAt w b k v) := hw
  clear h hw ho
  cases hdue : k.due
  · -- a plain bit
    have HE : Hid (k.take c = (((k.heard c).keep (c - 48)).adv, (k.heard c).plainCode (c - 48))) := by unfold Hid Wk.take; simp [hdue]
    have HD : Hid (k.due = false) := hdue
    have hbit : c - 48 < 2 := by rcases hc with rfl | rfl <;> decide
    have hcb : (c : Int) - 48 = ((c - 48 : Nat) : Int) := by rcases hc with rfl | rfl <;> rfl
    have HCB : Hid ((c : Int) - 48 = ((c - 48 : Nat) : Int)) := hcb
    have hc1 : (48 : Int) ≤ (c : Int) := by rcases hc with rfl | rfl <;> decide
    have hc2 : (c : Int) ≤ 49 := by rcases hc with rfl | rfl <;> decide
    have HOK : Hid (wkOk k) := hok
    clear hdue hcb hok hc
    go_enter Try.func91, Try.ntmps91
    go_wp2_with fail
    refine (due_wk w b k v HW.out).mono ?_
    rw [HD.out]
    rintro o w1 ⟨rfl, rfl⟩
    go_wp2_with fail
    refine (hear_wk w B b k c HI.out (by have := HOK.out.run; omega)).mono ?_
    rintro o w1 ⟨rfl, hI1, hk1⟩
    have HI1 : Hid (wkI B b (k.heard c) w1) := hI1
    clear hI1
    obtain ⟨⟨v1, hw1, _⟩, _⟩ := HI1.out
    go_wp2_with fail
    rw [HCB.out]
    refine (plainCode_wk w1 b (k.heard c) v1 (c - 48) hw1 hbit).mono ?_
    rintro o w2 ⟨rfl, q, rfl⟩
    have hI2 : wkI B b (k.heard c) (w1.drewN q) := by
      obtain ⟨⟨v2, a2, b2⟩, l2⟩ := HI1.out
      exact ⟨⟨v2, a2, b2.drewN q⟩, l2⟩
    have hk2 : kept B b w (w1.drewN q) := hk1.drewN q
    clear hw1 hk1
    go_wp2_with fail
    refine (keep_wk (w1.drewN q) B b (k.heard c) (c - 48) hI2 hbit HOK.out.sum HOK.out.id (by have := HOK.out.dlc; show k.dlc < 1000000; omega) (by have := HOK.out.crc; show k.crc < 1000000; omega) (by have := HOK.out.taken; show k.taken ≤ 1000000; omega) HOK.out.data).mono ?_
    rintro o w3 ⟨rfl, hI3, hk3⟩
    go_wp2_with fail
    refine (advance_wk w3 B b ((k.heard c).keep (c - 48)) hI3 (keep_dlc _ _ hbit HOK.out.dlc) (by rw [keep_taken]; have := HOK.out.taken; show k.taken ≤ 1000000; omega) (by rw [keep_field]; have := HOK.out.field; show k.field ≤ 1000; omega)).mono ?_
    rintro o w4 ⟨rfl, hI4, hk4⟩
    go_wp2
    go_ret
    rw [HE.out]
    exact ⟨rfl, hI4, hk2.trans (hk3.trans hk4)⟩
  · by_cases hl : c = k.last.1
    · have HE : Hid (k.take c = (k, 3)) := by unfold Hid Wk.take; rw [if_pos ⟨hdue, hl⟩]
      have hq : ((c : Int) == (k.last.1 : Int)) = true := by simp; omega
      have HD : Hid (k.due = true) := hdue
      clear hdue hl hok hc
      go_enter Try.func91, Try.ntmps91
      go_wp2_with (first | (go_at_call 72; refine (due_wk w b k v HW.out).mono ?_; rw [HD.out]; rintro o w1 ⟨rfl, rfl⟩))
      go_ret
      rw [HE.out]
      exact ⟨rfl, HI.out, kept.refl _ _ _⟩
    · have HE : Hid (k.take c = (k.heard c, 0)) := by unfold Hid Wk.take; rw [if_neg (fun hh => hl hh.2), if_pos hdue]
      have hq : ((c : Int) == (k.last.1 : Int)) = false := by simp; omega
      have HD : Hid (k.due = true) := hdue
      have HR : Hid (k.last.2 ≤ 100000) := by have := hok.run; unfold Hid; omega
      clear hdue hl hok hc
      go_enter Try.func91, Try.ntmps91
      go_wp2_with (first | (go_at_call 72; refine (due_wk w b k v HW.out).mono ?_; rw [HD.out]; rintro o w1 ⟨rfl, rfl⟩))
      refine (hear_wk w B b k c HI.out HR.out).mono ?_
      rintro o w1 ⟨rfl, hI1, hk1⟩
      go_wp2
      go_ret
      rw [HE.out]
      exact ⟨rfl, hI1, hk1⟩
end Go.Proofs.Ytnefmdjodjpopaa
