import Derived.Test.YtjmlalojfghkiaaDoorR05
import Derived.Deep.DeepCutAuto
namespace Go.Proofs.YtjmlalojfghkiaaDoor
open Go.RowKit
set_option linter.unusedVariables false
theorem isRegister_any (w : World) (v : Int) : Calls Tryd.prog 49 #[.int .i64 v] w fun o w' => retB o (0 ≤ v ∧ v ≤ 32767) ∧ w' = w := by
  go_enter Tryd.func49, Tryd.ntmps49
  go_wp2
  all_goals (go_ret; refine ⟨⟨_, rfl, ?_⟩, rfl⟩; simp; try omega)
theorem isLevel_any (w : World) (v : Int) : Calls Tryd.prog 28 #[.int .i64 v] w fun o w' => retB o (v = 0 ∨ v = 1) ∧ w' = w := by
  go_enter Tryd.func28, Tryd.ntmps28
  go_wp2
  all_goals (go_ret; refine ⟨⟨_, rfl, ?_⟩, rfl⟩; simp_all)
theorem ite_y {c p q : Prop} [Decidable c] {b : Bool} (hc : c) (h : b = true ↔ p) : b = true ↔ (if c then p else q) := by rw [if_pos hc]; exact h
theorem ite_n {c p q : Prop} [Decidable c] {b : Bool} (hc : ¬ c) (h : b = true ↔ q) : b = true ↔ (if c then p else q) := by rw [if_neg hc]; exact h
def runOk (S : Sc) : Prop := if S.f = 1 ∨ 11 < S.f then S.rn = 0 ∧ S.lv = 0 else 1 ≤ S.rn ∧ S.rn ≤ 5 ∧ (S.lv = 0 ∨ S.lv = 1)
set_option maxHeartbeats 4000000 in
theorem soundRun_any (w : World) (S : Sc) (a : Option Addr) (n cap : Nat) :
    Calls Tryd.prog 50 #[scV S a n cap] w fun o w' => retB o (runOk S) ∧ Below w.heap.size w w' := by
  have HL : Hid (∀ (W : World) (v : Int), Calls Tryd.prog 28 #[.int .i64 v] W fun o w' => retB o (v = 0 ∨ v = 1) ∧ w' = W) := fun W v => isLevel_any W v
  obtain ⟨f, lf, rn, lv, cr, ac, e, i, r, d, l⟩ := S
  have HK : Hid (∀ b : Bool, (b = true ↔ (if f = 1 ∨ 11 < f then rn = 0 ∧ lv = 0 else 1 ≤ rn ∧ rn ≤ 5 ∧ (lv = 0 ∨ lv = 1))) → (b = true ↔ runOk ⟨f, lf, rn, lv, cr, ac, e, i, r, d, l⟩)) := fun b h => h
  generalize runOk ⟨f, lf, rn, lv, cr, ac, e, i, r, d, l⟩ = P at *
  go_enter Tryd.func50, Tryd.ntmps50
  go_wp2_with (first | (go_at_call 28; refine (HL.out _ lv).mono ?_; rintro o w1 ⟨⟨bb, rfl, hbb⟩, rfl⟩; have HBB : Hid _ := hbb; clear hbb; cases bb))
  all_goals
    go_ret
    refine ⟨⟨_, rfl, HK.out _ ?_⟩, (Below.refl _ _).alloc (Nat.le_refl _) _⟩
    clear HK HL
    by_cases q : f = 1 ∨ 11 < f
    · rw [if_pos q]
      first | (simp; done) | (simp; omega) | (simp_all; done) | (simp_all; omega)
    · rw [if_neg q]
      first | (simp; done) | (simp; omega) | (have hbb := HBB.out; clear HBB; simp at hbb; simp; omega) | (simp_all; done) | (simp_all; omega)
end Go.Proofs.YtjmlalojfghkiaaDoor
