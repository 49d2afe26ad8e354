import Derived.Test.YtfbeaekddgpmmaaGreatDoorK17
import Derived.Laws.RangeString
import Derived.Laws.RangeAny
namespace Go.Proofs.YtfbeaekddgpmmaaGreatDoor
open Go.RowKit
set_option linter.unusedVariables false
theorem iter_below (w : World) (s : ByteArray) (p : Nat) : Below w.heap.size w (w.iter s p) := (Below.refl _ _).alloc (Nat.le_refl _) _
set_option maxHeartbeats 2000000 in
set_option maxRecDepth 100000 in
/-- impl.isScriptText -/
theorem isText_any (s : ByteArray) (w : World) :
    Calls Tryz.prog 29 #[.string s] w fun o w' => o = .returned (.bool (okTx s)) ∧ Below w.heap.size w w' := by
  by_cases hl : (20000 : Int) < (s.size : Int)
  · have e : okTx s = false := okTx_long (by omega)
    rw [e]
    go_enter Tryz.func29, Tryz.ntmps29
    go_wp2
    go_ret
    exact ⟨rfl, Below.refl _ _⟩
  · go_enter Tryz.func29, Tryz.ntmps29
    go_wp2
    go_loopw [] (fun w' => ∃ k : Nat, k ≤ s.size ∧ w' = w.iter s k ∧ ((lt s).take k).all okC = true) (fun w' => s.size - w'.iterPos w.heap.size)
    case atStart => exact ⟨0, Nat.zero_le _, rfl, by simp⟩
    case round =>
      obtain ⟨k, hk, rfl, ha⟩ := hrel
      have HA := hidYY ha
      have HB := hidYY (iter_below w s)
      clear ha
      by_cases hlt : k < s.size
      · by_cases hc : s[k].toNat < 128
        · have hnx : ∀ ty, (Instr.next (.pointer (some ⟨w.heap.size, 0, none⟩)) true ty).run Tryz.prog (w.iter s k) = _ := fun ty => run_next_ascii w s k ty hlt hc
          cases hcc : okC s[k].toNat
          · have HE := hidYY (okTx_bad hlt hcc).symm
            simp only [okC, Bool.or_eq_false_iff, Bool.and_eq_false_iff, beq_eq_false_iff_ne, decide_eq_false_iff_not] at hcc
            obtain ⟨c0, c1⟩ := hcc
            have g0 : ((s[k].toNat : Int) != 10) = true := by simp only [bne_iff_ne]; omega
            by_cases g1 : (s[k].toNat : Int) < 32
            · go_wp2
              go_ret
              exact ⟨ret_bool HE.out, HB.out _⟩
            · have g2 : (126 : Int) < (s[k].toNat : Int) := by omega
              go_wp2
              go_ret
              exact ⟨ret_bool HE.out, HB.out _⟩
          · have HN := hidYY (all_snoc hlt HA.out hcc)
            simp only [okC, Bool.or_eq_true, Bool.and_eq_true, beq_iff_eq, decide_eq_true_eq] at hcc
            by_cases h10 : s[k].toNat = 10
            · have g0 : ((s[k].toNat : Int) != 10) = false := by rw [h10]; rfl
              go_wp2
              go_roundw
              case rel => exact ⟨k + 1, by omega, rfl, HN.out⟩
              case measure => simp; omega
            · have g0 : ((s[k].toNat : Int) != 10) = true := by simp only [bne_iff_ne]; omega
              have g1 : ¬ (s[k].toNat : Int) < 32 := by omega
              have g2 : ¬ (126 : Int) < (s[k].toNat : Int) := by omega
              go_wp2
              go_roundw
              case rel => exact ⟨k + 1, by omega, rfl, HN.out⟩
              case measure => simp; omega
        · have hnx : ∀ ty, (Instr.next (.pointer (some ⟨w.heap.size, 0, none⟩)) true ty).run Tryz.prog (w.iter s k) = _ := fun ty => run_next_any w s k ty hlt
          obtain ⟨d1, d2⟩ := decode_high s k hlt (by omega)
          have d3 := decode_le s k
          have HE : Hid (false = okTx s) := (okTx_bad hlt (by simp only [okC, Bool.or_eq_false_iff, Bool.and_eq_false_iff, beq_eq_false_iff_ne, decide_eq_false_iff_not]; omega)).symm
          have g0 : (((Utf8.decode s k).1 : Int) != 10) = true := by simp only [bne_iff_ne]; omega
          have g1 : ¬ ((Utf8.decode s k).1 : Int) < 32 := by omega
          have g2 : (126 : Int) < ((Utf8.decode s k).1 : Int) := by omega
          generalize (Utf8.decode s k).1 = R at *
          go_wp2
          go_ret
          exact ⟨ret_bool HE.out, HB.out _⟩
      · have hnx : ∀ ty, (Instr.next (.pointer (some ⟨w.heap.size, 0, none⟩)) true ty).run Tryz.prog (w.iter s k) = _ := fun ty => run_next_end w s k ty hlt
        have HE := hidYY (okTx_all (by omega) k (by omega) HA.out)
        go_wp2
        go_ret
        exact ⟨ret_bool HE.out.symm, HB.out _⟩
end Go.Proofs.YtfbeaekddgpmmaaGreatDoor
