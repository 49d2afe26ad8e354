import Derived.Test.YtfbeaekddgpmmaaGreatDoorK21
import Derived.Test.YtfbeaekddgpmmaaGreatDoorK01
namespace Go.Proofs.YtfbeaekddgpmmaaGreatDoor
open Go.RowKit Kd
set_option linter.unusedVariables false
/-- what a word says -/
structure Vl where
  n : Int
  x : Int
  d : List Nat
def vlOf (c : Nat) (s : ByteArray) : Vl :=
  if c = 110 then ⟨(valN (lt s) 10 : Int), 0, []⟩ else if c = 104 then ⟨0, (valN (lt s) 16 : Int), []⟩ else if c = 100 then ⟨0, 0, datL s⟩
  else if c = 107 then ⟨choice s wRef wOpt, 0, []⟩ else if c = 112 then ⟨choice s wOld wNew, 0, []⟩ else ⟨choice s wB wX, 0, []⟩
def formI (c : Nat) (s : ByteArray) : Bool := formB (if c = 119 then 120 else c) s
def kV : Kn Vl := ⟨132, 3, fun x h => [.int .i64 x.n, .int .u32 x.x, hdV h], 5, 1, fun x => x.d.length, fun x => bv x.d⟩
theorem dg_num (s : ByteArray) (hs : 1 ≤ s.size) (b m : Nat) : dgB (lt s) b m = numB (lt s) b m := by
  unfold dgB numB
  rw [lt_length]
  simp [hs]
theorem choice_form (s : ByteArray) (a b : List UInt8) : decide (0 ≤ choice s a b) = ((s.toList == a) || (s.toList == b)) := by
  unfold choice
  cases h : (s.toList == a) <;> cases h' : (s.toList == b) <;> simp
/-- the letters of the kinds of words -/
def isKind (c : Nat) : Prop := c = 110 ∨ c = 104 ∨ c = 100 ∨ c = 107 ∨ c = 112 ∨ c = 119
theorem valueOf_any (c : Nat) (hc : isKind c) (s : ByteArray) (hs1 : 1 ≤ s.size) (hs : s.size ≤ 20000) (hA : ∀ k (h : k < s.size), s[k].toNat < 128) (w : World) :
    Calls Tryz.prog 79 #[.int .i32 (c : Int), .string s] w fun o w' => ∃ n x h, o = .returned (.tuple #[vlV n x (hdV h), .bool (formI c s)]) ∧ (formI c s = true → n = (vlOf c s).n ∧ x = (vlOf c s).x ∧ w'.ownsRow w.heap.size 5 1 (hdV h) (vlOf c s).d.length (bv (vlOf c s).d)) ∧ Below w.heap.size w w' := by
  rcases hc with rfl | rfl | rfl | rfl | rfl | rfl
  · refine (valueOf_n s hA w).mono ?_
    rintro o w' ⟨rfl, hb⟩
    have e : dgB (lt s) 10 6 = formI 110 s := dg_num s hs1 10 6
    refine ⟨_, 0, (none, 0, 0), by rw [← e], fun h => ⟨?_, rfl, World.ownsRow_nil _ _ _ _⟩, hb⟩
    show (dgN (lt s) 10 6 : Int) = _
    unfold dgN
    rw [e, if_pos h]
    rfl
  · refine (valueOf_h s hA w).mono ?_
    rintro o w' ⟨rfl, hb⟩
    have e : dgB (lt s) 16 8 = formI 104 s := dg_num s hs1 16 8
    refine ⟨0, _, (none, 0, 0), by rw [← e], fun h => ⟨rfl, ?_, World.ownsRow_nil _ _ _ _⟩, hb⟩
    show (dgN (lt s) 16 8 : Int) = _
    unfold dgN
    rw [e, if_pos h]
    rfl
  · refine (valueOf_d s hs1 hs hA w).mono ?_
    rintro o w' ⟨ao, n, cp, rfl, ho, hb⟩
    exact ⟨0, 0, (ao, n, cp), rfl, fun h => ⟨rfl, rfl, ownsRow_lower (ho h) (Nat.le_succ _)⟩, hb⟩
  · refine (valueOf_k s w).mono ?_
    rintro o w' ⟨rfl, hb⟩
    exact ⟨_, 0, (none, 0, 0), by rw [choice_form]; rfl, fun h => ⟨rfl, rfl, World.ownsRow_nil _ _ _ _⟩, hb⟩
  · refine (valueOf_p s w).mono ?_
    rintro o w' ⟨rfl, hb⟩
    exact ⟨_, 0, (none, 0, 0), by rw [choice_form]; rfl, fun h => ⟨rfl, rfl, World.ownsRow_nil _ _ _ _⟩, hb⟩
  · refine (valueOf_w s w).mono ?_
    rintro o w' ⟨rfl, hb⟩
    exact ⟨_, 0, (none, 0, 0), by rw [choice_form]; rfl, fun h => ⟨rfl, rfl, World.ownsRow_nil _ _ _ _⟩, hb⟩
end Go.Proofs.YtfbeaekddgpmmaaGreatDoor
