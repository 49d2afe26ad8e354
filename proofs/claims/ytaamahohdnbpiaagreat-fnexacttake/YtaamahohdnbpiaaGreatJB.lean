import Derived.Test.YtaamahohdnbpiaaGreatJA
namespace Go.Proofs.YtaamahohdnbpiaaGreat
open Go.RowKit
set_option linter.unusedVariables false
/-- the answer is a bool that says P -/
def retB (o : Ending) (P : Prop) : Prop := ∃ b : Bool, o = .returned (.bool b) ∧ (b = true ↔ P)
def hoL (H : Ho) (s : Sl) : List Value := [.int .i64 H.c0, .int .i64 H.c1, .int .i64 H.c2, .int .i64 H.c3, .slice s.a1 s.n1 s.k1, .slice s.a2 s.n2 s.k2, .slice s.a3 s.n3 s.k3, .slice s.a4 s.n4 s.k4, .int .i64 H.lo, .int .i64 H.st]
theorem hoV_L (H : Ho) (s : Sl) : hoV H s = .agg (hoL H s).toArray := rfl
theorem hoL_len (H : Ho) (s : Sl) : (hoL H s).length = 10 := rfl
theorem sz41L (H : Ho) (s : Sl) : (Tryz.prog.info? 35).map (·.size) = some (hoL H s).length := sz41
theorem sz41A (H : Ho) (s : Sl) : (Tryz.prog.info? 35).map (·.size) = some (hoL H s).toArray.size := sz41
theorem hoL_one (H : Ho) (s : Sl) : (hoL H s).toArray.all (·.oneCell') = true := all_oneCell_toArray (by simp [hoL, Value.oneCell'])
/-- the zero frame -/
def zFr (e : Bool) (i : Nat) (r : Bool) (d : Int) (n : Nat) : Prop := e = false ∧ i = 0 ∧ r = false ∧ d = 0 ∧ n = 0
set_option maxHeartbeats 2000000 in
theorem l3zeroFrame_any (w : World) (e : Bool) (i : Nat) (r : Bool) (d : Int) (a : Option Addr) (n cap : Nat) :
    Calls Tryz.prog 137 #[frV e i r d a n cap] w fun o w' => retB o (zFr e i r d n) ∧ Below w.heap.size w w' := by
  have HB : Hid (Below w.heap.size w (w.alloc (.cells #[.bool e, .int .u32 (i : Int), .bool r, .int .i64 d, .slice a n cap] 25))) := (Below.refl _ _).alloc (Nat.le_refl _) _
  cases e
  · by_cases hi : i = 0
    · subst hi
      cases r
      · by_cases hd : d = 0
        · subst hd
          go_enter Tryz.func137, Tryz.ntmps137
          go_wp2
          go_ret
          refine ⟨⟨_, rfl, ?_⟩, HB.out⟩
          unfold zFr
          simp
          try omega
        · have hd' : (d == 0) = false := by simpa using hd
          clear hd
          go_enter Tryz.func137, Tryz.ntmps137
          go_wp2
          go_ret
          refine ⟨⟨_, rfl, ?_⟩, HB.out⟩
          unfold zFr
          simp at hd'
          simp [hd']
      · go_enter Tryz.func137, Tryz.ntmps137
        go_wp2
        go_ret
        refine ⟨⟨_, rfl, ?_⟩, HB.out⟩
        unfold zFr
        simp
    · have hi' : ((i : Int) == 0) = false := by simpa using hi
      clear hi
      go_enter Tryz.func137, Tryz.ntmps137
      go_wp2
      go_ret
      refine ⟨⟨_, rfl, ?_⟩, HB.out⟩
      unfold zFr
      simp at hi'
      simp [hi']
  · go_enter Tryz.func137, Tryz.ntmps137
    go_wp2
    go_ret
    refine ⟨⟨_, rfl, ?_⟩, HB.out⟩
    unfold zFr
    simp
end Go.Proofs.YtaamahohdnbpiaaGreat
