import Derived.Test.YtihndnclplkleaaTP
namespace Go.Proofs.Ytihndnclplkleaa
open Go.RowKit

/-- the table, made or not yet -/
def tabQ (w : World) (b : Nat) : Prop := (w.cell? ⟨b, 0, none⟩ = some (.int .u32 0) ∧ w.cell? ⟨b, 1, none⟩ = some (.int .i32 0) ∧ tabS w b 1) ∨ (w.cell? ⟨b, 0, none⟩ = some (.int .u32 1) ∧ tabS w b 256)
theorem do_any (b : Nat) (w : World) (h : tabQ w b) :
    Calls Try.prog 62 #[.pointer (some ⟨b, 0, none⟩), .func (.func 63) #[.pointer (some ⟨b, 0, none⟩)] #[]] w fun e w' => e = .returned (.tuple #[]) ∧ madeT b w w' := by
  rcases h with ⟨h0, h1, ht⟩ | ⟨h0, ht⟩
  · exact do_first b w h0 h1 ht
  · refine (do_done b _ w h0).mono ?_
    rintro e w' ⟨rfl, rfl⟩
    exact ⟨rfl, h0, ht, Below.refl _ _, fun _ _ => rfl⟩
theorem madeT.q {b : Nat} {w w' : World} (h : madeT b w w') : tabQ w' b := .inr ⟨h.done, h.tab⟩
theorem step_idx (r o : Nat) (hr : r < 32768) (ho : o < 256) : bits BinOp.xor IntKind.i64 ((r : Int) / 128) (o : Int) = ((r / 128 ^^^ o : Nat) : Int) := by
  have : ((r : Int) / 128) = ((r / 128 : Nat) : Int) := by omega
  rw [this, i64_xor_nat _ _ (by omega) (by omega)]
theorem step_lt (r o : Nat) (hr : r < 32768) (ho : o < 256) : r / 128 ^^^ o < 256 := Nat.xor_lt_two_pow (n := 8) (by omega) ho
theorem step_val (r o : Nat) (hr : r < 32768) (ho : o < 256) : bits BinOp.xor IntKind.i64 (bits BinOp.and IntKind.i64 ((r : Int) * 256) 32767) (M.tabN (r / 128 ^^^ o) : Int) = (M.S8 r o : Int) := by
  have hb := M.tab_lt _ (step_lt r o hr ho)
  rw [i64_mask15 _ (by omega) (by omega), M.S8_tab r o hr ho]
  have e : ((r : Int) * 256) % 32768 = ((r * 256 % 32768 : Nat) : Int) := by omega
  rw [e, i64_xor_nat _ _ (by omega) (by omega)]
set_option maxRecDepth 100000 in
set_option maxHeartbeats 1600000 in
theorem step_any (b : Nat) (w : World) (r o : Nat) (h : tabQ w b) (hr : r < 32768) (ho : o < 256) :
    Calls Try.prog 32 #[.pointer (some ⟨b, 0, none⟩), .int .i64 (r : Int), .int .i64 (o : Int)] w fun e w' => e = .returned (.int .i64 (M.S8 r o : Int)) ∧ tabQ w' b ∧ Below b w w' ∧ ∀ k, k ≠ b → w'.heap[k]? = w.heap[k]? := by
  have hmf : ∀ (fn : Fn) (first cap : Array Value) (w : World), (Instr.makeFunc fn first cap).run Try.prog w = .ok (.func fn first cap) w := fun _ _ _ _ => rfl
  have HD : Hid (Calls Try.prog 62 #[.pointer (some ⟨b, 0, none⟩), .func (.func 63) #[.pointer (some ⟨b, 0, none⟩)] #[]] w fun e w' => e = .returned (.tuple #[]) ∧ madeT b w w') := do_any b w h
  have hix := step_idx r o hr ho
  have hlt := step_lt r o hr ho
  have HV : Hid (bits BinOp.xor IntKind.i64 (bits BinOp.and IntKind.i64 ((r : Int) * 256) 32767) (M.tabN (r / 128 ^^^ o) : Int) = (M.S8 r o : Int)) := step_val r o hr ho
  have htl := M.tab_lt _ hlt
  clear h
  generalize hk : r / 128 ^^^ o = k at *
  clear hk
  generalize M.S8 r o = z at *
  go_enter Try.func32, Try.ntmps32
  go_wp2_with (first | (go_at_call 62; refine HD.out.mono ?_; rintro e w1 ⟨rfl, hm⟩; have hcell := hm.tab.cell k hlt; rw [if_pos hlt] at hcell; generalize M.tabN k = y at *))
  go_ret
  exact ⟨ret_int HV.out, hm.q, hm.bel, hm.oth⟩
end Go.Proofs.Ytihndnclplkleaa
