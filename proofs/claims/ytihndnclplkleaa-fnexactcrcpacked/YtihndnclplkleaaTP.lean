import Derived.Test.YtihndnclplkleaaTO
import Derived.Laws.NewBlocks
namespace Go.Proofs.Ytihndnclplkleaa
open Go.RowKit

/-- the table made: done, filled, all other blocks as they were -/
structure madeT (b : Nat) (w w' : World) : Prop where
  done : w'.cell? ⟨b, 0, none⟩ = some (.int .u32 1)
  tab : tabS w' b 256
  bel : Below b w w'
  oth : ∀ k, k ≠ b → w'.heap[k]? = w.heap[k]?
theorem tabS.low {w : World} {b m : Nat} (h : tabS w b m) (j : Nat) (hj : j < 3) (v : Value) : tabS (w.setCell ⟨b, j, none⟩ v) b m := by
  refine ⟨fun i hi => ?_, fun i => by rw [World.frozen?_setCell]; exact h.free i⟩
  rw [World.cell?_setCell_other _ _ _ _ (by intro e; simp at e; try omega)]
  exact h.cell i hi
theorem bload (a : Addr) (d : Int) (w : World) (h : w.cell? a = some (.int .u32 d)) :
    Calls Try.prog 81 #[.pointer (some a)] w fun e w' => e = .returned (.bool (d != 0)) ∧ w = w' := by
  have hl := run_call_load (P := Try.prog) Try.func91 (by kernel_rfl) (by kernel_rfl) (by kernel_rfl) .u32 (by kernel_rfl) h
  go_enter Try.func81, Try.ntmps81
  go_wp2
  go_ret
  exact ⟨rfl, rfl⟩
set_option maxRecDepth 100000 in
set_option maxHeartbeats 1600000 in
theorem slow_any (b : Nat) (w : World) (h0 : w.cell? ⟨b, 0, none⟩ = some (.int .u32 0)) (h1 : w.cell? ⟨b, 1, none⟩ = some (.int .i32 0)) (ht : tabS w b 1) :
    Calls Try.prog 82 #[.pointer (some ⟨b, 0, none⟩), .func (.func 63) #[.pointer (some ⟨b, 0, none⟩)] #[]] w fun e w' => e = .returned (.tuple #[]) ∧ madeT b w w' := by
  have f0 := ht.free 0
  have f1 := ht.free 1
  have hc1 : (w.setCell ⟨b, 1, none⟩ (.int .i32 1)).cell? ⟨b, 0, none⟩ = some (.int .u32 0) := (World.cell?_setCell_other _ ⟨b, 1, none⟩ ⟨b, 0, none⟩ _ (by simp)).trans h0
  have HL : Hid (Calls Try.prog 81 #[.pointer (some ⟨b, 0, none⟩)] (w.setCell ⟨b, 1, none⟩ (.int .i32 1)) fun e w' => e = .returned (.bool false) ∧ (w.setCell ⟨b, 1, none⟩ (.int .i32 1)) = w') := bload _ 0 _ hc1
  have hnot : ∀ (x : Bool) (w : World), (Op.unary .not (.bool x)).run Try.prog w = .ok (.bool (!x)) w := fun _ _ => rfl
  have HF : Hid (Calls Try.prog 63 #[.pointer (some ⟨b, 0, none⟩)] (w.setCell ⟨b, 1, none⟩ (.int .i32 1)) fun o w' => o = .returned (.tuple #[]) ∧ tabS w' b 256 ∧ tabO b (w.setCell ⟨b, 1, none⟩ (.int .i32 1)) w') := fill_any _ b (ht.low 1 (by decide) _)
  have HT : Hid (tabS w b 1) := ht
  clear ht
  go_enter_defers Try.func82, Try.ntmps82
  go_wp2_with (first | (go_at_call 81; refine HL.out.mono ?_; rintro e w' ⟨rfl, rfl⟩) | (go_at_call 92; refine (lock_free ⟨b, 1, none⟩ _ (by go_simp) (by go_simp)).mono ?_; rintro e w' ⟨rfl, rfl⟩) | (go_at_call 63; refine HF.out.mono ?_; rintro e w2 ⟨rfl, t2, o2⟩))
  have c0 : w2.cell? ⟨b, 0, none⟩ = some (.int .u32 0) := (o2.low 0 (by decide)).trans hc1
  have c1 : w2.cell? ⟨b, 1, none⟩ = some (.int .i32 1) := (o2.low 1 (by decide)).trans (World.cell?_setCell_same w _ _ h1)
  refine leaves_cons (f := 94) (args := #[.pointer (some ⟨b, 0, none⟩), .bool true]) (by simp) (by simp [go_sem]) ?_
  refine (store_deferred ⟨b, 0, none⟩ (.int .u32 0) .returning _ c0 (t2.free 0)).mono ?_
  rintro e u' w3 ⟨rfl, rfl, rfl⟩
  refine leaves_cons (f := 93) (args := #[.pointer (some ⟨b, 1, none⟩)]) (by simp [settle]) (by simp [go_sem]) ?_
  refine (unlock_deferred ⟨b, 1, none⟩ _ _ ?_ (by simp [t2.free 1])).mono ?_
  · refine (World.cell?_setCell_other _ ⟨b, 0, none⟩ ⟨b, 1, none⟩ _ (by simp)).trans ?_
    rw [World.cell?_drew]
    exact c1
  rintro e u' w4 ⟨rfl, rfl, rfl⟩
  have hm : madeT b w ((w2.drew.setCell ⟨b, 0, none⟩ (.int .u32 1)).setCell ⟨b, 1, none⟩ (.int .i32 0)) := by
    refine ⟨?_, (t2.drew.low 0 (by decide) _).low 1 (by decide) _, ?_, fun k hk => ?_⟩
    · rw [World.cell?_setCell_other _ ⟨b, 1, none⟩ ⟨b, 0, none⟩ _ (by simp)]
      exact World.cell?_setCell_same _ _ _ (by rw [World.cell?_drew]; exact c0)
    · exact ((((Below.refl b w).setCell (p := ⟨b, 1, none⟩) (by simp) _).trans o2.bel).drew.setCell (p := ⟨b, 0, none⟩) (by simp) _).setCell (p := ⟨b, 1, none⟩) (by simp) _
    · exact (heap_setCell_other _ ⟨b, 1, none⟩ k _ hk).trans ((heap_setCell_other _ ⟨b, 0, none⟩ k _ hk).trans ((o2.oth k hk).trans (heap_setCell_other w ⟨b, 1, none⟩ k _ hk)))
  simp [Leaves, settle, results, Try.results82]
  exact hm
set_option maxRecDepth 100000 in
set_option maxHeartbeats 1600000 in
theorem do_first (b : Nat) (w : World) (h0 : w.cell? ⟨b, 0, none⟩ = some (.int .u32 0)) (h1 : w.cell? ⟨b, 1, none⟩ = some (.int .i32 0)) (ht : tabS w b 1) :
    Calls Try.prog 62 #[.pointer (some ⟨b, 0, none⟩), .func (.func 63) #[.pointer (some ⟨b, 0, none⟩)] #[]] w fun e w' => e = .returned (.tuple #[]) ∧ madeT b w w' := by
  have hnot : ∀ (x : Bool) (w : World), (Op.unary .not (.bool x)).run Try.prog w = .ok (.bool (!x)) w := fun _ _ => rfl
  have HL : Hid (Calls Try.prog 81 #[.pointer (some ⟨b, 0, none⟩)] w fun e w' => e = .returned (.bool false) ∧ w = w') := bload _ 0 _ h0
  have HS := slow_any b w h0 h1 ht
  clear ht
  go_enter Try.func62, Try.ntmps62
  go_wp2_with (first | (go_at_call 81; refine HL.out.mono ?_; rintro e w' ⟨rfl, rfl⟩) | (go_at_call 82; refine HS.mono ?_; rintro e w' ⟨rfl, hm⟩))
  go_end0
  exact ⟨rfl, hm⟩
theorem do_done (b : Nat) (fv : Value) (w : World) (h0 : w.cell? ⟨b, 0, none⟩ = some (.int .u32 1)) :
    Calls Try.prog 62 #[.pointer (some ⟨b, 0, none⟩), fv] w fun e w' => e = .returned (.tuple #[]) ∧ w' = w := by
  have hnot : ∀ (x : Bool) (w : World), (Op.unary .not (.bool x)).run Try.prog w = .ok (.bool (!x)) w := fun _ _ => rfl
  have HL : Hid (Calls Try.prog 81 #[.pointer (some ⟨b, 0, none⟩)] w fun e w' => e = .returned (.bool true) ∧ w = w') := bload _ 1 _ h0
  go_enter Try.func62, Try.ntmps62
  go_wp2_with (first | (go_at_call 81; refine HL.out.mono ?_; rintro e w' ⟨rfl, rfl⟩))
  go_end0
  exact ⟨rfl, rfl⟩
end Go.Proofs.Ytihndnclplkleaa
