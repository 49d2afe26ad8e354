import Derived.Test.YtaamahohdnbpiaaGreatGE
namespace Go.Proofs.YtaamahohdnbpiaaGreat
open Go.RowKit
set_option linter.unusedVariables false
set_option maxHeartbeats 4000000 in
/-- cmp.Or of two numbers -/
theorem or2_any (w : World) (g : Nat) (a b : Int) (h : w.heap[g]? = some (.cells #[.int .i64 a, .int .i64 b] 3)) :
    Calls Tryz.prog 173 #[.slice (some ⟨g, 0, none⟩) 2 2] w fun o w' => o = .returned (.int .i64 (if a = 0 then b else a)) ∧ w = w' := by
  have c0 : w.cell? ⟨g, 0, none⟩ = some (.int .i64 a) := by simp [World.cell?, h]
  have c1 : w.cell? ⟨g, 1, none⟩ = some (.int .i64 b) := by simp [World.cell?, h]
  clear h
  by_cases ha : a = 0
  · subst ha
    by_cases hb : b = 0
    · subst hb
      go_enter Tryz.func173, Tryz.ntmps173
      go_wp2_with fail
      go_loopw [8] (fun i wr => ∃ k : Nat, k ≤ 2 ∧ i = .int .i64 (k : Int) ∧ wr = w) (fun i _ => 2 - (intOf i).toNat)
      case atStart => exact ⟨0, Nat.zero_le _, rfl, rfl⟩
      case round =>
        obtain ⟨k, hk, rfl, rfl⟩ := hrel
        match k, hk with
        | 0, _ =>
          go_wp2
          go_roundw
          case rel => exact ⟨1, by omega, rfl, trivial⟩
          case measure => simp [intOf]
        | 1, _ =>
          go_wp2
          go_roundw
          case rel => exact ⟨2, by omega, rfl, trivial⟩
          case measure => simp [intOf]
        | 2, _ =>
          go_wp2
          go_ret
          exact ⟨rfl, rfl⟩
    · have hb' : (b == 0) = false := by simpa using hb
      go_enter Tryz.func173, Tryz.ntmps173
      go_wp2_with fail
      go_loopw [8] (fun i wr => ∃ k : Nat, k ≤ 1 ∧ i = .int .i64 (k : Int) ∧ wr = w) (fun i _ => 2 - (intOf i).toNat)
      case atStart => exact ⟨0, Nat.zero_le _, rfl, rfl⟩
      case round =>
        obtain ⟨k, hk, rfl, rfl⟩ := hrel
        match k, hk with
        | 0, _ =>
          go_wp2
          go_roundw
          case rel => exact ⟨1, by omega, rfl, trivial⟩
          case measure => simp [intOf]
        | 1, _ =>
          go_wp2
          go_ret
          exact ⟨rfl, rfl⟩
  · have ha' : (a == 0) = false := by simpa using ha
    rw [if_neg ha]
    go_enter Tryz.func173, Tryz.ntmps173
    go_wp2_with fail
    go_loopw [8] (fun i wr => i = .int .i64 0 ∧ wr = w) (fun i _ => 0)
    case atStart => exact ⟨rfl, rfl⟩
    case round =>
      obtain ⟨rfl, rfl⟩ := hrel
      go_wp2
      go_ret
      exact ⟨rfl, rfl⟩
/-- what goesAhead keeps -/
structure gaS (w : World) (L1 L2 : List Value) (W : World) : Prop where
  p : blk W w.heap.size L1 97
  q : blk W (w.heap.size + 1) L2 97
  b : Below w.heap.size w W
theorem gaS.below {w : World} {L1 L2 : List Value} {W W' : World} (h : gaS w L1 L2 W) (hb : Below W.heap.size W W') : gaS w L1 L2 W' := ⟨h.p.below hb, h.q.below hb, h.b.trans (hb.mono h.b.size)⟩
theorem ahead_val (A B : R8) : decide ((if Lib.compareBytes (arbA A).data.toList (arbA B).data.toList = 0 then Lib.compareInt A.z B.z else Lib.compareBytes (arbA A).data.toList (arbA B).data.toList) < 0) = befS A B := by
  have h := cmpB_lt (arbA A).data.toList (arbA B).data.toList
  unfold befS
  rw [ByteArray.toList_eq, ByteArray.toList_eq]
  by_cases e : arbA A = arbA B
  · rw [if_pos e, if_pos (h.1.2 (by rw [e]))]
    exact decide_eq_decide.2 (cmpI _ _)
  · rw [if_neg e, if_neg (fun x => e (ByteArray.ext (Array.toList_inj.1 (h.1.1 x))))]
    rw [Bool.eq_iff_iff, decide_eq_true_iff]
    exact h.2
set_option maxHeartbeats 4000000 in
set_option maxRecDepth 20000 in
/-- impl.goesAhead -/
theorem goesAhead_any (w : World) (A B : R8) (ao : Option Addr) (m c : Nat) (ao' : Option Addr) (m' c' : Nat) (h : isBytes w ao m c A.l) (h' : isBytes w ao' m' c' B.l) :
    Calls Tryz.prog 130 #[bxV A.x A.y A.z A.e A.i A.r A.d ao m c, bxV B.x B.y B.z B.e B.i B.r B.d ao' m' c'] w fun o w' => o = .returned (.bool (befS A B)) ∧ Below w.heap.size w w' := by
  have HV := ahead_val A B
  have e1 : arbA A = arbZ A.e A.i A.r A.d m := by unfold arbA; rw [h.len]
  have e2 : arbA B = arbZ B.e B.i B.r B.d m' := by unfold arbA; rw [h'.len]
  have HA1 : Hid (∀ W, Below w.heap.size w W → Calls Tryz.prog 175 #[frV A.e A.i A.r A.d ao m c] W fun o w' => o = .returned (.string (arbA A)) ∧ Below W.heap.size W w') := fun W hW => e1 ▸ arb_any W _ _ _ _ ao m c A.l (h.below hW)
  have HA2 : Hid (∀ W, Below w.heap.size w W → Calls Tryz.prog 175 #[frV B.e B.i B.r B.d ao' m' c'] W fun o w' => o = .returned (.string (arbA B)) ∧ Below W.heap.size W w') := fun W hW => e2 ▸ arb_any W _ _ _ _ ao' m' c' B.l (h'.below hW)
  clear e1 e2 h h'
  rw [← HV]
  clear HV
  generalize arbA A = AA at *
  generalize arbA B = BB at *
  obtain ⟨x, y, z, e, id, r, d, l⟩ := A
  obtain ⟨x', y', z', e', id', r', d', l'⟩ := B
  simp only [] at HA1 HA2 ⊢
  have HC1 : Hid (∀ W, Calls Tryz.prog 174 #[.string AA, .string BB] W fun o w' => o = .returned (.int .i64 (Lib.compareBytes AA.data.toList BB.data.toList)) ∧ w' = W) := Tryz.strings_Compare AA BB
  have HC2 : Hid (∀ W, Calls Tryz.prog 176 #[.int .i64 z, .int .i64 z'] W fun o w' => o = .returned (.int .i64 (Lib.compareInt z z')) ∧ w' = W) := Tryz.cmp_Compare_int z z'
  generalize Lib.compareBytes AA.data.toList BB.data.toList = ca at *
  generalize Lib.compareInt z z' = cb at *
  have HC3 : Hid (∀ W g, W.heap[g]? = some (.cells #[.int .i64 ca, .int .i64 cb] 3) → Calls Tryz.prog 173 #[.slice (some ⟨g, 0, none⟩) 2 2] W fun o w' => o = .returned (.int .i64 (if ca = 0 then cb else ca)) ∧ W = w') := fun W g h => or2_any W g ca cb h
  generalize (if ca = 0 then cb else ca) = cc at *
  have HS0 : Hid (gaS w [.int .i64 x, .int .i64 y, .int .i64 z, .bool e, .int .u32 (id : Int), .bool r, .int .i64 d, .slice ao m c] [.int .i64 x', .int .i64 y', .int .i64 z', .bool e', .int .u32 (id' : Int), .bool r', .int .i64 d', .slice ao' m' c'] ((w.alloc (.cells [.int .i64 x, .int .i64 y, .int .i64 z, .bool e, .int .u32 (id : Int), .bool r, .int .i64 d, .slice ao m c].toArray 97)).alloc (.cells [.int .i64 x', .int .i64 y', .int .i64 z', .bool e', .int .u32 (id' : Int), .bool r', .int .i64 d', .slice ao' m' c'].toArray 97))) := ⟨(blk.new w _ 97).alloc _, by have := blk.new (w.alloc (.cells [.int .i64 x, .int .i64 y, .int .i64 z, .bool e, .int .u32 (id : Int), .bool r, .int .i64 d, .slice ao m c].toArray 97)) [.int .i64 x', .int .i64 y', .int .i64 z', .bool e', .int .u32 (id' : Int), .bool r', .int .i64 d', .slice ao' m' c'] 97; simpa using this, ((Below.refl _ _).alloc (Nat.le_refl _) _).alloc (by simp) _⟩
  go_enter Tryz.func130, Tryz.ntmps130
  go_wp2_with fail
  have hS0 : gaS w [.int .i64 x, .int .i64 y, .int .i64 z, .bool e, .int .u32 (id : Int), .bool r, .int .i64 d, .slice ao m c] [.int .i64 x', .int .i64 y', .int .i64 z', .bool e', .int .u32 (id' : Int), .bool r', .int .i64 d', .slice ao' m' c'] ((w.alloc (.cells #[.int .i64 x, .int .i64 y, .int .i64 z, .bool e, .int .u32 (id : Int), .bool r, .int .i64 d, .slice ao m c] 97)).alloc (.cells #[.int .i64 x', .int .i64 y', .int .i64 z', .bool e', .int .u32 (id' : Int), .bool r', .int .i64 d', .slice ao' m' c'] 97)) := HS0.out
  clear HS0
  generalize ((w.alloc (.cells #[.int .i64 x, .int .i64 y, .int .i64 z, .bool e, .int .u32 (id : Int), .bool r, .int .i64 d, .slice ao m c] 97)).alloc (.cells #[.int .i64 x', .int .i64 y', .int .i64 z', .bool e', .int .u32 (id' : Int), .bool r', .int .i64 d', .slice ao' m' c'] 97)) = w0 at *
  refine wp_region_held (S := gaS w [.int .i64 x, .int .i64 y, .int .i64 z, .bool e, .int .u32 (id : Int), .bool r, .int .i64 d, .slice ao m c] [.int .i64 x', .int .i64 y', .int .i64 z', .bool e', .int .u32 (id' : Int), .bool r', .int .i64 d', .slice ao' m' c']) (by kernel_rfl) ?_
  have hS := hS0.below (W' := w0.drew) (Below.refl _ _).drew
  clear hS0
  refine wpAnyH_take (i := 0) (v := .pointer (some ⟨w.heap.size, 3, none⟩)) rfl (by kernel_rfl) (by kernel_rfl) (by kernel_rfl) (fun _ _ _ h => h) (Or.inl ⟨by rfl, ?_⟩) hS ?_
  · intro W hSw
    clear hS
    go_simp
  simp only [Act.put, List.setIfInBounds_toArray, List.set_cons_zero, List.set_cons_succ, List.getElem_toArray, List.getElem_cons_zero]
  refine wpAnyH_take (i := 1) (v := .agg [.bool e, .int .u32 (id : Int), .bool r, .int .i64 d, .slice ao m c].toArray) rfl (by kernel_rfl) (by kernel_rfl) (by kernel_rfl) (fun _ _ _ h => h) (yieldsIf_load_mid (by rfl) 25 (.tmp 5) rfl w.heap.size 3 rfl [.bool e, .int .u32 (id : Int), .bool r, .int .i64 d, .slice ao m c] _ (fun W h => blk.loadAt [.int .i64 x, .int .i64 y, .int .i64 z] [.bool e, .int .u32 (id : Int), .bool r, .int .i64 d, .slice ao m c] [] h.p) Tryz.underlying25 rfl sz93) hS ?_
  simp only [Act.put, List.setIfInBounds_toArray, List.set_cons_zero, List.set_cons_succ, List.getElem_toArray, List.getElem_cons_zero, List.getElem_cons_succ]
  refine wpAnyH_take (i := 3) (v := .pointer (some ⟨w.heap.size + 1, 3, none⟩)) rfl (by kernel_rfl) (by kernel_rfl) (by kernel_rfl) (fun _ _ _ h => h) (Or.inl ⟨by rfl, ?_⟩) hS ?_
  · intro W hSw
    clear hS
    go_simp
  simp only [Act.put, List.setIfInBounds_toArray, List.set_cons_zero, List.set_cons_succ, List.getElem_toArray, List.getElem_cons_zero, List.getElem_cons_succ]
  refine wpAnyH_take (i := 4) (v := .agg [.bool e', .int .u32 (id' : Int), .bool r', .int .i64 d', .slice ao' m' c'].toArray) rfl (by kernel_rfl) (by kernel_rfl) (by kernel_rfl) (fun _ _ _ h => h) (yieldsIf_load_mid (by rfl) 25 (.tmp 8) rfl (w.heap.size + 1) 3 rfl [.bool e', .int .u32 (id' : Int), .bool r', .int .i64 d', .slice ao' m' c'] _ (fun W h => blk.loadAt [.int .i64 x', .int .i64 y', .int .i64 z'] [.bool e', .int .u32 (id' : Int), .bool r', .int .i64 d', .slice ao' m' c'] [] h.q) Tryz.underlying25 rfl sz93) hS ?_
  simp only [Act.put, List.setIfInBounds_toArray, List.set_cons_zero, List.set_cons_succ, List.getElem_toArray, List.getElem_cons_zero, List.getElem_cons_succ]
  refine wpAnyH_take (i := 7) (v := .pointer (some ⟨w.heap.size, 2, none⟩)) rfl (by kernel_rfl) (by kernel_rfl) (by kernel_rfl) (fun _ _ _ h => h) (Or.inl ⟨by rfl, ?_⟩) hS ?_
  · intro W hSw
    clear hS
    go_simp
  simp only [Act.put, List.setIfInBounds_toArray, List.set_cons_zero, List.set_cons_succ, List.getElem_toArray, List.getElem_cons_zero, List.getElem_cons_succ]
  refine wpAnyH_take (i := 8) (v := .int .i64 z) rfl (by kernel_rfl) (by kernel_rfl) (by kernel_rfl) (fun _ _ _ h => h) (Or.inl ⟨by rfl, ?_⟩) hS ?_
  · intro W hSw
    have hc := hSw.p.cell 2 _ rfl
    clear hS
    go_simp
  simp only [Act.put, List.setIfInBounds_toArray, List.set_cons_zero, List.set_cons_succ, List.getElem_toArray, List.getElem_cons_zero, List.getElem_cons_succ]
  refine wpAnyH_take (i := 9) (v := .pointer (some ⟨w.heap.size + 1, 2, none⟩)) rfl (by kernel_rfl) (by kernel_rfl) (by kernel_rfl) (fun _ _ _ h => h) (Or.inl ⟨by rfl, ?_⟩) hS ?_
  · intro W hSw
    clear hS
    go_simp
  simp only [Act.put, List.setIfInBounds_toArray, List.set_cons_zero, List.set_cons_succ, List.getElem_toArray, List.getElem_cons_zero, List.getElem_cons_succ]
  refine wpAnyH_take (i := 10) (v := .int .i64 z') rfl (by kernel_rfl) (by kernel_rfl) (by kernel_rfl) (fun _ _ _ h => h) (Or.inl ⟨by rfl, ?_⟩) hS ?_
  · intro W hSw
    have hc := hSw.q.cell 2 _ rfl
    clear hS
    go_simp
  simp only [Act.put, List.setIfInBounds_toArray, List.set_cons_zero, List.set_cons_succ, List.getElem_toArray, List.getElem_cons_zero, List.getElem_cons_succ]
  refine wpAnyH_all (rs := [2]) (by kernel_rfl) (by simp) ?_
  refine AllReadyH.cons rfl (fun K hK => ?_) AllReadyH.nil
  go_simp
  refine (HA1.out _ hS.b).mono ?_
  rintro o w1 ⟨rfl, hb1⟩
  have hS1 := hS.below hb1
  go_wp2_with fail
  refine hK.out _ _ hS1 (fun hS2 => ?_)
  clear hS hK K
  have hS := hS2
  clear hS2
  clear hS1 hb1
  refine wpAnyH_all (rs := [5]) (by kernel_rfl) (by simp) ?_
  refine AllReadyH.cons rfl (fun K hK => ?_) AllReadyH.nil
  go_simp
  refine (HA2.out _ hS.b).mono ?_
  rintro o w2 ⟨rfl, hb2⟩
  have hS1 := hS.below hb2
  go_wp2_with fail
  refine hK.out _ _ hS1 (fun hS2 => ?_)
  clear hS hK K
  have hS := hS2
  clear hS2
  clear hS1 hb2
  refine wpAnyH_all (rs := [6]) (by kernel_rfl) (by simp) ?_
  refine AllReadyH.cons rfl (fun K hK => ?_) AllReadyH.nil
  go_simp
  refine (HC1.out _).mono ?_
  rintro o w3 ⟨rfl, rfl⟩
  go_wp2_with fail
  refine hK.out _ _ hS (fun hS2 => ?_)
  clear hS hK K
  have hS := hS2
  clear hS2
  refine wpAnyH_all (rs := [11]) (by kernel_rfl) (by simp) ?_
  refine AllReadyH.cons rfl (fun K hK => ?_) AllReadyH.nil
  go_simp
  refine (HC2.out _).mono ?_
  rintro o w4 ⟨rfl, rfl⟩
  go_wp2_with fail
  refine hK.out _ _ hS (fun hS2 => ?_)
  clear hS hK K
  have hS := hS2
  clear hS2
  refine wpAnyH_all (rs := [12]) (by kernel_rfl) (by simp) ?_
  refine AllReadyH.cons rfl (fun K hK => ?_) AllReadyH.nil
  go_simp
  have hg := heap_alloc_new w4 (.cells #[.int .i64 ca, .int .i64 cb] 3)
  have hS1 := hS.below ((Below.refl _ w4).alloc (Nat.le_refl _) (.cells #[.int .i64 ca, .int .i64 cb] 3))
  generalize (w4.alloc (.cells #[.int .i64 ca, .int .i64 cb] 3)) = w5 at *
  refine hK.out _ _ hS1 (fun hS2 => ?_)
  clear hS hK K hS1
  have hS := hS2
  clear hS2
  refine wpAnyH_all (rs := [13]) (by kernel_rfl) (by simp) ?_
  refine AllReadyH.cons rfl (fun K hK => ?_) AllReadyH.nil
  go_simp
  refine (HC3.out _ _ hg).mono ?_
  rintro o w6 ⟨rfl, rfl⟩
  go_wp2_with fail
  refine hK.out _ _ hS (fun hS2 => ?_)
  clear hS hK K
  have hS := hS2
  clear hS2
  refine wpAnyH_take (i := 14) (v := .bool (decide (cc < 0))) rfl (by kernel_rfl) (by kernel_rfl) (by kernel_rfl) (fun _ _ _ h => h) (Or.inl ⟨by rfl, ?_⟩) hS ?_
  · intro W hSw
    clear hS
    go_simp
  simp only [Act.put, List.setIfInBounds_toArray, List.set_cons_zero, List.set_cons_succ, List.getElem_toArray, List.getElem_cons_zero, List.getElem_cons_succ]
  refine wpAnyH_take (i := 15) (v := .bool (decide (cc < 0))) rfl (by kernel_rfl) (by kernel_rfl) (by kernel_rfl) (fun _ _ _ h => h) (Or.inl ⟨by rfl, ?_⟩) hS ?_
  · intro W hSw
    clear hS
    go_simp
  simp only [Act.put, List.setIfInBounds_toArray, List.set_cons_zero, List.set_cons_succ, List.getElem_toArray, List.getElem_cons_zero, List.getElem_cons_succ]
  refine wpAnyH_done (by kernel_rfl) ?_ _
  have HBJ : Hid (Below w.heap.size w _) := hS.b
  clear hS
  go_wp2
  go_ret
  exact ⟨rfl, HBJ.out⟩
end Go.Proofs.YtaamahohdnbpiaaGreat
