import Derived.Test.YtjmlalojfghkiaaDoorAA
namespace Go.Proofs.YtjmlalojfghkiaaDoor
open Go.RowKit
set_option linter.unusedVariables false
/-- the scan at block P has become T; its bytes are its own, or it has none -/
def aP (w w' : World) (P B : Nat) (T : Sc) : Prop := (∃ g n k, kP w w' P B T g n k) ∨ (T.l = [] ∧ blk w' P (scL T none 0 0) 31 ∧ Below P w w' ∧ ∀ q, q ≠ P → q < B → w'.heap[q]? = w.heap[q]?)
set_option maxHeartbeats 4000000 in
set_option maxRecDepth 20000 in
theorem advance_more (w : World) (P B : Nat) (hPB : P < B) (f lf rn lv cr ac : Int) (hlf : 2 ≤ lf) (hlf1 : lf ≤ 64) (e : Bool) (i : Nat) (r : Bool) (d : Int) (l : List Nat) (g n k : Nat) (h : kP w w P B ⟨f, lf, rn, lv, cr, ac, e, i, r, d, l⟩ g n k) :
    Calls Tryd.prog 55 #[.pointer (some ⟨P, 0, none⟩)] w fun o w' => (∃ v, o = .returned v) ∧ kP w w' P B ⟨f, lf - 1, rn, lv, cr, ac, e, i, r, d, l⟩ g n k := by
  have hgl := World.ownsRow.lt h.o g rfl
  have z1 := h.q.cell 1 _ rfl
  have f1 := h.q.free 1
  have HK : Hid (kP w (w.setCell ⟨P, 1, none⟩ (.int .i64 (lf - 1))) P B ⟨f, lf - 1, rn, lv, cr, ac, e, i, r, d, l⟩ g n k) := h.put (by omega) 1 (.int .i64 (lf - 1)) rfl rfl
  clear h hgl
  have q1 : decide (0 < lf - 1) = true := by simp; omega
  go_enter Tryd.func55, Tryd.ntmps55
  go_wp2_with fail
  refine bodyPost_ret (results_none rfl _ _ _) rfl ?_
  exact ⟨⟨_, rfl⟩, HK.out⟩
theorem advance_any (w : World) (P B : Nat) (hP : 0 < P) (hPB : P < B) (hB : B ≤ w.heap.size) (hg : w.rangeAt 0 0 tabL) (T : Sc) (hf : 1 ≤ T.f) (hf1 : T.lf = 1 → T.f ≤ 13) (hd : 0 ≤ T.d) (hd1 : T.d ≤ 15) (hlf : 1 ≤ T.lf) (hlf1 : T.lf ≤ 64) (g n k : Nat) (h : kP w w P B T g n k) :
    Calls Tryd.prog 55 #[.pointer (some ⟨P, 0, none⟩)] w fun o w' => (∃ v, o = .returned v) ∧ aP w w' P B (nextT T) := by
  obtain ⟨f, lf, rn, lv, cr, ac, e, i, r, d, l⟩ := T
  simp only [] at hf hf1 hd hd1 hlf hlf1
  by_cases h1 : lf = 1
  · subst h1
    refine (advance_last w P B hP hPB hB hg f hf (hf1 rfl) rn lv cr ac e i r d hd hd1 l g n k h).mono ?_
    rintro o w' ⟨h1, h2⟩
    refine ⟨h1, ?_⟩
    unfold nextT
    simp only [if_true]
    split at h2
    · rename_i h9
      right
      rw [h9] at h2 ⊢
      exact ⟨rfl, h2⟩
    · rename_i h9
      left
      rw [if_neg h9]
      exact ⟨g, n, k, h2⟩
  · refine (advance_more w P B hPB f lf rn lv cr ac (by omega) hlf1 e i r d l g n k h).mono ?_
    rintro o w' ⟨h2, h3⟩
    refine ⟨h2, ?_⟩
    unfold nextT
    rw [if_neg (by exact h1)]
    exact Or.inl ⟨g, n, k, h3⟩
set_option maxHeartbeats 4000000 in
set_option maxRecDepth 20000 in
theorem clone_any (w : World) (g n cap : Nat) (l : List Nat) (h : isBytes w (some ⟨g, 0, none⟩) n cap l) (hn : n ≤ 1048576) :
    Calls Tryd.prog 29 #[.slice (some ⟨g, 0, none⟩) n cap] w fun o w' => ∃ g' k', o = .returned (.slice (some ⟨g', 0, none⟩) n k') ∧ ownsB w' w.heap.size (.slice (some ⟨g', 0, none⟩) n k') l ∧ Below w.heap.size w w' := by
  have hl := h.len
  have HC : Hid (∀ j u, (bv l)[j]? = some u → w.cell? ⟨g, 0 + j, none⟩ = some u) := by
    intro j u hj
    have hj1 : j < l.length := by
      have := (List.getElem?_eq_some_iff.mp hj).1
      rwa [bv_length] at this
    obtain ⟨g', off, ha, hc⟩ := h.cells (by intro e; subst e; simp at hj1)
    cases ha
    rw [bv_at l j hj1] at hj
    cases hj
    exact hc j hj1
  have HN : Hid (n = l.length) := hl
  clear h hl
  obtain ⟨i0, hi, hz0, hz1, hz2⟩ := info_parts Tryd.info5
  have q23 : ∀ (w : World) (a : Option Addr) (n c n' c' : Nat), (binOp .eql 23 (.slice a n c) (.slice none n' c')).run Tryd.prog w = .ok (.bool a.isNone) w := fun w a n c n' c' => Lib.run_eql_slice_nil w _ _ a n c n' c' Tryd.underlying23
  go_enter Tryd.func29, Tryd.ntmps29
  go_wp2_with (at_builtin; refine wpList_append_own _ rfl _ _ 23 rfl w.heap.size 5 i0 (.int .u8 0) 1 1 Tryd.underlying23 hi hz0 hz1 hz2 rfl (by decide) _ _ _ rfl (World.ownsRow_made w #[] 0 (Nat.le_refl _) (Nat.zero_le _) (by simp)) ⟨g, 0, none⟩ n cap (bv l) rfl ?qc1 ?qc2 ?qc3 ?qc4 ?qc5 ?qc6 ?_)
  case qc1 => rw [bv_length, HN.out]; simp
  case qc2 =>
    intro j u hj
    rw [Addr.add_lit]
    exact Lib.cell?_alloc_some _ (HC.out j u hj)
  case qc3 =>
    intro u hu
    simp only [bv, List.mem_map] at hu
    obtain ⟨x, _, rfl⟩ := hu
    rfl
  case qc4 => unfold maxLen; omega
  case qc5 => omega
  case qc6 => simp
  intro v' w1 hown hgrow hnil
  go_wp2
  go_ret
  have ho : World.ownsRow w1 w.heap.size 5 1 v' n (bv l) := by simpa using hown
  rcases ho.2 with ⟨e, _⟩ | ⟨g', k', cur, hv, _⟩
  · exact absurd e hnil
  · subst hv
    refine ⟨g', k', rfl, ?_, ?_⟩
    · unfold ownsB
      rw [← HN.out]
      exact ho
    · exact ((Below.refl _ w).alloc (Nat.le_refl _) _).grown hgrow (by simp) (by intro k hk; simp [Value.ownBlock] at hk; omega)
end Go.Proofs.YtjmlalojfghkiaaDoor
