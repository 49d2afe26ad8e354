import Derived.Test.YtjmlalojfghkiaaDoorR31
import Derived.Test.YtjmlalojfghkiaaDoorR32
namespace Go.Proofs.YtjmlalojfghkiaaDoor
open Go.RowKit
set_option linter.unusedVariables false
/-- the scan at block P has become T; its bytes are its own, or it has none -/
def aP (w w' : World) (P B : Nat) (T : Sc) : Prop := (∃ g n k, kP w w' P B T g n k) ∨ (T.l = [] ∧ blk w' P (scL T none 0 0) 31 ∧ Below P w w' ∧ ∀ q, q ≠ P → q < B → w'.heap[q]? = w.heap[q]?)
set_option maxHeartbeats 4000000 in
set_option maxRecDepth 20000 in
theorem advance_more (w : World) (P B : Nat) (hPB : P < B) (f lf rn lv cr ac : Int) (hlf : 2 ≤ lf) (hlf1 : lf ≤ 64) (e : Bool) (i : Nat) (r : Bool) (d : Int) (l : List Nat) (g n k : Nat) (h : kP w w P B ⟨f, lf, rn, lv, cr, ac, e, i, r, d, l⟩ g n k) :
    Calls Tryd.prog 55 #[.pointer (some ⟨P, 0, none⟩)] w fun o w' => (∃ v, o = .returned v) ∧ kP w w' P B ⟨f, lf - 1, rn, lv, cr, ac, e, i, r, d, l⟩ g n k := by
  have hgl := World.ownsRow.lt h.o g rfl
  have z1 := h.q.cell 1 _ rfl
  have f1 := h.q.free 1
  have HK : Hid (kP w (w.setCell ⟨P, 1, none⟩ (.int .i64 (lf - 1))) P B ⟨f, lf - 1, rn, lv, cr, ac, e, i, r, d, l⟩ g n k) := h.put (by omega) 1 (.int .i64 (lf - 1)) rfl rfl
  clear h hgl
  have q1 : decide (0 < lf - 1) = true := by simp; omega
  go_enter Tryd.func55, Tryd.ntmps55
  go_wp2_with fail
  refine bodyPost_ret (results_none rfl _ _ _) rfl ?_
  exact ⟨⟨_, rfl⟩, HK.out⟩
theorem advance_any (w : World) (P B : Nat) (hP : 0 < P) (hPB : P < B) (hB : B ≤ w.heap.size) (hg : w.rangeAt 0 0 tabL) (T : Sc) (hf : 1 ≤ T.f) (hf1 : T.lf = 1 → T.f ≤ 13) (hd : 0 ≤ T.d) (hd1 : T.d ≤ 15) (hlf : 1 ≤ T.lf) (hlf1 : T.lf ≤ 64) (g n k : Nat) (h : kP w w P B T g n k) :
    Calls Tryd.prog 55 #[.pointer (some ⟨P, 0, none⟩)] w fun o w' => (∃ v, o = .returned v) ∧ aP w w' P B (nextT T) := by
  obtain ⟨f, lf, rn, lv, cr, ac, e, i, r, d, l⟩ := T
  simp only [] at hf hf1 hd hd1 hlf hlf1
  by_cases h1 : lf = 1
  · subst h1
    refine (advance_last w P B hP hPB hB hg f hf (hf1 rfl) rn lv cr ac e i r d hd hd1 l g n k h).mono ?_
    rintro o w' ⟨h1, h2⟩
    refine ⟨h1, ?_⟩
    unfold nextT
    simp only [if_true]
    split at h2
    · rename_i h9
      right
      rw [h9] at h2 ⊢
      exact ⟨rfl, h2⟩
    · rename_i h9
      left
      rw [if_neg h9]
      exact ⟨g, n, k, h2⟩
  · refine (advance_more w P B hPB f lf rn lv cr ac (by omega) hlf1 e i r d l g n k h).mono ?_
    rintro o w' ⟨h2, h3⟩
    refine ⟨h2, ?_⟩
    unfold nextT
    rw [if_neg (by exact h1)]
    exact Or.inl ⟨g, n, k, h3⟩
set_option maxHeartbeats 4000000 in
set_option maxRecDepth 20000 in
theorem clone_any (w : World) (g n cap : Nat) (l : List Nat) (h : isBytes w (some ⟨g, 0, none⟩) n cap l) (hn : n ≤ 1048576) :
    Calls Tryd.prog 29 #[.slice (some ⟨g, 0, none⟩) n cap] w fun o w' => ∃ g' k', o = .returned (.slice (some ⟨g', 0, none⟩) n k') ∧ ownsB w' w.heap.size (.slice (some ⟨g', 0, none⟩) n k') l ∧ Below w.heap.size w w' := by
  have hl := h.len
  have HC : Hid (∀ j u, (bv l)[j]? = some u → w.cell? ⟨g, 0 + j, none⟩ = some u) := by
    intro j u hj
    have hj1 : j < l.length := by
      have := (List.getElem?_eq_some_iff.mp hj).1
      rwa [bv_length] at this
    obtain ⟨g', off, ha, hc⟩ := h.cells (by intro e; subst e; simp at hj1)
    cases ha
    rw [bv_at l j hj1] at hj
    cases hj
    exact hc j hj1
  have HN : Hid (n = l.length) := hl
  clear h hl
  obtain ⟨i0, hi, hz0, hz1, hz2⟩ := info_parts Tryd.info5
  have q23 : ∀ (w : World) (a : Option Addr) (n c n' c' : Nat), (binOp .eql 23 (.slice a n c) (.slice none n' c')).run Tryd.prog w = .ok (.bool a.isNone) w := fun w a n c n' c' => Lib.run_eql_slice_nil w _ _ a n c n' c' Tryd.underlying23
  go_enter Tryd.func29, Tryd.ntmps29
  go_wp2_with (at_builtin; refine wpList_append_own _ rfl _ _ 23 rfl w.heap.size 5 i0 (.int .u8 0) 1 1 Tryd.underlying23 hi hz0 hz1 hz2 rfl (by decide) _ _ _ rfl (World.ownsRow_made w #[] 0 (Nat.le_refl _) (Nat.zero_le _) (by simp)) ⟨g, 0, none⟩ n cap (bv l) rfl ?qc1 ?qc2 ?qc3 ?qc4 ?qc5 ?qc6 ?_)
  case qc1 => rw [bv_length, HN.out]; simp
  case qc2 =>
    intro j u hj
    rw [Addr.add_lit]
    exact Lib.cell?_alloc_some _ (HC.out j u hj)
  case qc3 =>
    intro u hu
    simp only [bv, List.mem_map] at hu
    obtain ⟨x, _, rfl⟩ := hu
    rfl
  case qc4 => unfold maxLen; omega
  case qc5 => omega
  case qc6 => simp
  intro v' w1 hown hgrow hnil
  go_wp2
  go_ret
  have ho : World.ownsRow w1 w.heap.size 5 1 v' n (bv l) := by simpa using hown
  rcases ho.2 with ⟨e, _⟩ | ⟨g', k', cur, hv, _⟩
  · exact absurd e hnil
  · subst hv
    refine ⟨g', k', rfl, ?_, ?_⟩
    · unfold ownsB
      rw [← HN.out]
      exact ho
    · exact ((Below.refl _ w).alloc (Nat.le_refl _) _).grown hgrow (by simp) (by intro k hk; simp [Value.ownBlock] at hk; omega)
end Go.Proofs.YtjmlalojfghkiaaDoor
namespace Go.Proofs.YtjmlalojfghkiaaDoor.G
open Go.RowKit
set_option linter.unusedVariables false
/-- the scan at block P has become T; its bytes are its own, or it has none -/
def aP (w w' : World) (P B : Nat) (T : Sc) : Prop := (∃ g n k, kP w w' P B T g n k) ∨ (T.l = [] ∧ blk w' P (scL T none 0 0) 31 ∧ Below P w w' ∧ ∀ q, q ≠ P → q < B → w'.heap[q]? = w.heap[q]?)
set_option maxHeartbeats 4000000 in
set_option maxRecDepth 20000 in
theorem advance_more (w : World) (P B : Nat) (hPB : P < B) (f lf rn lv cr ac : Int) (hlf : 2 ≤ lf) (hlf1 : lf ≤ 64) (e : Bool) (i : Nat) (r : Bool) (d : Int) (l : List Nat) (g : Option Addr) (n k : Nat) (h : kP w w P B ⟨f, lf, rn, lv, cr, ac, e, i, r, d, l⟩ g n k) :
    Calls Tryd.prog 55 #[.pointer (some ⟨P, 0, none⟩)] w fun o w' => (∃ v, o = .returned v) ∧ kP w w' P B ⟨f, lf - 1, rn, lv, cr, ac, e, i, r, d, l⟩ g n k := by
  have z1 := h.q.cell 1 _ rfl
  have f1 := h.q.free 1
  have HK : Hid (kP w (w.setCell ⟨P, 1, none⟩ (.int .i64 (lf - 1))) P B ⟨f, lf - 1, rn, lv, cr, ac, e, i, r, d, l⟩ g n k) := h.put hPB 1 (.int .i64 (lf - 1)) rfl rfl
  clear h
  have q1 : decide (0 < lf - 1) = true := by simp; omega
  go_enter Tryd.func55, Tryd.ntmps55
  go_wp2_with fail
  refine bodyPost_ret (results_none rfl _ _ _) rfl ?_
  exact ⟨⟨_, rfl⟩, HK.out⟩
theorem advance_any (w : World) (P B : Nat) (hP : 0 < P) (hPB : P < B) (hB : B ≤ w.heap.size) (hg : w.rangeAt 0 0 tabL) (T : Sc) (hf : 1 ≤ T.f) (hf1 : T.lf = 1 → T.f ≤ 13) (hd : 0 ≤ T.d) (hd1 : T.d ≤ 15) (hlf : 1 ≤ T.lf) (hlf1 : T.lf ≤ 64) (g : Option Addr) (n k : Nat) (h : kP w w P B T g n k) :
    Calls Tryd.prog 55 #[.pointer (some ⟨P, 0, none⟩)] w fun o w' => (∃ v, o = .returned v) ∧ aP w w' P B (nextT T) := by
  obtain ⟨f, lf, rn, lv, cr, ac, e, i, r, d, l⟩ := T
  simp only [] at hf hf1 hd hd1 hlf hlf1
  by_cases h1 : lf = 1
  · subst h1
    refine (advance_last w P B hP hPB hB hg f hf (hf1 rfl) rn lv cr ac e i r d hd hd1 l g n k h).mono ?_
    rintro o w' ⟨h1, h2⟩
    refine ⟨h1, ?_⟩
    unfold nextT
    simp only [if_true]
    split at h2
    · rename_i h9
      right
      rw [h9] at h2 ⊢
      exact ⟨rfl, h2⟩
    · rename_i h9
      left
      rw [if_neg h9]
      exact ⟨g, n, k, h2⟩
  · refine (advance_more w P B hPB f lf rn lv cr ac (by omega) hlf1 e i r d l g n k h).mono ?_
    rintro o w' ⟨h2, h3⟩
    refine ⟨h2, ?_⟩
    unfold nextT
    rw [if_neg (by exact h1)]
    exact Or.inl ⟨g, n, k, h3⟩
set_option maxHeartbeats 4000000 in
set_option maxRecDepth 20000 in
theorem clone_nil (w : World) : Calls Tryd.prog 29 #[.slice none 0 0] w fun o w' => o = .returned (.slice none 0 0) ∧ Below w.heap.size w w' := by
  have q23 : ∀ (w : World) (a : Option Addr) (n c n' c' : Nat), (binOp .eql 23 (.slice a n c) (.slice none n' c')).run Tryd.prog w = .ok (.bool a.isNone) w := fun w a n c n' c' => Lib.run_eql_slice_nil w _ _ a n c n' c' Tryd.underlying23
  go_enter Tryd.func29, Tryd.ntmps29
  go_wp2_with fail
  go_ret
  exact ⟨rfl, Below.refl _ _⟩
/-- a header as it stands in a scan: nil, or the beginning of a block -/
def okA (g : Option Addr) (n cap : Nat) : Prop := (g = none ∧ n = 0 ∧ cap = 0) ∨ ∃ q, g = some ⟨q, 0, none⟩
theorem clone_any (w : World) (g : Option Addr) (n cap : Nat) (l : List Nat) (ha : okA g n cap) (h : isBytes w g n cap l) (hn : n ≤ 1048576) :
    Calls Tryd.prog 29 #[.slice g n cap] w fun o w' => ∃ g' k', o = .returned (.slice g' n k') ∧ ownsB w' w.heap.size (.slice g' n k') l ∧ Below w.heap.size w w' := by
  rcases ha with ⟨rfl, rfl, rfl⟩ | ⟨q, rfl⟩
  · refine (clone_nil w).mono ?_
    rintro o w' ⟨rfl, hb⟩
    have hl : l = [] := List.length_eq_zero_iff.1 h.len.symm
    subst hl
    exact ⟨none, 0, rfl, World.ownsRow_nil w' _ 5 1, hb⟩
  · refine (YtjmlalojfghkiaaDoor.clone_any w q n cap l h hn).mono ?_
    rintro o w' ⟨g', k', rfl, h1, h2⟩
    exact ⟨_, k', rfl, h1, h2⟩
end Go.Proofs.YtjmlalojfghkiaaDoor.G
namespace Go.Proofs.YtjmlalojfghkiaaDoor
open Go.RowKit
set_option linter.unusedVariables false
set_option maxHeartbeats 4000000 in
set_option maxRecDepth 20000 in
theorem take_stuff (w : World) (P : Nat) (S : Sc) (a : Option Addr) (n k : Nat) (h : blk w P (scL S a n k) 31) (b : Nat) (h5 : S.rn = 5) (hv : (b : Int) = S.lv) :
    Calls Tryd.prog 30 #[.pointer (some ⟨P, 0, none⟩), .int .i64 (b : Int)] w fun o w' => o = .returned (.int .i64 3) ∧ w' = w := by
  obtain ⟨f, lf, rn, lv, cr, ac, e, i, r, d, l⟩ := S
  have z2 := h.cell 2 _ rfl
  have z3 := h.cell 3 _ rfl
  have q5 : (rn == 5) = true := by simpa using h5
  have qv : ((b : Int) == lv) = true := by simpa using hv
  clear h h5 hv
  go_enter Tryd.func30, Tryd.ntmps30
  go_wp2_with fail
  go_ret
  exact ⟨rfl, rfl⟩
set_option maxHeartbeats 4000000 in
set_option maxRecDepth 20000 in
theorem take_due (w : World) (P B : Nat) (hPB : P < B) (S : Sc) (g n k : Nat) (h : kP w w P B S g n k) (b : Nat) (h5 : S.rn = 5) (hv : (b : Int) ≠ S.lv) :
    Calls Tryd.prog 30 #[.pointer (some ⟨P, 0, none⟩), .int .i64 (b : Int)] w fun o w' => o = .returned (.int .i64 0) ∧ kP w w' P B { S with rn := 1, lv := b } g n k := by
  obtain ⟨f, lf, rn, lv, cr, ac, e, i, r, d, l⟩ := S
  have hgl := World.ownsRow.lt h.o g rfl
  have z2 := h.q.cell 2 _ rfl
  have z3 := h.q.cell 3 _ rfl
  have f2 := h.q.free 2
  have f3 := h.q.free 3
  have q5 : (rn == 5) = true := by simpa using h5
  have qv : ((b : Int) == lv) = false := by simpa using hv
  have HK : Hid (kP w ((w.setCell ⟨P, 2, none⟩ (.int .i64 1)).setCell ⟨P, 3, none⟩ (.int .i64 (b : Int))) P B ⟨f, lf, 1, b, cr, ac, e, i, r, d, l⟩ g n k) :=
    (h.put (T' := ⟨f, lf, 1, lv, cr, ac, e, i, r, d, l⟩) (by omega) 2 (.int .i64 1) rfl rfl).put (by omega) 3 (.int .i64 (b : Int)) rfl rfl
  clear h h5 hv hgl
  go_enter Tryd.func30, Tryd.ntmps30
  go_wp2_with fail
  go_ret
  exact ⟨rfl, HK.out⟩
set_option maxHeartbeats 4000000 in
set_option maxRecDepth 20000 in
theorem take_end (w : World) (P : Nat) (S : Sc) (a : Option Addr) (n k : Nat) (h : blk w P (scL S a n k) 31) (hlf : 1 ≤ S.lf) (b : Nat) (hb : b < 2) (h5 : S.rn ≠ 5) (hc : verdZ S.f S.lf S.cr S.ac b ≠ 0 ∧ verdZ S.f S.lf S.cr S.ac b ≠ 1) :
    Calls Tryd.prog 30 #[.pointer (some ⟨P, 0, none⟩), .int .i64 (b : Int)] w fun o w' => o = .returned (.int .i64 (verdZ S.f S.lf S.cr S.ac b)) ∧ Below w.heap.size w w' := by
  have HP := plainCode_any w P S a n k h hlf b hb
  have HGO : Hid (∀ W, Calls Tryd.prog 31 #[.int .i64 (verdZ S.f S.lf S.cr S.ac b)] W fun o w' => o = .returned (.bool false) ∧ w' = W) := by
    intro W
    refine (goesOn_any W (verdZ S.f S.lf S.cr S.ac b)).mono ?_
    rintro o w' ⟨⟨x, rfl, hx⟩, rfl⟩
    refine ⟨?_, rfl⟩
    cases x
    · rfl
    · exact absurd (hx.1 rfl) (fun hh => hh.elim hc.1 hc.2)
  have HPC : Hid (Calls Tryd.prog 52 #[.pointer (some ⟨P, 0, none⟩), .int .i64 (b : Int)] w fun o w' => o = .returned (.int .i64 (verdZ S.f S.lf S.cr S.ac b)) ∧ Below w.heap.size w w') := HP
  obtain ⟨f, lf, rn, lv, cr, ac, e, i, r, d, l⟩ := S
  have z2 := h.cell 2 _ rfl
  have q5 : (rn == 5) = false := by simpa using h5
  clear h h5 HP hc
  simp only [] at z2 HGO HPC ⊢
  generalize verdZ f lf cr ac b = v at *
  go_enter Tryd.func30, Tryd.ntmps30
  go_wp2_with fail
  refine HPC.out.mono ?_
  rintro o w1 ⟨rfl, hb1⟩
  go_wp2_with fail
  refine (HGO.out _).mono ?_
  rintro o w2 ⟨rfl, rfl⟩
  go_wp2_with fail
  go_ret
  exact ⟨rfl, hb1⟩
set_option maxHeartbeats 4000000 in
set_option maxRecDepth 20000 in
theorem take_on (w : World) (P B : Nat) (hP : 0 < P) (hPB : P < B) (hB : B ≤ w.heap.size) (hg : w.rangeAt 0 0 tabL) (S : Sc) (hS : bd S) (hr0 : 0 ≤ S.rn) (hr1 : S.rn ≤ 5) (g n k : Nat) (h : kP w w P B S g n k) (b : Nat) (hb : b < 2) (h5 : S.rn ≠ 5) (hc : verdZ S.f S.lf S.cr S.ac b = 0 ∨ verdZ S.f S.lf S.cr S.ac b = 1) (h13 : S.lf = 1 → S.f ≤ 13) :
    Calls Tryd.prog 30 #[.pointer (some ⟨P, 0, none⟩), .int .i64 (b : Int)] w fun o w' => o = .returned (.int .i64 (verdZ S.f S.lf S.cr S.ac b)) ∧ aP w w' P B (stepT S b) := by
  have HP := plainCode_any w P S _ n k h.q hS.l1 b hb
  have HGO : Hid (∀ W, Calls Tryd.prog 31 #[.int .i64 (verdZ S.f S.lf S.cr S.ac b)] W fun o w' => o = .returned (.bool true) ∧ w' = W) := by
    intro W
    refine (goesOn_any W (verdZ S.f S.lf S.cr S.ac b)).mono ?_
    rintro o w' ⟨⟨x, rfl, hx⟩, rfl⟩
    rw [hx.2 hc]
    exact ⟨rfl, rfl⟩
  have HPC : Hid (Calls Tryd.prog 52 #[.pointer (some ⟨P, 0, none⟩), .int .i64 (b : Int)] w fun o w' => o = .returned (.int .i64 (verdZ S.f S.lf S.cr S.ac b)) ∧ Below w.heap.size w w') := HP
  have HK : Hid (kP w w P B S g n k) := h
  have HZ : Hid (∀ W, Below P w W → W.rangeAt 0 0 tabL ∧ B ≤ W.heap.size) := fun W hW => ⟨fun j v hv => (hW.cell (p := ⟨0, 0 + j, none⟩) (by exact hP)).trans (hg j v hv), Nat.le_trans hB hW.size⟩
  have HH : Hid (∀ W, kP w W P B S g n k → Calls Tryd.prog 53 #[.pointer (some ⟨P, 0, none⟩), .int .i64 (b : Int)] W fun o w' => (∃ v, o = .returned v) ∧ kP w w' P B (hearT S b) g n k) := by
    intro W hW
    refine (hear_any W P S _ n k hW.q hr1 hr0 b hb).mono ?_
    rintro o w' ⟨hv, hs⟩
    refine ⟨hv, hs.q, ?_, ?_, hW.b.trans hs.b, fun q h1 h2 => (hs.o q h1 (by have := World.ownsRow.lt hW.o g rfl; omega)).trans (hW.r q h1 h2)⟩
    · have e : (hearT S b).l = S.l := by unfold hearT; split <;> rfl
      rw [e]
      have hgl := World.ownsRow.lt hW.o g rfl
      exact hW.o.keep hW.l (hs.o g (by omega) hgl.2)
    · have e : (hearT S b).l = S.l := by unfold hearT; split <;> rfl
      rw [e]
      exact hW.l
  have e1 : (hearT S b).f = S.f ∧ (hearT S b).lf = S.lf ∧ (hearT S b).i = S.i ∧ (hearT S b).d = S.d ∧ (hearT S b).l = S.l ∧ (hearT S b).cr = S.cr ∧ (hearT S b).ac = S.ac := by unfold hearT; split <;> exact ⟨rfl, rfl, rfl, rfl, rfl, rfl, rfl⟩
  have hbd : bd (hearT S b) := by
    obtain ⟨a1, a2, a3, a4, a5, a6, a7, a8, a9, a10, a11, a12, a13, a14⟩ := hS
    obtain ⟨c1, c2, c3, c4, c5, c6, c7⟩ := e1
    exact ⟨by rw [c1]; exact a1, by rw [c1]; exact a2, by rw [c3]; exact a3, by rw [c4]; exact a4, by rw [c4]; exact a5, by rw [c5]; exact a6, by rw [c2]; exact a7, by rw [c2]; exact a8, by rw [c6]; exact a9, by rw [c6]; exact a10, by rw [c7]; exact a11, by rw [c7]; exact a12, by rw [c5]; exact a13, by rw [c1, c2, c5]; exact a14⟩
  have HKE : Hid (∀ W, kP w W P B (hearT S b) g n k → Calls Tryd.prog 54 #[.pointer (some ⟨P, 0, none⟩), .int .i64 (b : Int)] W fun o w' => (∃ v, o = .returned v) ∧ ∃ g' n' k', kP w w' P B (feedZ (accT (sumT (hearT S b) b) b) b) g' n' k') := by
    intro W hW
    refine (keep_any W P B hPB (HZ.out W hW.b).2 (hearT S b) hbd g n k ⟨hW.q, hW.o, hW.l, Below.refl _ _, fun _ _ _ => rfl⟩ b hb).mono ?_
    rintro o w' ⟨hv, g', n', k', hs⟩
    exact ⟨hv, g', n', k', hs.q, hs.o, hs.l, hW.b.trans hs.b, fun q h1 h2 => (hs.r q h1 h2).trans (hW.r q h1 h2)⟩
  have e2 : (accT (sumT (hearT S b) b) b).f = S.f ∧ (accT (sumT (hearT S b) b) b).lf = S.lf ∧ (accT (sumT (hearT S b) b) b).d = S.d ∧ (accT (sumT (hearT S b) b) b).l = S.l := by
    obtain ⟨c1, c2, c3, c4, c5, c6, c7⟩ := e1
    unfold accT sumT
    refine ⟨?_, ?_, ?_, ?_⟩ <;> (repeat' split) <;> assumption
  have hfk := feedZ_keeps (accT (sumT (hearT S b) b) b) b hb (by rw [e2.2.2.1]; exact hS.d0) (by rw [e2.2.2.1]; exact hS.d1) (by rw [e2.2.2.2]; exact hS.sm)
  rw [e2.1, e2.2.1] at hfk
  have HAD : Hid (∀ W g' n' k', kP w W P B (feedZ (accT (sumT (hearT S b) b) b) b) g' n' k' → Calls Tryd.prog 55 #[.pointer (some ⟨P, 0, none⟩)] W fun o w' => (∃ v, o = .returned v) ∧ aP w w' P B (stepT S b)) := by
    intro W g' n' k' hW
    refine (advance_any W P B hP hPB (HZ.out W hW.b).2 (HZ.out W hW.b).1 _ (by rw [hfk.1]; exact hS.f1) (by rw [hfk.1, hfk.2.1]; exact h13) hfk.2.2.1 hfk.2.2.2.1 (by rw [hfk.2.1]; exact hS.l1) (by rw [hfk.2.1]; exact hS.l2) g' n' k' ⟨hW.q, hW.o, hW.l, Below.refl _ _, fun _ _ _ => rfl⟩).mono ?_
    rintro o w' ⟨hv, hs⟩
    refine ⟨hv, ?_⟩
    rcases hs with ⟨g2, n2, k2, hs⟩ | ⟨h1, h2, h3⟩
    · exact Or.inl ⟨g2, n2, k2, hs.q, hs.o, hs.l, hW.b.trans hs.b, fun q h1 h2 => (hs.r q h1 h2).trans (hW.r q h1 h2)⟩
    · exact Or.inr ⟨h1, h2, hW.b.trans h3.1, fun q q1 q2 => (h3.2 q q1 q2).trans (hW.r q q1 q2)⟩
  have z2 := h.q.cell 2 _ rfl
  clear hfk e2 hbd e1 h HP hS hc h13 hg hr0 hr1
  generalize stepT S b = T3 at *
  generalize feedZ (accT (sumT (hearT S b) b) b) b = T2 at *
  generalize hearT S b = T1 at *
  obtain ⟨f, lf, rn, lv, cr, ac, e, i, r, d, l⟩ := S
  have q5 : (rn == 5) = false := by simpa using h5
  clear h5
  simp only [] at z2 HGO HPC ⊢
  generalize verdZ f lf cr ac b = v at *
  go_enter Tryd.func30, Tryd.ntmps30
  go_wp2_with fail
  refine HPC.out.mono ?_
  rintro o w1 ⟨rfl, hb1⟩
  have HK1 : Hid (kP w w1 P B ⟨f, lf, rn, lv, cr, ac, e, i, r, d, l⟩ g n k) := HK.out.below hb1
  clear hb1
  go_wp2_with fail
  refine (HGO.out _).mono ?_
  rintro o w2 ⟨rfl, rfl⟩
  go_wp2_with fail
  refine (HH.out _ HK1.out).mono ?_
  rintro o w3 ⟨⟨v1, rfl⟩, hk3⟩
  have HK3 : Hid _ := hk3
  clear hk3
  go_wp2_with fail
  refine (HKE.out _ HK3.out).mono ?_
  rintro o w4 ⟨⟨v2, rfl⟩, g', n', k', hk4⟩
  have HK4 : Hid _ := hk4
  clear hk4
  go_wp2_with fail
  refine (HAD.out _ g' n' k' HK4.out).mono ?_
  rintro o w5 ⟨⟨v3, rfl⟩, hk5⟩
  have HK5 : Hid _ := hk5
  clear hk5
  go_wp2_with fail
  go_ret
  exact ⟨rfl, HK5.out⟩
end Go.Proofs.YtjmlalojfghkiaaDoor
namespace Go.Proofs.YtjmlalojfghkiaaDoor.G
open Go.RowKit
set_option linter.unusedVariables false
set_option maxHeartbeats 4000000 in
set_option maxRecDepth 20000 in
theorem take_due (w : World) (P B : Nat) (hPB : P < B) (S : Sc) (g : Option Addr) (n k : Nat) (h : kP w w P B S g n k) (b : Nat) (h5 : S.rn = 5) (hv : (b : Int) ≠ S.lv) :
    Calls Tryd.prog 30 #[.pointer (some ⟨P, 0, none⟩), .int .i64 (b : Int)] w fun o w' => o = .returned (.int .i64 0) ∧ kP w w' P B { S with rn := 1, lv := b } g n k := by
  obtain ⟨f, lf, rn, lv, cr, ac, e, i, r, d, l⟩ := S
  have z2 := h.q.cell 2 _ rfl
  have z3 := h.q.cell 3 _ rfl
  have f2 := h.q.free 2
  have f3 := h.q.free 3
  have q5 : (rn == 5) = true := by simpa using h5
  have qv : ((b : Int) == lv) = false := by simpa using hv
  have HK : Hid (kP w ((w.setCell ⟨P, 2, none⟩ (.int .i64 1)).setCell ⟨P, 3, none⟩ (.int .i64 (b : Int))) P B ⟨f, lf, 1, b, cr, ac, e, i, r, d, l⟩ g n k) :=
    (h.put (T' := ⟨f, lf, 1, lv, cr, ac, e, i, r, d, l⟩) hPB 2 (.int .i64 1) rfl rfl).put hPB 3 (.int .i64 (b : Int)) rfl rfl
  clear h h5 hv
  go_enter Tryd.func30, Tryd.ntmps30
  go_wp2_with fail
  go_ret
  exact ⟨rfl, HK.out⟩
set_option maxHeartbeats 4000000 in
set_option maxRecDepth 20000 in
theorem take_on (w : World) (P B : Nat) (hP : 0 < P) (hPB : P < B) (hB : B ≤ w.heap.size) (hg : w.rangeAt 0 0 tabL) (S : Sc) (hS : bd S) (hr0 : 0 ≤ S.rn) (hr1 : S.rn ≤ 5) (g : Option Addr) (n k : Nat) (h : kP w w P B S g n k) (b : Nat) (hb : b < 2) (h5 : S.rn ≠ 5) (hc : verdZ S.f S.lf S.cr S.ac b = 0 ∨ verdZ S.f S.lf S.cr S.ac b = 1) (h13 : S.lf = 1 → S.f ≤ 13) :
    Calls Tryd.prog 30 #[.pointer (some ⟨P, 0, none⟩), .int .i64 (b : Int)] w fun o w' => o = .returned (.int .i64 (verdZ S.f S.lf S.cr S.ac b)) ∧ aP w w' P B (stepT S b) := by
  have HP := plainCode_any w P S _ n k h.q hS.l1 b hb
  have HGO : Hid (∀ W, Calls Tryd.prog 31 #[.int .i64 (verdZ S.f S.lf S.cr S.ac b)] W fun o w' => o = .returned (.bool true) ∧ w' = W) := by
    intro W
    refine (goesOn_any W (verdZ S.f S.lf S.cr S.ac b)).mono ?_
    rintro o w' ⟨⟨x, rfl, hx⟩, rfl⟩
    rw [hx.2 hc]
    exact ⟨rfl, rfl⟩
  have HPC : Hid (Calls Tryd.prog 52 #[.pointer (some ⟨P, 0, none⟩), .int .i64 (b : Int)] w fun o w' => o = .returned (.int .i64 (verdZ S.f S.lf S.cr S.ac b)) ∧ Below w.heap.size w w') := HP
  have HK : Hid (kP w w P B S g n k) := h
  have HZ : Hid (∀ W, Below P w W → W.rangeAt 0 0 tabL ∧ B ≤ W.heap.size) := fun W hW => ⟨fun j v hv => (hW.cell (p := ⟨0, 0 + j, none⟩) (by exact hP)).trans (hg j v hv), Nat.le_trans hB hW.size⟩
  have HH : Hid (∀ W, kP w W P B S g n k → Calls Tryd.prog 53 #[.pointer (some ⟨P, 0, none⟩), .int .i64 (b : Int)] W fun o w' => (∃ v, o = .returned v) ∧ kP w w' P B (hearT S b) g n k) := by
    intro W hW
    refine (hear_any W P S _ n k hW.q hr1 hr0 b hb).mono ?_
    rintro o w' ⟨hv, hs⟩
    refine ⟨hv, hs.q, ?_, ?_, hW.b.trans hs.b, fun q h1 h2 => (hs.o q h1 (by have := hW.z; omega)).trans (hW.r q h1 h2), Nat.le_trans hW.z hs.b.size⟩
    · have e : (hearT S b).l = S.l := by unfold hearT; split <;> rfl
      rw [e]
      exact keepO hW.o fun q h1 h2 => hs.o q (by omega) h2
    · have e : (hearT S b).l = S.l := by unfold hearT; split <;> rfl
      rw [e]
      exact hW.l
  have e1 : (hearT S b).f = S.f ∧ (hearT S b).lf = S.lf ∧ (hearT S b).i = S.i ∧ (hearT S b).d = S.d ∧ (hearT S b).l = S.l ∧ (hearT S b).cr = S.cr ∧ (hearT S b).ac = S.ac := by unfold hearT; split <;> exact ⟨rfl, rfl, rfl, rfl, rfl, rfl, rfl⟩
  have hbd : bd (hearT S b) := by
    obtain ⟨a1, a2, a3, a4, a5, a6, a7, a8, a9, a10, a11, a12, a13, a14⟩ := hS
    obtain ⟨c1, c2, c3, c4, c5, c6, c7⟩ := e1
    exact ⟨by rw [c1]; exact a1, by rw [c1]; exact a2, by rw [c3]; exact a3, by rw [c4]; exact a4, by rw [c4]; exact a5, by rw [c5]; exact a6, by rw [c2]; exact a7, by rw [c2]; exact a8, by rw [c6]; exact a9, by rw [c6]; exact a10, by rw [c7]; exact a11, by rw [c7]; exact a12, by rw [c5]; exact a13, by rw [c1, c2, c5]; exact a14⟩
  have HKE : Hid (∀ W, kP w W P B (hearT S b) g n k → Calls Tryd.prog 54 #[.pointer (some ⟨P, 0, none⟩), .int .i64 (b : Int)] W fun o w' => (∃ v, o = .returned v) ∧ ∃ g' n' k', kP w w' P B (feedZ (accT (sumT (hearT S b) b) b) b) g' n' k') := by
    intro W hW
    refine (keep_any W P B hPB (HZ.out W hW.b).2 (hearT S b) hbd g n k ⟨hW.q, hW.o, hW.l, Below.refl _ _, fun _ _ _ => rfl, hW.z⟩ b hb).mono ?_
    rintro o w' ⟨hv, g', n', k', hs⟩
    exact ⟨hv, g', n', k', hs.q, hs.o, hs.l, hW.b.trans hs.b, fun q h1 h2 => (hs.r q h1 h2).trans (hW.r q h1 h2), hs.z⟩
  have e2 : (accT (sumT (hearT S b) b) b).f = S.f ∧ (accT (sumT (hearT S b) b) b).lf = S.lf ∧ (accT (sumT (hearT S b) b) b).d = S.d ∧ (accT (sumT (hearT S b) b) b).l = S.l := by
    obtain ⟨c1, c2, c3, c4, c5, c6, c7⟩ := e1
    unfold accT sumT
    refine ⟨?_, ?_, ?_, ?_⟩ <;> (repeat' split) <;> assumption
  have hfk := feedZ_keeps (accT (sumT (hearT S b) b) b) b hb (by rw [e2.2.2.1]; exact hS.d0) (by rw [e2.2.2.1]; exact hS.d1) (by rw [e2.2.2.2]; exact hS.sm)
  rw [e2.1, e2.2.1] at hfk
  have HAD : Hid (∀ W g' n' k', kP w W P B (feedZ (accT (sumT (hearT S b) b) b) b) g' n' k' → Calls Tryd.prog 55 #[.pointer (some ⟨P, 0, none⟩)] W fun o w' => (∃ v, o = .returned v) ∧ aP w w' P B (stepT S b)) := by
    intro W g' n' k' hW
    refine (advance_any W P B hP hPB (HZ.out W hW.b).2 (HZ.out W hW.b).1 _ (by rw [hfk.1]; exact hS.f1) (by rw [hfk.1, hfk.2.1]; exact h13) hfk.2.2.1 hfk.2.2.2.1 (by rw [hfk.2.1]; exact hS.l1) (by rw [hfk.2.1]; exact hS.l2) g' n' k' ⟨hW.q, hW.o, hW.l, Below.refl _ _, fun _ _ _ => rfl, hW.z⟩).mono ?_
    rintro o w' ⟨hv, hs⟩
    refine ⟨hv, ?_⟩
    rcases hs with ⟨g2, n2, k2, hs⟩ | ⟨h1, h2, h3⟩
    · exact Or.inl ⟨g2, n2, k2, hs.q, hs.o, hs.l, hW.b.trans hs.b, fun q h1 h2 => (hs.r q h1 h2).trans (hW.r q h1 h2), hs.z⟩
    · exact Or.inr ⟨h1, h2, hW.b.trans h3.1, fun q q1 q2 => (h3.2 q q1 q2).trans (hW.r q q1 q2)⟩
  have z2 := h.q.cell 2 _ rfl
  clear hfk e2 hbd e1 h HP hS hc h13 hg hr0 hr1
  generalize stepT S b = T3 at *
  generalize feedZ (accT (sumT (hearT S b) b) b) b = T2 at *
  generalize hearT S b = T1 at *
  obtain ⟨f, lf, rn, lv, cr, ac, e, i, r, d, l⟩ := S
  have q5 : (rn == 5) = false := by simpa using h5
  clear h5
  simp only [] at z2 HGO HPC ⊢
  generalize verdZ f lf cr ac b = v at *
  go_enter Tryd.func30, Tryd.ntmps30
  go_wp2_with fail
  refine HPC.out.mono ?_
  rintro o w1 ⟨rfl, hb1⟩
  have HK1 : Hid (kP w w1 P B ⟨f, lf, rn, lv, cr, ac, e, i, r, d, l⟩ g n k) := HK.out.below hb1
  clear hb1
  go_wp2_with fail
  refine (HGO.out _).mono ?_
  rintro o w2 ⟨rfl, rfl⟩
  go_wp2_with fail
  refine (HH.out _ HK1.out).mono ?_
  rintro o w3 ⟨⟨v1, rfl⟩, hk3⟩
  have HK3 : Hid _ := hk3
  clear hk3
  go_wp2_with fail
  refine (HKE.out _ HK3.out).mono ?_
  rintro o w4 ⟨⟨v2, rfl⟩, g', n', k', hk4⟩
  have HK4 : Hid _ := hk4
  clear hk4
  go_wp2_with fail
  refine (HAD.out _ g' n' k' HK4.out).mono ?_
  rintro o w5 ⟨⟨v3, rfl⟩, hk5⟩
  have HK5 : Hid _ := hk5
  clear hk5
  go_wp2_with fail
  go_ret
  exact ⟨rfl, HK5.out⟩
end Go.Proofs.YtjmlalojfghkiaaDoor.G
