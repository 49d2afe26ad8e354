import Derived.Test.YtjmlalojfghkiaaDoorV
namespace Go.Proofs.YtjmlalojfghkiaaDoor
open Go.RowKit
set_option linter.unusedVariables false
/-- the scan at block P has become T, its bytes its own -/
structure kP (w w' : World) (P B : Nat) (T : Sc) (g n k : Nat) : Prop where
  q : blk w' P (scL T (some ⟨g, 0, none⟩) n k) 31
  o : ownsB w' B (.slice (some ⟨g, 0, none⟩) n k) T.l
  l : n = T.l.length
  b : Below P w w'
  r : ∀ q, q ≠ P → q < B → w'.heap[q]? = w.heap[q]?
set_option maxHeartbeats 4000000 in
set_option maxRecDepth 20000 in
theorem keepData_app (w : World) (P B : Nat) (hPB : P < B) (hB : B ≤ w.heap.size) (S : Sc) (g n k : Nat) (h : blk w P (scL S (some ⟨g, 0, none⟩) n k) 31) (ho : ownsB w B (.slice (some ⟨g, 0, none⟩) n k) S.l) (hn : n = S.l.length) (hn8 : n ≤ 8) (hlf : 1 ≤ S.lf) (hlf1 : S.lf ≤ 64) (h8 : S.lf % 8 = 0) (b : Nat) (hb : b < 2) :
    Calls Tryd.prog 78 #[.pointer (some ⟨P, 0, none⟩), .int .u8 (b : Int)] w fun o w' => (∃ v, o = .returned v) ∧ ∃ g' k', kP w w' P B { S with l := S.l ++ [b] } g' (n + 1) k' := by
  obtain ⟨f, lf, rn, lv, cr, ac, e, i, r, d, l⟩ := S
  simp only [] at ho hn hlf hlf1 h8 ⊢
  have hgl := World.ownsRow.lt ho g rfl
  have HGL : Hid (B ≤ g ∧ g < w.heap.size) := hgl
  have HL : Hid (n = l.length) := hn
  have HP : Hid (blk (w.alloc (.cells #[.int .u8 (b : Int)] 5)) P (scL ⟨f, lf, rn, lv, cr, ac, e, i, r, d, l⟩ (some ⟨g, 0, none⟩) n k) 31) := h.alloc _
  have HX : Hid (blk (w.alloc (.cells #[.int .u8 (b : Int)] 5)) w.heap.size [.int .u8 (b : Int)] 5) := blk.new w _ 5
  have HO : Hid (World.ownsRow (w.alloc (.cells #[.int .u8 (b : Int)] 5)) B 5 1 (.slice (some ⟨g, 0, none⟩) n k) n (bv l)) := by
    have := ho.below ((Below.refl w.heap.size w).alloc (Nat.le_refl _) (.cells #[.int .u8 (b : Int)] 5))
    unfold ownsB at this
    rw [← hn] at this
    exact this
  have z1 := h.cell 1 _ rfl
  have z10 := h.cell 10 _ rfl
  have q8 : lf.tmod 8 = 0 := by rw [Int.tmod_eq_emod_of_nonneg (by omega)]; exact h8
  have HPl : Hid (P < w.heap.size) := h.lt
  clear h ho hn hgl h8
  go_enter Tryd.func78, Tryd.ntmps78
  go_wp2_with (first
    | (at_builtin; refine app_rec rfl (.tmp 16) (.tmp 18) 23 5 _ 1 1 Tryd.info5 Tryd.underlying23 rfl (by decide) (by decide) rfl B g n k (bv l) rfl HO.out w.heap.size [.int .u8 (b : Int)] rfl rfl HX.out (by intro u hu; simp at hu; subst hu; rfl) (by omega) (by simp; omega) ?_; intro g' k' w6 ho6 hg6 hg' hB6; have hgl := HGL.out; have hpl := HPl.out; have P6 := HP.out.kept (hg6.block _ (by simp; omega) (by intro e; cases e; omega)); have x10 := P6.cell 10 _ rfl; have f10 := P6.free 10; have HP6 : Hid (blk w6 P (scL ⟨f, lf, rn, lv, cr, ac, e, i, r, d, l⟩ (some ⟨g, 0, none⟩) n k) 31) := P6; have HO6 : Hid (w6.ownsRow B 5 1 (.slice (some ⟨g', 0, none⟩) (n + 1) k') (n + 1) (bv l ++ [.int .u8 (b : Int)]) ∧ g' ≠ P) := ⟨ho6, by omega⟩; have HR6 : Hid (∀ q, q ≠ P → q < B → w6.heap[q]? = w.heap[q]?) := (fun q h1 h2 => (hg6.block q (by simp; omega) (by intro e; cases e; omega)).trans (((Below.refl w.heap.size w).alloc (Nat.le_refl _) _).block q (by omega))); have HB6 : Hid (Below P w w6) := (((Below.refl w.heap.size w).alloc (Nat.le_refl _) _).mono (by omega)).grown hg6 (by simp; omega) (by intro q hq; cases hq; omega); clear P6 ho6 hg6 hgl hpl hg' hB6))
  refine bodyPost_ret (results_none rfl _ _ _) rfl ?_
  refine ⟨⟨_, rfl⟩, g', k', HP6.out.set 10 (.slice (some ⟨g', 0, none⟩) (n + 1) k'), ?_, ?_, HB6.out.setCell (by exact Nat.le_refl _) _, fun q h1 h2 => (heap_setCell_other _ _ _ _ (by exact h1)).trans (HR6.out q h1 h2)⟩
  · have h1 := ownsRow_keep (w' := w6.setCell ⟨P, 10, none⟩ (.slice (some ⟨g', 0, none⟩) (n + 1) k')) HO6.out.1 (heap_setCell_other _ _ _ _ (by exact HO6.out.2))
    show ownsB _ _ _ (l ++ [b])
    unfold ownsB
    rw [bv_append, List.length_append, ← HL.out]
    exact h1
  · show n + 1 = (l ++ [b]).length
    rw [List.length_append, HL.out]
    rfl
theorem or8a : ∀ x : Fin 256, ∀ b : Fin 2, bits BinOp.or IntKind.u8 (IntKind.u8.wrap ((x.val : Int) * 2)) (b.val : Int) = (((2 * x.val + b.val) % 256 : Nat) : Int) := by decide +kernel
theorem or8 (x b : Nat) (hx : x < 256) (hb : b < 2) : bits BinOp.or IntKind.u8 (IntKind.u8.wrap ((x : Int) * 2)) (b : Int) = (((2 * x + b) % 256 : Nat) : Int) := or8a ⟨x, hx⟩ ⟨b, hb⟩
/-- what stays in the draw of keepData -/
structure vS (w : World) (P : Nat) (S : Sc) (a : Option Addr) (n k : Nat) (W : World) : Prop where
  p : blk W P (scL S a n k) 31
  b : Below P w W
set_option maxHeartbeats 4000000 in
set_option maxRecDepth 20000 in
theorem keepData_last (w : World) (P B : Nat) (hPB : P < B) (hB : B ≤ w.heap.size) (S : Sc) (g m k : Nat) (h : blk w P (scL S (some ⟨g, 0, none⟩) (m + 1) k) 31) (ho : ownsB w B (.slice (some ⟨g, 0, none⟩) (m + 1) k) S.l) (hn : m + 1 = S.l.length) (hn8 : m ≤ 7) (hsm : ∀ x ∈ S.l, x < 256) (hlf : 1 ≤ S.lf) (hlf1 : S.lf ≤ 64) (h8 : ¬ S.lf % 8 = 0) (b : Nat) (hb : b < 2) :
    Calls Tryd.prog 78 #[.pointer (some ⟨P, 0, none⟩), .int .u8 (b : Int)] w fun o w' => (∃ v, o = .returned v) ∧ kP w w' P B { S with l := S.l.set m ((2 * S.l.getD m 0 + b) % 256) } g (m + 1) k := by
  obtain ⟨f, lf, rn, lv, cr, ac, e, i, r, d, l⟩ := S
  simp only [] at ho hn hlf hlf1 h8 hsm ⊢
  have hgl := World.ownsRow.lt ho g rfl
  have HGL : Hid (B ≤ g ∧ g < w.heap.size) := hgl
  have HL : Hid (m + 1 = l.length) := hn
  have h1 : w.ownsRow B 5 1 (.slice (some ⟨g, 0, none⟩) (m + 1) k) (m + 1) (bv l) := by unfold ownsB at ho; rw [← hn] at ho; exact ho
  have h3 : m < l.length := by omega
  have hx : l.getD m 0 < 256 := by
    simp only [List.getD, List.getElem?_eq_getElem h3, Option.getD_some]
    exact hsm _ (List.getElem_mem _)
  have HC : Hid (w.cell? ⟨g, m, none⟩ = some (.int .u8 ((l.getD m 0 : Nat) : Int)) ∧ w.frozen? ⟨g, m, none⟩ = false) := by
    have h2 := World.ownsRow.cellAt h1 m (by omega)
    rw [bv_at l m h3] at h2
    simp only [List.getD, List.getElem?_eq_getElem h3, Option.getD_some]
    exact ⟨h2, World.ownsRow.frozenAt h1 m⟩
  have HO : Hid (w.ownsRow B 5 1 (.slice (some ⟨g, 0, none⟩) (m + 1) k) (m + 1) (bv l)) := h1
  have HB0 : Hid (blk w P (scL ⟨f, lf, rn, lv, cr, ac, e, i, r, d, l⟩ (some ⟨g, 0, none⟩) (m + 1) k) 31) := h
  have hkk : m + 1 ≤ k := by
    rcases h1.2 with ⟨e, _⟩ | ⟨g1, cap, cur, hv', hb, hg, hcp, hmx, hsz, htk⟩
    · cases e
    · cases hv'; exact hcp
  generalize hX : l.getD m 0 = x at *
  generalize hY : (2 * x + b) % 256 = y at *
  have z1 := h.cell 1 _ rfl
  have z10 := h.cell 10 _ rfl
  have q8 : (lf % 8 == 0) = false := by simpa using h8
  clear h ho hn hgl h8 h1 h3 hsm hX
  go_enter Tryd.func78, Tryd.ntmps78
  go_wp2_with fail
  refine wp_region_held (S := vS w P ⟨f, lf, rn, lv, cr, ac, e, i, r, d, l⟩ (some ⟨g, 0, none⟩) (m + 1) k) (by kernel_rfl) ?_
  obtain ⟨wd, hwd⟩ : ∃ wd, wd = w.drew := ⟨_, rfl⟩
  change wpAnyH _ _ _ _ _ _ _ _ w.drew
  rw [← hwd]
  have hwb : Below w.heap.size w wd := hwd ▸ (Below.refl _ _).drew
  have hpl := HB0.out.lt
  have hs : vS w P ⟨f, lf, rn, lv, cr, ac, e, i, r, d, l⟩ (some ⟨g, 0, none⟩) (m + 1) k wd := ⟨HB0.out.below hwb, hwb.mono (by omega)⟩
  have hc := (hwb.cell (p := ⟨g, m, none⟩) HGL.out.2).trans HC.out.1
  have hfz := (hwb.frozen (p := ⟨g, m, none⟩) HGL.out.2).trans HC.out.2
  have HO2 : Hid (wd.ownsRow B 5 1 (.slice (some ⟨g, 0, none⟩) (m + 1) k) (m + 1) (bv l)) := ownsRow_keep HO.out (hwb.block g HGL.out.2)
  have HR2 : Hid (∀ q, q < B → wd.heap[q]? = w.heap[q]?) := fun q h2 => hwb.block q (by omega)
  clear hwb hwd HO HC z1 z10
  refine wpAnyH_take (i := 0) (v := .pointer (some ⟨P, 0, none⟩)) rfl (by kernel_rfl) (by kernel_rfl) (by kernel_rfl) (fun _ _ _ h => h) (Or.inl ⟨by rfl, ?_⟩) hs ?_
  · intro W hW
    clear hs
    go_simp
  simp only [Act.put, List.setIfInBounds_toArray, List.set_cons_zero, List.set_cons_succ, List.getElem_toArray, List.getElem_cons_zero]
  refine wpAnyH_take (i := 1) (v := .pointer (some ⟨P, 0, none⟩)) rfl (by kernel_rfl) (by kernel_rfl) (by kernel_rfl) (fun _ _ _ h => h) (Or.inl ⟨by rfl, ?_⟩) hs ?_
  · intro W hW
    clear hs
    go_simp
  simp only [Act.put, List.setIfInBounds_toArray, List.set_cons_zero, List.set_cons_succ, List.getElem_toArray, List.getElem_cons_zero, List.getElem_cons_succ]
  refine wpAnyH_take (i := 2) (v := .pointer (some ⟨P, 6, none⟩)) rfl (by kernel_rfl) (by kernel_rfl) (by kernel_rfl) (fun _ _ _ h => h) (Or.inl ⟨by rfl, ?_⟩) hs ?_
  · intro W hW
    clear hs
    go_simp
  simp only [Act.put, List.setIfInBounds_toArray, List.set_cons_zero, List.set_cons_succ, List.getElem_toArray, List.getElem_cons_zero, List.getElem_cons_succ]
  refine wpAnyH_take (i := 3) (v := .pointer (some ⟨P, 10, none⟩)) rfl (by kernel_rfl) (by kernel_rfl) (by kernel_rfl) (fun _ _ _ h => h) (Or.inl ⟨by rfl, ?_⟩) hs ?_
  · intro W hW
    clear hs
    go_simp
  simp only [Act.put, List.setIfInBounds_toArray, List.set_cons_zero, List.set_cons_succ, List.getElem_toArray, List.getElem_cons_zero, List.getElem_cons_succ]
  refine wpAnyH_take (i := 4) (v := .slice (some ⟨g, 0, none⟩) (m + 1) k) rfl (by kernel_rfl) (by kernel_rfl) (by kernel_rfl) (fun _ _ _ h => h) (Or.inl ⟨by rfl, ?_⟩) hs ?_
  · intro W hW
    clear hs
    have z10 := hW.p.cell 10 _ rfl
    go_simp
  simp only [Act.put, List.setIfInBounds_toArray, List.set_cons_zero, List.set_cons_succ, List.getElem_toArray, List.getElem_cons_zero, List.getElem_cons_succ]
  refine wpAnyH_take (i := 5) (v := .int .i64 (m : Int)) rfl (by kernel_rfl) (by kernel_rfl) (by kernel_rfl) (fun _ _ _ h => h) (Or.inl ⟨by rfl, ?_⟩) hs ?_
  · intro W hW
    clear hs
    go_simp
  simp only [Act.put, List.setIfInBounds_toArray, List.set_cons_zero, List.set_cons_succ, List.getElem_toArray, List.getElem_cons_zero, List.getElem_cons_succ]
  refine wpAnyH_take (i := 6) (v := .pointer (some ⟨P, 0, none⟩)) rfl (by kernel_rfl) (by kernel_rfl) (by kernel_rfl) (fun _ _ _ h => h) (Or.inl ⟨by rfl, ?_⟩) hs ?_
  · intro W hW
    clear hs
    go_simp
  simp only [Act.put, List.setIfInBounds_toArray, List.set_cons_zero, List.set_cons_succ, List.getElem_toArray, List.getElem_cons_zero, List.getElem_cons_succ]
  refine wpAnyH_take (i := 7) (v := .pointer (some ⟨P, 0, none⟩)) rfl (by kernel_rfl) (by kernel_rfl) (by kernel_rfl) (fun _ _ _ h => h) (Or.inl ⟨by rfl, ?_⟩) hs ?_
  · intro W hW
    clear hs
    go_simp
  simp only [Act.put, List.setIfInBounds_toArray, List.set_cons_zero, List.set_cons_succ, List.getElem_toArray, List.getElem_cons_zero, List.getElem_cons_succ]
  refine wpAnyH_take (i := 8) (v := .pointer (some ⟨P, 6, none⟩)) rfl (by kernel_rfl) (by kernel_rfl) (by kernel_rfl) (fun _ _ _ h => h) (Or.inl ⟨by rfl, ?_⟩) hs ?_
  · intro W hW
    clear hs
    go_simp
  simp only [Act.put, List.setIfInBounds_toArray, List.set_cons_zero, List.set_cons_succ, List.getElem_toArray, List.getElem_cons_zero, List.getElem_cons_succ]
  refine wpAnyH_take (i := 9) (v := .pointer (some ⟨P, 10, none⟩)) rfl (by kernel_rfl) (by kernel_rfl) (by kernel_rfl) (fun _ _ _ h => h) (Or.inl ⟨by rfl, ?_⟩) hs ?_
  · intro W hW
    clear hs
    go_simp
  simp only [Act.put, List.setIfInBounds_toArray, List.set_cons_zero, List.set_cons_succ, List.getElem_toArray, List.getElem_cons_zero, List.getElem_cons_succ]
  refine wpAnyH_take (i := 10) (v := .slice (some ⟨g, 0, none⟩) (m + 1) k) rfl (by kernel_rfl) (by kernel_rfl) (by kernel_rfl) (fun _ _ _ h => h) (Or.inl ⟨by rfl, ?_⟩) hs ?_
  · intro W hW
    clear hs
    have z10 := hW.p.cell 10 _ rfl
    go_simp
  simp only [Act.put, List.setIfInBounds_toArray, List.set_cons_zero, List.set_cons_succ, List.getElem_toArray, List.getElem_cons_zero, List.getElem_cons_succ]
  refine wpAnyH_take (i := 11) (v := .int .i64 (m : Int)) rfl (by kernel_rfl) (by kernel_rfl) (by kernel_rfl) (fun _ _ _ h => h) (Or.inl ⟨by rfl, ?_⟩) hs ?_
  · intro W hW
    clear hs
    go_simp
  simp only [Act.put, List.setIfInBounds_toArray, List.set_cons_zero, List.set_cons_succ, List.getElem_toArray, List.getElem_cons_zero, List.getElem_cons_succ]
  refine wpAnyH_take (i := 12) (v := .pointer (some ⟨g, m, none⟩)) rfl (by kernel_rfl) (by kernel_rfl) (by kernel_rfl) (fun _ _ _ h => h) (Or.inl ⟨by rfl, ?_⟩) hs ?_
  · intro W hW
    clear hs
    go_simp
    intro h
    omega
  simp only [Act.put, List.setIfInBounds_toArray, List.set_cons_zero, List.set_cons_succ, List.getElem_toArray, List.getElem_cons_zero, List.getElem_cons_succ]
  refine wpAnyH_take (i := 15) (v := .int .u8 (b : Int)) rfl (by kernel_rfl) (by kernel_rfl) (by kernel_rfl) (fun _ _ _ h => h) (Or.inl ⟨by rfl, ?_⟩) hs ?_
  · intro W hW
    clear hs
    go_simp
  simp only [Act.put, List.setIfInBounds_toArray, List.set_cons_zero, List.set_cons_succ, List.getElem_toArray, List.getElem_cons_zero, List.getElem_cons_succ]
  refine wpAnyH_all (rs := [13]) (by kernel_rfl) (by simp) ?_
  refine AllReadyH.cons rfl (fun K hK => ?_) AllReadyH.nil
  go_simp
  refine hK.out _ _ hs (fun hs2 => ?_)
  clear hK K hs2
  refine wpAnyH_take (i := 14) (v := .int .u8 (IntKind.u8.wrap ((x : Int) * 2))) rfl (by kernel_rfl) (by kernel_rfl) (by kernel_rfl) (fun _ _ _ h => h) (Or.inl ⟨by rfl, ?_⟩) hs ?_
  · intro W hW
    clear hs
    go_simp
  simp only [Act.put, List.setIfInBounds_toArray, List.set_cons_zero, List.set_cons_succ, List.getElem_toArray, List.getElem_cons_zero, List.getElem_cons_succ]
  refine wpAnyH_take (i := 16) (v := .int .u8 (y : Int)) rfl (by kernel_rfl) (by kernel_rfl) (by kernel_rfl) (fun _ _ _ h => h) (Or.inl ⟨by rfl, ?_⟩) hs ?_
  · intro W hW
    clear hs
    go_simp
    rw [← hY]
    exact or8 x b hx hb
  simp only [Act.put, List.setIfInBounds_toArray, List.set_cons_zero, List.set_cons_succ, List.getElem_toArray, List.getElem_cons_zero, List.getElem_cons_succ]
  refine wpAnyH_take (i := 17) (v := .pointer (some ⟨g, m, none⟩)) rfl (by kernel_rfl) (by kernel_rfl) (by kernel_rfl) (fun _ _ _ h => h) (Or.inl ⟨by rfl, ?_⟩) hs ?_
  · intro W hW
    clear hs
    go_simp
    intro h
    omega
  simp only [Act.put, List.setIfInBounds_toArray, List.set_cons_zero, List.set_cons_succ, List.getElem_toArray, List.getElem_cons_zero, List.getElem_cons_succ]
  refine wpAnyH_all (rs := [18]) (by kernel_rfl) (by simp) ?_
  refine AllReadyH.cons rfl (fun K hK => ?_) AllReadyH.nil
  go_simp
  have hgl := HGL.out
  have hs9 : vS w P ⟨f, lf, rn, lv, cr, ac, e, i, r, d, l⟩ (some ⟨g, 0, none⟩) (m + 1) k (wd.setCell ⟨g, m, none⟩ (.int .u8 (y : Int))) := ⟨hs.p.setOther (by omega) _ _, hs.b.setCell (by show P ≤ g; omega) _⟩
  have HO9 : Hid ((wd.setCell ⟨g, m, none⟩ (.int .u8 (y : Int))).ownsRow B 5 1 (.slice (some ⟨g, 0, none⟩) (m + 1) k) (m + 1) ((bv l).set m (.int .u8 (y : Int)))) := (World.ownsRow.stored HO2.out m _).1
  have HR9 : Hid (∀ q, q ≠ P → q < B → (wd.setCell ⟨g, m, none⟩ (.int .u8 (y : Int))).heap[q]? = w.heap[q]?) := fun q h1 h2 => (heap_setCell_other _ _ _ _ (by show q ≠ g; omega)).trans (HR2.out q h2)
  refine hK.out _ _ hs9 (fun hs2 => ?_)
  clear hK K hs2
  clear hs
  refine wpAnyH_done (by kernel_rfl) ?_ _
  have HS9 : Hid _ := hs9
  generalize wd.setCell ⟨g, m, none⟩ (.int .u8 (y : Int)) = w9 at *
  clear hs9 hc hfz
  go_wp2_with fail
  go_end0
  refine ⟨⟨_, rfl⟩, HS9.out.p, ?_, ?_, HS9.out.b, HR9.out⟩
  · show ownsB w9 B _ (l.set m y)
    unfold ownsB
    rw [bv_set, List.length_set, ← HL.out]
    exact HO9.out
  · show m + 1 = (l.set m y).length
    rw [List.length_set]
    exact HL.out
end Go.Proofs.YtjmlalojfghkiaaDoor
