import Derived.Test.YtjmlalojfghkiaaDoorZ
namespace Go.Proofs.YtjmlalojfghkiaaDoor
open Go.RowKit
set_option linter.unusedVariables false
theorem kP.below {w w' w'' : World} {P B : Nat} {T : Sc} {g n k : Nat} (h : kP w w' P B T g n k) (hb : Below w'.heap.size w' w'') : kP w w'' P B T g n k := ⟨h.q.below hb, h.o.below hb, h.l, h.b.trans (hb.mono (Nat.le_of_lt h.q.lt)), fun q h1 h2 => (hb.block q (by have := World.ownsRow.lt h.o g rfl; omega)).trans (h.r q h1 h2)⟩
theorem rsz_after (f : Int) (e r : Bool) (d : Int) (hf : f ≤ 13) (hd : 0 ≤ d) : rsz (afterZ f e r d) e r d = sizeZ (afterZ f e r d) e d := by
  by_cases h9 : afterZ f e r d = 9
  · have h8 : f = 8 ∧ r = false := by
      unfold afterZ at h9
      split at h9
      · omega
      · split at h9
        · omega
        · rename_i h2
          have hf8 : f = 8 := by omega
          refine ⟨hf8, ?_⟩
          cases r
          · rfl
          · exact absurd ⟨hf8, Or.inl rfl⟩ h2
    rw [h9]
    unfold rsz
    rw [if_pos rfl, h8.2]
    show 8 * dlen false d = if d > 8 then 64 else 8 * d
    unfold dlen
    simp
    split <;> omega
  · unfold rsz
    rw [if_neg h9]
theorem after_le (f : Int) (e r : Bool) (d : Int) (h1 : 1 ≤ f) (h2 : f ≤ 13) : 1 ≤ afterZ f e r d ∧ afterZ f e r d ≤ 14 := by
  unfold afterZ
  split
  · omega
  · split <;> omega
theorem sz97 : (Tryd.prog.info? 97).map (·.size) = some 3 := by kernel_rfl
theorem one3 (a b c : Int) : (#[.int .i64 a, .int .i64 b, .int .i64 c] : Array Value).all (·.oneCell') = true := all_oneCell_toArray (by simp [Value.oneCell'])
/-- what stays in the first draw of advance -/
structure aS (w : World) (P : Nat) (T : Sc) (a : Option Addr) (n k : Nat) (W : World) : Prop where
  p : blk W P (scL T a n k) 31
  t : W.rangeAt 0 0 tabL
  z : 0 < W.heap.size
  b : Below P w W
theorem aS.below {w : World} {P : Nat} {T : Sc} {a : Option Addr} {n k : Nat} {W W' : World} (h : aS w P T a n k W) (hb : Below W.heap.size W W') : aS w P T a n k W' :=
  ⟨h.p.below hb, fun j v hv => (hb.cell (p := ⟨0, 0 + j, none⟩) h.z).trans (h.t j v hv), Nat.lt_of_lt_of_le h.z hb.size, h.b.trans (hb.mono (Nat.le_of_lt h.p.lt))⟩
set_option maxHeartbeats 8000000 in
set_option maxRecDepth 40000 in
theorem advance_last (w : World) (P B : Nat) (hP : 0 < P) (hPB : P < B) (hB : B ≤ w.heap.size) (hg : w.rangeAt 0 0 tabL) (f : Int) (hf : 1 ≤ f) (hf1 : f ≤ 13) (rn lv cr ac : Int) (e : Bool) (i : Nat) (r : Bool) (d : Int) (hd : 0 ≤ d) (hd1 : d ≤ 15) (l : List Nat) (g n k : Nat) (h : kP w w P B ⟨f, 1, rn, lv, cr, ac, e, i, r, d, l⟩ g n k) :
    Calls Tryd.prog 55 #[.pointer (some ⟨P, 0, none⟩)] w fun o w' => (∃ v, o = .returned v) ∧ (if afterZ f e r d = 9 then blk w' P (scL ⟨afterZ f e r d, sizeZ (afterZ f e r d) e d, rn, lv, cr, ac, e, i, r, d, []⟩ none 0 0) 31 ∧ Below P w w' ∧ (∀ q, q ≠ P → q < B → w'.heap[q]? = w.heap[q]?) else kP w w' P B ⟨afterZ f e r d, sizeZ (afterZ f e r d) e d, rn, lv, cr, ac, e, i, r, d, l⟩ g n k) := by
  have hgl := World.ownsRow.lt h.o g rfl
  have HG : Hid (g ≠ P) := by show g ≠ P; omega
  have HZ : Hid (0 < w.heap.size) := by show 0 < _; omega
  have HT : Hid (∀ W, Below P w W → W.rangeAt 0 0 tabL) := fun W hW j v hv => (hW.cell (p := ⟨0, 0 + j, none⟩) (by exact hP)).trans (hg j v hv)
  have haf := after_le f e r d hf hf1
  have hre := rsz_after f e r d hf1 hd
  have HR1 : Hid (∀ W : World, W.rangeAt 0 0 tabL → 0 < W.heap.size → Calls Tryd.prog 75 #[.int .i64 f, frV e i r d (some ⟨g, 0, none⟩) n k] W fun o w' => ∃ z1 : Int, o = .returned (.agg #[.int .i64 f, .int .i64 z1, .int .i64 (afterZ f e r d)]) ∧ Below W.heap.size W w') := fun W h1 h2 => (rowOf_any W h1 h2 f hf (by omega) e i r d hd hd1 _ n k).mono (by rintro o w' ⟨rfl, hb⟩; exact ⟨_, rfl, hb⟩)
  have HR2 : Hid (∀ W : World, W.rangeAt 0 0 tabL → 0 < W.heap.size → Calls Tryd.prog 75 #[.int .i64 (afterZ f e r d), frV e i r d (some ⟨g, 0, none⟩) n k] W fun o w' => ∃ u1 : Int, o = .returned (.agg #[.int .i64 (afterZ f e r d), .int .i64 (sizeZ (afterZ f e r d) e d), .int .i64 u1]) ∧ Below W.heap.size W w') := fun W h1 h2 => (rowOf_any W h1 h2 (afterZ f e r d) haf.1 haf.2 e i r d hd hd1 _ n k).mono (by rintro o w' ⟨rfl, hb⟩; rw [hre]; exact ⟨_, rfl, hb⟩)
  have z1 := h.q.cell 1 _ rfl
  have f1 := h.q.free 1
  have HK : Hid (kP w (w.setCell ⟨P, 1, none⟩ (.int .i64 0)) P B ⟨f, 0, rn, lv, cr, ac, e, i, r, d, l⟩ g n k) := h.put (by omega) 1 (.int .i64 0) rfl rfl
  clear h hg hgl hre
  generalize afterZ f e r d = af at *
  generalize sizeZ af e d = sz at *
  go_enter Tryd.func55, Tryd.ntmps55
  go_upto_region 2 with fail
  go_cut [2] (fun s2 wx => ∃ (Q : Nat) (u : Int), s2 = .pointer (some ⟨Q, 0, none⟩) ∧ blk wx Q [.int .i64 af, .int .i64 sz, .int .i64 u] 97 ∧ kP w wx P B ⟨f, 0, rn, lv, cr, ac, e, i, r, d, l⟩ g n k ∧ Q ≠ P)
  case first =>
    generalize w.setCell ⟨P, 1, none⟩ (.int .i64 0) = w5 at *
    refine wp_region_held (S := aS w P ⟨f, 0, rn, lv, cr, ac, e, i, r, d, l⟩ (some ⟨g, 0, none⟩) n k) (by kernel_rfl) ?_
    obtain ⟨wd, hwd⟩ : ∃ wd, wd = w5.drew := ⟨_, rfl⟩
    change wpAnyH _ _ _ _ _ _ _ _ w5.drew
    rw [← hwd]
    have hk := HK.out.below (w'' := wd) (hwd ▸ (Below.refl _ _).drew)
    have hs : aS w P ⟨f, 0, rn, lv, cr, ac, e, i, r, d, l⟩ (some ⟨g, 0, none⟩) n k wd := ⟨hk.q, HT.out _ hk.b, Nat.lt_of_lt_of_le HZ.out hk.b.size, hk.b⟩
    clear hwd HK z1 f1
    refine wpAnyH_take (i := 0) (v := .pointer (some ⟨P, 0, none⟩)) rfl (by kernel_rfl) (by kernel_rfl) (by kernel_rfl) (fun _ _ _ h => h) (Or.inl ⟨by rfl, ?_⟩) hs ?_
    · intro W hW
      clear hs
      go_simp
    simp only [Act.put, List.setIfInBounds_toArray, List.set_cons_zero, List.set_cons_succ, List.getElem_toArray, List.getElem_cons_zero]
    refine wpAnyH_take (i := 1) (v := .pointer (some ⟨P, 0, none⟩)) rfl (by kernel_rfl) (by kernel_rfl) (by kernel_rfl) (fun _ _ _ h => h) (Or.inl ⟨by rfl, ?_⟩) hs ?_
    · intro W hW
      clear hs
      go_simp
    simp only [Act.put, List.setIfInBounds_toArray, List.set_cons_zero, List.set_cons_succ, List.getElem_toArray, List.getElem_cons_zero, List.getElem_cons_succ]
    refine wpAnyH_take (i := 2) (v := .pointer (some ⟨P, 0, none⟩)) rfl (by kernel_rfl) (by kernel_rfl) (by kernel_rfl) (fun _ _ _ h => h) (Or.inl ⟨by rfl, ?_⟩) hs ?_
    · intro W hW
      clear hs
      go_simp
    simp only [Act.put, List.setIfInBounds_toArray, List.set_cons_zero, List.set_cons_succ, List.getElem_toArray, List.getElem_cons_zero, List.getElem_cons_succ]
    refine wpAnyH_take (i := 3) (v := .int .i64 f) rfl (by kernel_rfl) (by kernel_rfl) (by kernel_rfl) (fun _ _ _ h => h) (Or.inl ⟨by rfl, ?_⟩) hs ?_
    · intro W hW
      clear hs
      have z0 := hW.p.cell 0 _ rfl
      go_simp
    simp only [Act.put, List.setIfInBounds_toArray, List.set_cons_zero, List.set_cons_succ, List.getElem_toArray, List.getElem_cons_zero, List.getElem_cons_succ]
    refine wpAnyH_take (i := 4) (v := .pointer (some ⟨P, 0, none⟩)) rfl (by kernel_rfl) (by kernel_rfl) (by kernel_rfl) (fun _ _ _ h => h) (Or.inl ⟨by rfl, ?_⟩) hs ?_
    · intro W hW
      clear hs
      go_simp
    simp only [Act.put, List.setIfInBounds_toArray, List.set_cons_zero, List.set_cons_succ, List.getElem_toArray, List.getElem_cons_zero, List.getElem_cons_succ]
    refine wpAnyH_take (i := 5) (v := .pointer (some ⟨P, 0, none⟩)) rfl (by kernel_rfl) (by kernel_rfl) (by kernel_rfl) (fun _ _ _ h => h) (Or.inl ⟨by rfl, ?_⟩) hs ?_
    · intro W hW
      clear hs
      go_simp
    simp only [Act.put, List.setIfInBounds_toArray, List.set_cons_zero, List.set_cons_succ, List.getElem_toArray, List.getElem_cons_zero, List.getElem_cons_succ]
    refine wpAnyH_take (i := 6) (v := .pointer (some ⟨P, 6, none⟩)) rfl (by kernel_rfl) (by kernel_rfl) (by kernel_rfl) (fun _ _ _ h => h) (Or.inl ⟨by rfl, ?_⟩) hs ?_
    · intro W hW
      clear hs
      go_simp
    simp only [Act.put, List.setIfInBounds_toArray, List.set_cons_zero, List.set_cons_succ, List.getElem_toArray, List.getElem_cons_zero, List.getElem_cons_succ]
    refine wpAnyH_take (i := 7) (v := .agg [.bool e, .int .u32 (i : Int), .bool r, .int .i64 d, .slice (some ⟨g, 0, none⟩) n k].toArray) rfl (by kernel_rfl) (by kernel_rfl) (by kernel_rfl) (fun _ _ _ h => h) (yieldsIf_load_mid (by rfl) 29 (.tmp 21) rfl P 6 rfl [.bool e, .int .u32 (i : Int), .bool r, .int .i64 d, .slice (some ⟨g, 0, none⟩) n k] _ (fun W h => blk.loadAt [.int .i64 f, .int .i64 0, .int .i64 rn, .int .i64 lv, .int .i64 cr, .int .i64 ac] [.bool e, .int .u32 (i : Int), .bool r, .int .i64 d, .slice (some ⟨g, 0, none⟩) n k] [] h.p) Tryd.underlying29 rfl sz29) hs ?_
    simp only [Act.put, List.setIfInBounds_toArray, List.set_cons_zero, List.set_cons_succ, List.getElem_toArray, List.getElem_cons_zero, List.getElem_cons_succ]
    refine wpAnyH_take (i := 10) (v := .pointer (some ⟨P, 0, none⟩)) rfl (by kernel_rfl) (by kernel_rfl) (by kernel_rfl) (fun _ _ _ h => h) (Or.inl ⟨by rfl, ?_⟩) hs ?_
    · intro W hW
      clear hs
      go_simp
    simp only [Act.put, List.setIfInBounds_toArray, List.set_cons_zero, List.set_cons_succ, List.getElem_toArray, List.getElem_cons_zero, List.getElem_cons_succ]
    refine wpAnyH_take (i := 11) (v := .pointer (some ⟨P, 0, none⟩)) rfl (by kernel_rfl) (by kernel_rfl) (by kernel_rfl) (fun _ _ _ h => h) (Or.inl ⟨by rfl, ?_⟩) hs ?_
    · intro W hW
      clear hs
      go_simp
    simp only [Act.put, List.setIfInBounds_toArray, List.set_cons_zero, List.set_cons_succ, List.getElem_toArray, List.getElem_cons_zero, List.getElem_cons_succ]
    refine wpAnyH_take (i := 12) (v := .pointer (some ⟨P, 6, none⟩)) rfl (by kernel_rfl) (by kernel_rfl) (by kernel_rfl) (fun _ _ _ h => h) (Or.inl ⟨by rfl, ?_⟩) hs ?_
    · intro W hW
      clear hs
      go_simp
    simp only [Act.put, List.setIfInBounds_toArray, List.set_cons_zero, List.set_cons_succ, List.getElem_toArray, List.getElem_cons_zero, List.getElem_cons_succ]
    refine wpAnyH_take (i := 13) (v := .agg [.bool e, .int .u32 (i : Int), .bool r, .int .i64 d, .slice (some ⟨g, 0, none⟩) n k].toArray) rfl (by kernel_rfl) (by kernel_rfl) (by kernel_rfl) (fun _ _ _ h => h) (yieldsIf_load_mid (by rfl) 29 (.tmp 27) rfl P 6 rfl [.bool e, .int .u32 (i : Int), .bool r, .int .i64 d, .slice (some ⟨g, 0, none⟩) n k] _ (fun W h => blk.loadAt [.int .i64 f, .int .i64 0, .int .i64 rn, .int .i64 lv, .int .i64 cr, .int .i64 ac] [.bool e, .int .u32 (i : Int), .bool r, .int .i64 d, .slice (some ⟨g, 0, none⟩) n k] [] h.p) Tryd.underlying29 rfl sz29) hs ?_
    simp only [Act.put, List.setIfInBounds_toArray, List.set_cons_zero, List.set_cons_succ, List.getElem_toArray, List.getElem_cons_zero, List.getElem_cons_succ]
    refine wpAnyH_all (rs := [8, 15]) (by kernel_rfl) (by simp) ?_
    refine AllReadyH.cons rfl (fun K hK => ?_) (AllReadyH.cons rfl (fun K hK => ?_) AllReadyH.nil)
    · go_simp
      refine (HR1.out _ hs.t hs.z).mono ?_
      rintro o wa ⟨y1, rfl, hbwa⟩
      have hkwa := hk.below hbwa
      have hswa := hs.below hbwa
      go_wp2_with fail
      refine hK.out _ _ hswa (fun hs2 => ?_)
      clear hK K hs2
      have hs := hswa
      have hfld : ∀ W : World, (Instr.field 97 (.agg #[.int .i64 f, .int .i64 y1, .int .i64 af]) 2).run Tryd.prog W = .ok (.int .i64 af) W := fun W => by kernel_rfl
      refine wpAnyH_take (i := 9) (v := .int .i64 af) rfl (by kernel_rfl) (by kernel_rfl) (by kernel_rfl) (fun _ _ _ h => h) (Or.inl ⟨by rfl, ?_⟩) hs ?_
      · intro W hW
        clear hs
        have hfl := hfld W
        go_simp
      simp only [Act.put, List.setIfInBounds_toArray, List.set_cons_zero, List.set_cons_succ, List.getElem_toArray, List.getElem_cons_zero, List.getElem_cons_succ]
      refine wpAnyH_all (rs := [14, 15]) (by kernel_rfl) (by simp) ?_
      refine AllReadyH.cons rfl (fun K hK => ?_) (AllReadyH.cons rfl (fun K hK => ?_) AllReadyH.nil)
      · go_simp
        refine (HR2.out _ hswa.t hswa.z).mono ?_
        rintro o wb ⟨u1, rfl, hbwb⟩
        have hkwb := hkwa.below hbwb
        have hswb := hswa.below hbwb
        go_wp2_with fail
        refine hK.out _ _ hswb (fun hs2 => ?_)
        clear hK K hs2
        refine wpAnyH_all (rs := [15]) (by kernel_rfl) (by simp) ?_
        refine AllReadyH.cons rfl (fun K hK => ?_) AllReadyH.nil
        go_simp
        have hbA : Below wb.heap.size wb (wb.alloc (.cells #[.int .i64 0, .int .i64 0, .int .i64 0] 97)) := (Below.refl _ _).alloc (Nat.le_refl _) _
        have hkA := hkwb.below hbA
        have hsA := hswb.below hbA
        have hqA : blk (wb.alloc (.cells #[.int .i64 0, .int .i64 0, .int .i64 0] 97)) wb.heap.size ([] ++ [.int .i64 0, .int .i64 0, .int .i64 0] ++ []) 97 := blk.new wb _ 97
        have hpl := hkwb.q.lt
        have hQP : wb.heap.size ≠ P := by omega
        have HGQ : g ≠ wb.heap.size := by have := (World.ownsRow.lt hkwb.o g rfl).2; omega
        have hBQ : B ≤ wb.heap.size := by have := World.ownsRow.lt hkwb.o g rfl; omega
        refine hK.out _ _ hsA (fun hs2 => ?_)
        clear hK K hs2
        refine wpAnyH_all (rs := [16]) (by kernel_rfl) (by simp) ?_
        refine AllReadyH.cons rfl (fun K hK => ?_) AllReadyH.nil
        rw [if_pos (by rfl)]
        refine wp_store_mid (P := Tryd.prog) 97 (.tmp 2) (.tmp 29) rfl wb.heap.size 0 #[.int .i64 af, .int .i64 sz, .int .i64 u1] rfl rfl (hqA.there 0 3 (by simp)) sz97 (one3 _ _ _) ?_
        have hqF : blk (World.setCells (wb.alloc (.cells #[.int .i64 0, .int .i64 0, .int .i64 0] 97)) wb.heap.size 0 [.int .i64 af, .int .i64 sz, .int .i64 u1]) wb.heap.size [.int .i64 af, .int .i64 sz, .int .i64 u1] 97 := blk.put [] [.int .i64 0, .int .i64 0, .int .i64 0] [] _ hqA rfl
        have hgQ : g ≠ wb.heap.size := HGQ
        have hkF : kP w (World.setCells (wb.alloc (.cells #[.int .i64 0, .int .i64 0, .int .i64 0] 97)) wb.heap.size 0 [.int .i64 af, .int .i64 sz, .int .i64 u1]) P B ⟨f, 0, rn, lv, cr, ac, e, i, r, d, l⟩ g n k := ⟨hkA.q.other (Ne.symm hQP) _ _, hkA.o.keep hkA.l (setCells_other _ _ hgQ _ _ _), hkA.l, setCells_below (by omega) _ _ hkA.b, fun q h1 h2 => (setCells_other _ _ (by have := World.ownsRow.lt hkA.o g rfl; have := hBQ; omega) _ _ _).trans (hkA.r q h1 h2)⟩
        have hsF : aS w P ⟨f, 0, rn, lv, cr, ac, e, i, r, d, l⟩ (some ⟨g, 0, none⟩) n k (World.setCells (wb.alloc (.cells #[.int .i64 0, .int .i64 0, .int .i64 0] 97)) wb.heap.size 0 [.int .i64 af, .int .i64 sz, .int .i64 u1]) := ⟨hkF.q, HT.out _ hkF.b, Nat.lt_of_lt_of_le HZ.out hkF.b.size, hkF.b⟩
        have HF : Hid (blk (World.setCells (wb.alloc (.cells #[.int .i64 0, .int .i64 0, .int .i64 0] 97)) wb.heap.size 0 [.int .i64 af, .int .i64 sz, .int .i64 u1]) wb.heap.size [.int .i64 af, .int .i64 sz, .int .i64 u1] 97 ∧ kP w (World.setCells (wb.alloc (.cells #[.int .i64 0, .int .i64 0, .int .i64 0] 97)) wb.heap.size 0 [.int .i64 af, .int .i64 sz, .int .i64 u1]) P B ⟨f, 0, rn, lv, cr, ac, e, i, r, d, l⟩ g n k) := ⟨hqF, hkF⟩
        refine hK.out _ _ hsF (fun hs2 => ?_)
        clear hK K hs2
        clear hsF hqF hkF
        generalize World.setCells (wb.alloc (.cells #[.int .i64 0, .int .i64 0, .int .i64 0] 97)) wb.heap.size 0 [.int .i64 af, .int .i64 sz, .int .i64 u1] = wF at *
        refine wpAnyH_done (by kernel_rfl) ?_ _
        go_wp2_with fail
        go_meet
        exact ⟨wb.heap.size, u1, rfl, HF.out.1, HF.out.2, hQP⟩
      · go_simp
        have hbA : Below wa.heap.size wa (wa.alloc (.cells #[.int .i64 0, .int .i64 0, .int .i64 0] 97)) := (Below.refl _ _).alloc (Nat.le_refl _) _
        have hkA := hkwa.below hbA
        have hsA := hswa.below hbA
        have hqA : blk (wa.alloc (.cells #[.int .i64 0, .int .i64 0, .int .i64 0] 97)) wa.heap.size ([] ++ [.int .i64 0, .int .i64 0, .int .i64 0] ++ []) 97 := blk.new wa _ 97
        have hpl := hkwa.q.lt
        have hQP : wa.heap.size ≠ P := by omega
        have HGQ : g ≠ wa.heap.size := by have := (World.ownsRow.lt hkwa.o g rfl).2; omega
        have hBQ : B ≤ wa.heap.size := by have := World.ownsRow.lt hkwa.o g rfl; omega
        refine hK.out _ _ hsA (fun hs2 => ?_)
        clear hK K hs2
        refine wpAnyH_all (rs := [14]) (by kernel_rfl) (by simp) ?_
        refine AllReadyH.cons rfl (fun K hK => ?_) AllReadyH.nil
        go_simp
        refine (HR2.out _ hsA.t hsA.z).mono ?_
        rintro o wb ⟨u1, rfl, hbwb⟩
        have hkwb := hkA.below hbwb
        have hswb := hsA.below hbwb
        go_wp2_with fail
        have hqB := hqA.below hbwb
        refine hK.out _ _ hswb (fun hs2 => ?_)
        clear hK K hs2
        refine wpAnyH_all (rs := [16]) (by kernel_rfl) (by simp) ?_
        refine AllReadyH.cons rfl (fun K hK => ?_) AllReadyH.nil
        rw [if_pos (by rfl)]
        refine wp_store_mid (P := Tryd.prog) 97 (.tmp 2) (.tmp 29) rfl wa.heap.size 0 #[.int .i64 af, .int .i64 sz, .int .i64 u1] rfl rfl (hqB.there 0 3 (by simp)) sz97 (one3 _ _ _) ?_
        have hqF : blk (World.setCells wb wa.heap.size 0 [.int .i64 af, .int .i64 sz, .int .i64 u1]) wa.heap.size [.int .i64 af, .int .i64 sz, .int .i64 u1] 97 := blk.put [] [.int .i64 0, .int .i64 0, .int .i64 0] [] _ hqB rfl
        have hgQ : g ≠ wa.heap.size := HGQ
        have hkF : kP w (World.setCells wb wa.heap.size 0 [.int .i64 af, .int .i64 sz, .int .i64 u1]) P B ⟨f, 0, rn, lv, cr, ac, e, i, r, d, l⟩ g n k := ⟨hkwb.q.other (Ne.symm hQP) _ _, hkwb.o.keep hkwb.l (setCells_other _ _ hgQ _ _ _), hkwb.l, setCells_below (by omega) _ _ hkwb.b, fun q h1 h2 => (setCells_other _ _ (by have := World.ownsRow.lt hkwb.o g rfl; have := hBQ; omega) _ _ _).trans (hkwb.r q h1 h2)⟩
        have hsF : aS w P ⟨f, 0, rn, lv, cr, ac, e, i, r, d, l⟩ (some ⟨g, 0, none⟩) n k (World.setCells wb wa.heap.size 0 [.int .i64 af, .int .i64 sz, .int .i64 u1]) := ⟨hkF.q, HT.out _ hkF.b, Nat.lt_of_lt_of_le HZ.out hkF.b.size, hkF.b⟩
        have HF : Hid (blk (World.setCells wb wa.heap.size 0 [.int .i64 af, .int .i64 sz, .int .i64 u1]) wa.heap.size [.int .i64 af, .int .i64 sz, .int .i64 u1] 97 ∧ kP w (World.setCells wb wa.heap.size 0 [.int .i64 af, .int .i64 sz, .int .i64 u1]) P B ⟨f, 0, rn, lv, cr, ac, e, i, r, d, l⟩ g n k) := ⟨hqF, hkF⟩
        refine hK.out _ _ hsF (fun hs2 => ?_)
        clear hK K hs2
        clear hsF hqF hkF
        generalize World.setCells wb wa.heap.size 0 [.int .i64 af, .int .i64 sz, .int .i64 u1] = wF at *
        refine wpAnyH_done (by kernel_rfl) ?_ _
        go_wp2_with fail
        go_meet
        exact ⟨wa.heap.size, u1, rfl, HF.out.1, HF.out.2, hQP⟩
    · go_simp
      have hbA : Below wd.heap.size wd (wd.alloc (.cells #[.int .i64 0, .int .i64 0, .int .i64 0] 97)) := (Below.refl _ _).alloc (Nat.le_refl _) _
      have hkA := hk.below hbA
      have hsA := hs.below hbA
      have hqA : blk (wd.alloc (.cells #[.int .i64 0, .int .i64 0, .int .i64 0] 97)) wd.heap.size ([] ++ [.int .i64 0, .int .i64 0, .int .i64 0] ++ []) 97 := blk.new wd _ 97
      have hpl := hk.q.lt
      have hQP : wd.heap.size ≠ P := by omega
      have HGQ : g ≠ wd.heap.size := by have := (World.ownsRow.lt hk.o g rfl).2; omega
      have hBQ : B ≤ wd.heap.size := by have := World.ownsRow.lt hk.o g rfl; omega
      refine hK.out _ _ hsA (fun hs2 => ?_)
      clear hK K hs2
      refine wpAnyH_all (rs := [8]) (by kernel_rfl) (by simp) ?_
      refine AllReadyH.cons rfl (fun K hK => ?_) AllReadyH.nil
      go_simp
      refine (HR1.out _ hsA.t hsA.z).mono ?_
      rintro o wa ⟨y1, rfl, hbwa⟩
      have hkwa := hkA.below hbwa
      have hswa := hsA.below hbwa
      go_wp2_with fail
      have hqa := hqA.below hbwa
      refine hK.out _ _ hswa (fun hs2 => ?_)
      clear hK K hs2
      have hs := hswa
      have hfld : ∀ W : World, (Instr.field 97 (.agg #[.int .i64 f, .int .i64 y1, .int .i64 af]) 2).run Tryd.prog W = .ok (.int .i64 af) W := fun W => by kernel_rfl
      refine wpAnyH_take (i := 9) (v := .int .i64 af) rfl (by kernel_rfl) (by kernel_rfl) (by kernel_rfl) (fun _ _ _ h => h) (Or.inl ⟨by rfl, ?_⟩) hs ?_
      · intro W hW
        clear hs
        have hfl := hfld W
        go_simp
      simp only [Act.put, List.setIfInBounds_toArray, List.set_cons_zero, List.set_cons_succ, List.getElem_toArray, List.getElem_cons_zero, List.getElem_cons_succ]
      refine wpAnyH_all (rs := [14]) (by kernel_rfl) (by simp) ?_
      refine AllReadyH.cons rfl (fun K hK => ?_) AllReadyH.nil
      go_simp
      refine (HR2.out _ hswa.t hswa.z).mono ?_
      rintro o wb ⟨u1, rfl, hbwb⟩
      have hkwb := hkwa.below hbwb
      have hswb := hswa.below hbwb
      go_wp2_with fail
      have hqB := hqa.below hbwb
      refine hK.out _ _ hswb (fun hs2 => ?_)
      clear hK K hs2
      refine wpAnyH_all (rs := [16]) (by kernel_rfl) (by simp) ?_
      refine AllReadyH.cons rfl (fun K hK => ?_) AllReadyH.nil
      rw [if_pos (by rfl)]
      refine wp_store_mid (P := Tryd.prog) 97 (.tmp 2) (.tmp 29) rfl wd.heap.size 0 #[.int .i64 af, .int .i64 sz, .int .i64 u1] rfl rfl (hqB.there 0 3 (by simp)) sz97 (one3 _ _ _) ?_
      have hqF : blk (World.setCells wb wd.heap.size 0 [.int .i64 af, .int .i64 sz, .int .i64 u1]) wd.heap.size [.int .i64 af, .int .i64 sz, .int .i64 u1] 97 := blk.put [] [.int .i64 0, .int .i64 0, .int .i64 0] [] _ hqB rfl
      have hgQ : g ≠ wd.heap.size := HGQ
      have hkF : kP w (World.setCells wb wd.heap.size 0 [.int .i64 af, .int .i64 sz, .int .i64 u1]) P B ⟨f, 0, rn, lv, cr, ac, e, i, r, d, l⟩ g n k := ⟨hkwb.q.other (Ne.symm hQP) _ _, hkwb.o.keep hkwb.l (setCells_other _ _ hgQ _ _ _), hkwb.l, setCells_below (by omega) _ _ hkwb.b, fun q h1 h2 => (setCells_other _ _ (by have := World.ownsRow.lt hkwb.o g rfl; have := hBQ; omega) _ _ _).trans (hkwb.r q h1 h2)⟩
      have hsF : aS w P ⟨f, 0, rn, lv, cr, ac, e, i, r, d, l⟩ (some ⟨g, 0, none⟩) n k (World.setCells wb wd.heap.size 0 [.int .i64 af, .int .i64 sz, .int .i64 u1]) := ⟨hkF.q, HT.out _ hkF.b, Nat.lt_of_lt_of_le HZ.out hkF.b.size, hkF.b⟩
      have HF : Hid (blk (World.setCells wb wd.heap.size 0 [.int .i64 af, .int .i64 sz, .int .i64 u1]) wd.heap.size [.int .i64 af, .int .i64 sz, .int .i64 u1] 97 ∧ kP w (World.setCells wb wd.heap.size 0 [.int .i64 af, .int .i64 sz, .int .i64 u1]) P B ⟨f, 0, rn, lv, cr, ac, e, i, r, d, l⟩ g n k) := ⟨hqF, hkF⟩
      refine hK.out _ _ hsF (fun hs2 => ?_)
      clear hK K hs2
      clear hsF hqF hkF
      generalize World.setCells wb wd.heap.size 0 [.int .i64 af, .int .i64 sz, .int .i64 u1] = wF at *
      refine wpAnyH_done (by kernel_rfl) ?_ _
      go_wp2_with fail
      go_meet
      exact ⟨wd.heap.size, u1, rfl, HF.out.1, HF.out.2, hQP⟩
  case rest =>
    obtain ⟨Q, u, rfl, hq, hk, hQP⟩ := hcut
    have HQ : Hid (blk wc Q [.int .i64 af, .int .i64 sz, .int .i64 u] 97 ∧ kP w wc P B ⟨f, 0, rn, lv, cr, ac, e, i, r, d, l⟩ g n k) := ⟨hq, hk⟩
    clear hq hk
    go_wp2_with fail
    refine wp_region_held (S := fun W => blk W Q [.int .i64 af, .int .i64 sz, .int .i64 u] 97) (by kernel_rfl) ?_
    obtain ⟨wd, hwd⟩ : ∃ wd, wd = wc.drew := ⟨_, rfl⟩
    change wpAnyH _ _ _ _ _ _ _ _ wc.drew
    rw [← hwd]
    have hwb : Below wc.heap.size wc wd := hwd ▸ (Below.refl _ _).drew
    have hs := HQ.out.1.below hwb
    have hk := HQ.out.2.below hwb
    clear hwd hwb HQ
    refine wpAnyH_take (i := 0) (v := .pointer (some ⟨P, 0, none⟩)) rfl (by kernel_rfl) (by kernel_rfl) (by kernel_rfl) (fun _ _ _ h => h) (Or.inl ⟨by rfl, ?_⟩) hs ?_
    · intro W hW
      clear hs
      go_simp
    simp only [Act.put, List.setIfInBounds_toArray, List.set_cons_zero, List.set_cons_succ, List.getElem_toArray, List.getElem_cons_zero]
    refine wpAnyH_take (i := 1) (v := .pointer (some ⟨P, 0, none⟩)) rfl (by kernel_rfl) (by kernel_rfl) (by kernel_rfl) (fun _ _ _ h => h) (Or.inl ⟨by rfl, ?_⟩) hs ?_
    · intro W hW
      clear hs
      go_simp
    simp only [Act.put, List.setIfInBounds_toArray, List.set_cons_zero, List.set_cons_succ, List.getElem_toArray, List.getElem_cons_zero, List.getElem_cons_succ]
    refine wpAnyH_take (i := 2) (v := .pointer (some ⟨Q, 0, none⟩)) rfl (by kernel_rfl) (by kernel_rfl) (by kernel_rfl) (fun _ _ _ h => h) (Or.inl ⟨by rfl, ?_⟩) hs ?_
    · intro W hW
      clear hs
      go_simp
    simp only [Act.put, List.setIfInBounds_toArray, List.set_cons_zero, List.set_cons_succ, List.getElem_toArray, List.getElem_cons_zero, List.getElem_cons_succ]
    refine wpAnyH_take (i := 3) (v := .int .i64 af) rfl (by kernel_rfl) (by kernel_rfl) (by kernel_rfl) (fun _ _ _ h => h) (Or.inl ⟨by rfl, ?_⟩) hs ?_
    · intro W hW
      clear hs
      have z0 := blk.cell hW 0 _ rfl
      have z1 := blk.cell hW 1 _ rfl
      go_simp
    simp only [Act.put, List.setIfInBounds_toArray, List.set_cons_zero, List.set_cons_succ, List.getElem_toArray, List.getElem_cons_zero, List.getElem_cons_succ]
    refine wpAnyH_take (i := 4) (v := .pointer (some ⟨Q, 1, none⟩)) rfl (by kernel_rfl) (by kernel_rfl) (by kernel_rfl) (fun _ _ _ h => h) (Or.inl ⟨by rfl, ?_⟩) hs ?_
    · intro W hW
      clear hs
      go_simp
    simp only [Act.put, List.setIfInBounds_toArray, List.set_cons_zero, List.set_cons_succ, List.getElem_toArray, List.getElem_cons_zero, List.getElem_cons_succ]
    refine wpAnyH_take (i := 5) (v := .int .i64 sz) rfl (by kernel_rfl) (by kernel_rfl) (by kernel_rfl) (fun _ _ _ h => h) (Or.inl ⟨by rfl, ?_⟩) hs ?_
    · intro W hW
      clear hs
      have z0 := blk.cell hW 0 _ rfl
      have z1 := blk.cell hW 1 _ rfl
      go_simp
    simp only [Act.put, List.setIfInBounds_toArray, List.set_cons_zero, List.set_cons_succ, List.getElem_toArray, List.getElem_cons_zero, List.getElem_cons_succ]
    refine wpAnyH_take (i := 6) (v := .pointer (some ⟨P, 0, none⟩)) rfl (by kernel_rfl) (by kernel_rfl) (by kernel_rfl) (fun _ _ _ h => h) (Or.inl ⟨by rfl, ?_⟩) hs ?_
    · intro W hW
      clear hs
      go_simp
    simp only [Act.put, List.setIfInBounds_toArray, List.set_cons_zero, List.set_cons_succ, List.getElem_toArray, List.getElem_cons_zero, List.getElem_cons_succ]
    refine wpAnyH_take (i := 7) (v := .pointer (some ⟨P, 0, none⟩)) rfl (by kernel_rfl) (by kernel_rfl) (by kernel_rfl) (fun _ _ _ h => h) (Or.inl ⟨by rfl, ?_⟩) hs ?_
    · intro W hW
      clear hs
      go_simp
    simp only [Act.put, List.setIfInBounds_toArray, List.set_cons_zero, List.set_cons_succ, List.getElem_toArray, List.getElem_cons_zero, List.getElem_cons_succ]
    refine wpAnyH_all (rs := [8]) (by kernel_rfl) (by simp) ?_
    refine AllReadyH.cons rfl (fun K hK => ?_) AllReadyH.nil
    have x0 := hk.q.cell 0 _ rfl
    have g0 := hk.q.free 0
    go_simp
    have hk1 := hk.put (T' := ⟨af, 0, rn, lv, cr, ac, e, i, r, d, l⟩) HG.out 0 (.int .i64 af) rfl rfl
    have hs1 : blk (wd.setCell ⟨P, 0, none⟩ (.int .i64 af)) Q [.int .i64 af, .int .i64 sz, .int .i64 u] 97 := hs.setOther hQP _ _
    refine hK.out _ _ hs1 (fun hs2 => ?_)
    clear hK K hs2
    clear x0 g0 hs hk
    generalize wd.setCell ⟨P, 0, none⟩ (.int .i64 af) = we at *
    have hs := hs1
    refine wpAnyH_take (i := 9) (v := .pointer (some ⟨P, 0, none⟩)) rfl (by kernel_rfl) (by kernel_rfl) (by kernel_rfl) (fun _ _ _ h => h) (Or.inl ⟨by rfl, ?_⟩) hs ?_
    · intro W hW
      clear hs
      go_simp
    simp only [Act.put, List.setIfInBounds_toArray, List.set_cons_zero, List.set_cons_succ, List.getElem_toArray, List.getElem_cons_zero, List.getElem_cons_succ]
    refine wpAnyH_take (i := 10) (v := .pointer (some ⟨P, 1, none⟩)) rfl (by kernel_rfl) (by kernel_rfl) (by kernel_rfl) (fun _ _ _ h => h) (Or.inl ⟨by rfl, ?_⟩) hs ?_
    · intro W hW
      clear hs
      go_simp
    simp only [Act.put, List.setIfInBounds_toArray, List.set_cons_zero, List.set_cons_succ, List.getElem_toArray, List.getElem_cons_zero, List.getElem_cons_succ]
    refine wpAnyH_all (rs := [11]) (by kernel_rfl) (by simp) ?_
    refine AllReadyH.cons rfl (fun K hK => ?_) AllReadyH.nil
    have x1 := hk1.q.cell 1 _ rfl
    have g1 := hk1.q.free 1
    go_simp
    have hk2 := hk1.put (T' := ⟨af, sz, rn, lv, cr, ac, e, i, r, d, l⟩) HG.out 1 (.int .i64 sz) rfl rfl
    have hs2 : blk (we.setCell ⟨P, 1, none⟩ (.int .i64 sz)) Q [.int .i64 af, .int .i64 sz, .int .i64 u] 97 := hs.setOther hQP _ _
    refine hK.out _ _ hs2 (fun hs3 => ?_)
    clear hK K hs3 hs2 hs hs1 x1 g1 hk1
    refine wpAnyH_done (by kernel_rfl) ?_ _
    generalize we.setCell ⟨P, 1, none⟩ (.int .i64 sz) = wf at *
    have HK2 : Hid (kP w wf P B ⟨af, sz, rn, lv, cr, ac, e, i, r, d, l⟩ g n k) := hk2
    have x0 := hk2.q.cell 0 _ rfl
    have x10 := hk2.q.cell 10 _ rfl
    have g10 := hk2.q.free 10
    clear hk2
    by_cases h9 : af = 9
    · have q9 : (af == 9) = true := by simpa using h9
      have H9 : Hid (af = 9) := h9
      clear h9
      go_wp2_with fail
      go_end0
      refine ⟨⟨_, rfl⟩, ?_⟩
      have e9 := H9.out
      subst e9
      exact ⟨HK2.out.q.set 10 (.slice none 0 0), HK2.out.b.setCell (by exact Nat.le_refl _) _, fun q h1 h2 => (heap_setCell_other _ _ _ _ (by exact h1)).trans (HK2.out.r q h1 h2)⟩
    · have q9 : (af == 9) = false := by simpa using h9
      have H9 : Hid (¬ af = 9) := h9
      clear h9
      go_wp2_with fail
      go_end0
      refine ⟨⟨_, rfl⟩, ?_⟩
      exact HK2.out
end Go.Proofs.YtjmlalojfghkiaaDoor
