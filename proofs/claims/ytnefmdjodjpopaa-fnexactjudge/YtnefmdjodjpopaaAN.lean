import Derived.Test.YtnefmdjodjpopaaAM
namespace Go.Proofs.Ytnefmdjodjpopaa
open Go.RowKit

/-- one bit more of the data -/
def keepD (data : List Nat) (taken bit : Nat) : List Nat :=
  if taken % 8 = 0 then data ++ [bit] else data.set (data.length - 1) (2 * data.getD (data.length - 1) 0 % 256 + bit)
theorem shl_or (x bit : Nat) (hb : bit < 2) : bits BinOp.or IntKind.u8 ((x : Int) * 2 % 256) (bit : Int) = ((2 * x % 256 + bit : Nat) : Int) := by
  have e : (x : Int) * 2 % 256 = ((2 * x % 256 : Nat) : Int) := by omega
  rw [e, u8_or_nat _ _ (by omega) (by omega), nat_join 1 _ _ (by omega) (by omega)]
theorem wk_setV {w : World} {b : Nat} {k : Wk} {v v' : Value} (h : wkAt w b k v) : wkAt (w.setCell ⟨b, 10, none⟩ v') b k v' := by
  unfold wkAt
  rw [heap_setCell_same w b 10 _ _ v' h]
  simp
theorem ownsB.stored {w : World} {B g cap : Nat} {l : List Nat} (h : ownsB w B (.slice (some ⟨g, 0, none⟩) l.length cap) l) (j x : Nat) : ownsB (w.setCell ⟨g, j, none⟩ (.int .u8 (x : Int))) B (.slice (some ⟨g, 0, none⟩) l.length cap) (l.set j x) := by
  have := (World.ownsRow.stored h j (.int .u8 (x : Int))).1
  unfold ownsB
  have e : bv (l.set j x) = (bv l).set j (.int .u8 (x : Int)) := by simp [bv, List.map_set]
  rw [e, List.length_set]
  exact this
theorem oth_some {b : Nat} {w w1 : World} (h : Lib.OthersKept 5 none w w1) : Lib.OthersKept 5 (some b) w w1 := fun k o hk _ ho => h k o hk (by simp) ho
theorem kept.row {B b g : Nat} {w w1 : World} (h : kept B b w w1) (hB : B ≤ g) (hg : ∃ c fz, w1.heap[g]? = some (.cells c 5 fz)) (j : Nat) (x : Value) : kept B b w (w1.setCell ⟨g, j, none⟩ x) := by
  refine ⟨h.bel.setCell (by exact hB) x, fun i o hi hb ho => ?_⟩
  have h1 := h.oth i o hi hb ho
  rw [heap_setCell_other w1 ⟨g, j, none⟩ i x (fun e => ?_)]
  · exact h1
  · obtain ⟨c, fz, hc⟩ := hg
    have e' : i = g := e
    rw [e', hc] at h1
    exact ho c fz (Option.some.inj h1).symm
theorem or_zero (bit : Nat) (hb : bit < 2) : bits BinOp.or IntKind.u8 0 (bit : Int) = ((bit : Nat) : Int) := by
  have := shl_or 0 bit hb
  simpa using this
/-- the end of keepData: the slice stored into the walk's block, then one letter of the row turned -/
theorem keepData_end {w w1 : World} {B b g cap m : Nat} {k : Wk} {v : Value} {l : List Nat} {x : Nat} {X : Int} (hX : X = (x : Int)) (hw : wkAt w1 b k v) (ho : ownsB w1 B (.slice (some ⟨g, 0, none⟩) l.length cap) l) (hk : kept B b w w1) (hB : B ≤ b) (hgB : B ≤ g) (hgb : ¬ b = g) (l' : List Nat) (hl' : l.set m x = l') :
    wkI B b { k with data := l' } ((w1.setCell ⟨b, 10, none⟩ (.slice (some ⟨g, 0, none⟩) l.length cap)).setCell ⟨g, m, none⟩ (.int .u8 X)).drew ∧ kept B b w ((w1.setCell ⟨b, 10, none⟩ (.slice (some ⟨g, 0, none⟩) l.length cap)).setCell ⟨g, m, none⟩ (.int .u8 X)).drew := by
  subst hX hl'
  have h1 := wk_setV (v' := .slice (some ⟨g, 0, none⟩) l.length cap) hw
  have h2 := ho.setB hw 10 (.slice (some ⟨g, 0, none⟩) l.length cap)
  have h3 := h2.stored m x
  have hk1 := hk.set hB 10 (.slice (some ⟨g, 0, none⟩) l.length cap)
  have hk2 := hk1.row hgB (h2.kind g rfl) m (.int .u8 (x : Int))
  refine ⟨⟨⟨.slice (some ⟨g, 0, none⟩) l.length cap, ?_, ?_⟩, hB⟩, ⟨hk2.bel.drew, hk2.oth⟩⟩
  · exact (heap_setCell_other (w1.setCell ⟨b, 10, none⟩ (.slice (some ⟨g, 0, none⟩) l.length cap)) ⟨g, m, none⟩ b (.int .u8 (x : Int)) hgb).trans h1
  · exact World.ownsRow.drew h3
/-- the same, no slice stored -/
theorem keepData_end2 {w w1 : World} {B b g cap m : Nat} {k : Wk} {l : List Nat} {x : Nat} {X : Int} (hX : X = (x : Int)) (hw : wkAt w1 b k (.slice (some ⟨g, 0, none⟩) l.length cap)) (ho : ownsB w1 B (.slice (some ⟨g, 0, none⟩) l.length cap) l) (hk : kept B b w w1) (hB : B ≤ b) (hgB : B ≤ g) (hgb : ¬ b = g) (l' : List Nat) (hl' : l.set m x = l') :
    wkI B b { k with data := l' } (w1.setCell ⟨g, m, none⟩ (.int .u8 X)).drew ∧ kept B b w (w1.setCell ⟨g, m, none⟩ (.int .u8 X)).drew := by
  subst hX hl'
  have h3 := ho.stored m x
  have hk2 := hk.row hgB (ho.kind g rfl) m (.int .u8 (x : Int))
  refine ⟨⟨⟨.slice (some ⟨g, 0, none⟩) l.length cap, ?_, ?_⟩, hB⟩, ⟨hk2.bel.drew, hk2.oth⟩⟩
  · exact (heap_setCell_other w1 ⟨g, m, none⟩ b (.int .u8 (x : Int)) hgb).trans hw
  · exact World.ownsRow.drew h3
set_option maxHeartbeats 2000000 in
theorem keepData_wk (w : World) (B b : Nat) (k : Wk) (bit : Nat) (h : wkI B b k w) (hbit : bit < 2) (hl : k.data.length ≤ 1000) (hne : ¬ k.taken % 8 = 0 → k.data ≠ []) (hsm : ∀ x ∈ k.data, x < 256) (ht : k.taken ≤ 1000000) :
    Calls Try.prog 100 #[.pointer (some ⟨b, 0, none⟩), .int .u8 (bit : Int)] w fun e w' => e = .returned (.tuple #[]) ∧ wkI B b { k with data := keepD k.data k.taken bit } w' ∧ kept B b w w' := by
  obtain ⟨⟨v, hw, ho⟩, hB⟩ := h
  have hbz : b < w.heap.size := lt_of_block hw
  obtain ⟨-, c1, -, -, -, -, -, -, -, -, c10, -⟩ := hw.cells
  have f10 := hw.free 10
  by_cases h8 : k.taken % 8 = 0
  · have h8' : (((k.taken : Int) % 8) == 0) = true := by simp; omega
    have HW : Hid (wkAt w b k v) := hw
    clear hw
    go_enter Try.func100, Try.ntmps100
    go_wp2_with (first | (at_builtin; refine app_byte2 w w rfl (.tmp 17) (.tmp 18) rfl B _ k.data 0 _ rfl rfl ho rfl (by omega) (by omega) (Below.refl _ _) ?_))
    intro v1 w1 ho1 hb1 hk1
    have hw1 : wkAt w1 b k v := hk1 b _ HW.out (by simp) (by intro c fz e; cases e)
    have f10' := hw1.free 10
    have c10' := hw1.cells.2.2.2.2.2.2.2.2.2.2.1
    obtain ⟨g, cap, rfl, hgB, hgz, hcap, hcm, hrow⟩ := ho1.open (by simp)
    have hrc := hrow.cell k.data.length (by simp)
    have hrf := hrow.free k.data.length (by simp)
    have hg0 : (k.data ++ [0]).getD k.data.length 0 = 0 := getD_snoc_eq _ _ _ rfl
    simp only [hg0] at hrc
    have hgb : ¬ b = g := by
      intro e
      obtain ⟨c, fz, hc⟩ := ho1.kind g rfl
      rw [← e, hw1] at hc
      cases hc
    have HO : Hid (ownsB w1 B (.slice (some ⟨g, 0, none⟩) (k.data ++ [0]).length cap) (k.data ++ [0])) := ho1
    have HB1 : Hid (Below B w w1 ∧ Lib.OthersKept 5 none w w1) := ⟨hb1, hk1⟩
    have HW1 : Hid (wkAt w1 b k v) := hw1
    clear hrow hw1 ho1 hb1 hk1 c1 c10 f10 ho HW hg0 hne hsm
    go_wp2
    go_region
    go_wp2
    go_end0
    have hd : (k.data ++ [0]).set k.data.length bit = keepD k.data k.taken bit := by unfold keepD; rw [if_pos h8]; simp
    have hfin := keepData_end (m := k.data.length) (w := w) (or_zero bit hbit) HW1.out HO.out ⟨HB1.out.1, oth_some HB1.out.2⟩ hB hgB hgb _ hd
    have hln : (k.data ++ [0]).length = k.data.length + 1 := by simp
    rw [hln] at hfin
    exact ⟨rfl, hfin.1, hfin.2⟩
  · have h8' : (((k.taken : Int) % 8) == 0) = false := by simp; omega
    have hne' := hne h8
    obtain ⟨g, cap, rfl, hgB, hgz, hcap, hcm, hrow⟩ := ho.open hne'
    obtain ⟨m, hm⟩ : ∃ m, k.data.length = m + 1 := ⟨k.data.length - 1, by have := List.length_pos_iff.2 hne'; omega⟩
    have hrc := hrow.cell m (by omega)
    have hrf := hrow.free m (by omega)
    have hx256 : k.data.getD m 0 < 256 := by rw [getD_at k.data m (by omega)]; exact hsm _ (List.getElem_mem _)
    have hgb : ¬ b = g := by
      intro e
      obtain ⟨c, fz, hc⟩ := ho.kind g rfl
      rw [← e, hw] at hc
      cases hc
    have hd : k.data.set m (2 * k.data.getD m 0 % 256 + bit) = keepD k.data k.taken bit := by unfold keepD; rw [if_neg h8, hm]; rfl
    have hfin := fun (X : Int) hX => keepData_end2 (w := w) (X := X) (m := m) hX hw ho (kept.refl B b w) hB hgB hgb _ hd
    have HF : Hid (∀ (X : Int), X = ((2 * k.data.getD m 0 % 256 + bit : Nat) : Int) → wkI B b { k with data := keepD k.data k.taken bit } (w.setCell ⟨g, m, none⟩ (.int .u8 X)).drew ∧ kept B b w (w.setCell ⟨g, m, none⟩ (.int .u8 X)).drew) := hfin
    have HSL : Hid (k.data.length = m + 1) := hm
    clear hfin hd hrow ho hw hne hsm hne'
    rw [HSL.out] at c10 hl hcap
    clear HSL hm
    generalize k.data.getD m 0 = x at *
    go_enter Try.func100, Try.ntmps100
    go_wp2
    go_region
    go_wp2
    go_end0
    exact ⟨rfl, (HF.out _ (shl_or x bit hbit)).1, (HF.out _ (shl_or x bit hbit)).2⟩
end Go.Proofs.Ytnefmdjodjpopaa
