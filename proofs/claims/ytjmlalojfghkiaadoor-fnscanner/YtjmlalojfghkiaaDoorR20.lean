import Derived.Test.YtjmlalojfghkiaaDoorR19
namespace Go.Proofs.YtjmlalojfghkiaaDoor.J
open Go.RowKit
/-- the walk in block b, its letters in rows of its own from block B on -/
structure wkI (B b : Nat) (k : Wk) (w : World) : Prop where
  ex : ∃ v, wkAt w b k v ∧ ownsB w B v k.data
  le : B ≤ b
/-- what a method of the walk leaves: all below B, and every block that is neither b nor a row of letters -/
structure kept (B b : Nat) (w w' : World) : Prop where
  bel : Below B w w'
  oth : Lib.OthersKept 5 (some b) w w'
theorem kept.refl (B b : Nat) (w : World) : kept B b w w := ⟨Below.refl _ _, Lib.OthersKept.refl _ _ _⟩
theorem kept.trans {B b : Nat} {w w1 w2 : World} (h : kept B b w w1) (k : kept B b w1 w2) : kept B b w w2 := ⟨h.bel.trans k.bel, h.oth.trans k.oth⟩
theorem kept.set {B b : Nat} {w w1 : World} (h : kept B b w w1) (hB : B ≤ b) (j : Nat) (x : Value) : kept B b w (w1.setCell ⟨b, j, none⟩ x) :=
  ⟨h.bel.setCell (by exact hB) x, h.oth.setCell ⟨b, j, none⟩ rfl x⟩
theorem kept.drewN {B b : Nat} {w w1 : World} (h : kept B b w w1) (q : Nat) : kept B b w (w1.drewN q) := ⟨below_drewN h.bel q, h.oth⟩
theorem kept.alloc {B b : Nat} {w w1 : World} (h : kept B b w w1) (hB : B ≤ w1.heap.size) (o : Obj) : kept B b w (w1.alloc o) := ⟨h.bel.alloc hB o, h.oth.alloc o⟩
theorem ownsB.setB {w : World} {B b : Nat} {v : Value} {l : List Nat} {cs : Array Value} (h : ownsB w B v l) (hb : w.heap[b]? = some (.cells cs 67 (0, 0))) (j : Nat) (x : Value) : ownsB (w.setCell ⟨b, j, none⟩ x) B v l :=
  h.otherBlock (fun g hg => heap_setCell_other w ⟨b, j, none⟩ g x (fun e => by
    obtain ⟨c, fz, hc⟩ := h.kind g hg
    have e' : g = b := e
    rw [e', hb] at hc
    cases hc))
/-- a store into the walk's own block -/
theorem wk_set {w : World} {B b : Nat} {k k' : Wk} {v : Value} (h : wkAt w b k v) (ho : ownsB w B v k.data) (hB : B ≤ b) (j : Nat) (x : Value) (hd : k'.data = k.data)
    (hc : (#[.int .i64 (k.field : Int), .int .i64 (k.taken : Int), .int .i32 (k.last.1 : Int), .int .i64 (k.last.2 : Int), .int .i64 (k.sum : Int), .int .i64 (k.crc : Int), .bool k.ext, .int .u32 (k.id : Int), .bool k.rtr, .int .i64 (k.dlc : Int), v, .int .i64 (k.code : Int)] : Array Value).setIfInBounds j x = #[.int .i64 (k'.field : Int), .int .i64 (k'.taken : Int), .int .i32 (k'.last.1 : Int), .int .i64 (k'.last.2 : Int), .int .i64 (k'.sum : Int), .int .i64 (k'.crc : Int), .bool k'.ext, .int .u32 (k'.id : Int), .bool k'.rtr, .int .i64 (k'.dlc : Int), v, .int .i64 (k'.code : Int)]) :
    wkAt (w.setCell ⟨b, j, none⟩ x) b k' v ∧ ownsB (w.setCell ⟨b, j, none⟩ x) B v k'.data ∧ kept B b w (w.setCell ⟨b, j, none⟩ x) := by
  refine ⟨?_, by rw [hd]; exact ho.setB h j x, (kept.refl B b w).set hB j x⟩
  unfold wkAt
  rw [heap_setCell_same w b j _ _ x h, hc]
theorem hear_wk (w : World) (B b : Nat) (k : Wk) (c : Nat) (h : wkI B b k w) (hr : k.last.2 ≤ 100000) :
    Calls Tryd.prog 84 #[.pointer (some ⟨b, 2, none⟩), .int .i32 (c : Int)] w fun e w' => e = .returned (.tuple #[]) ∧ wkI B b { k with last := M.hear k.last c } w' ∧ kept B b w w' := by
  obtain ⟨⟨v, hw, ho⟩, hB⟩ := h
  obtain ⟨-, -, c2, c3, -⟩ := hw.cells
  have f2 := hw.free 2
  have f3 := hw.free 3
  have HW : Hid (wkAt w b k v ∧ ownsB w B v k.data) := ⟨hw, ho⟩
  clear hw ho
  by_cases hc : c = k.last.1
  · have hb : ((c : Int) != (k.last.1 : Int)) = false := by simp; omega
    go_enter Tryd.func84, Tryd.ntmps84
    go_wp2
    go_end0
    have h1 := wk_set (k' := { k with last := M.hear k.last c }) HW.out.1 HW.out.2 hB 3 (.int .i64 ((k.last.2 : Int) + 1)) rfl (by simp [M.hear, hc])
    exact ⟨rfl, ⟨⟨v, h1.1, h1.2.1⟩, hB⟩, h1.2.2⟩
  · have hb : ((c : Int) != (k.last.1 : Int)) = true := by simp; omega
    go_enter Tryd.func84, Tryd.ntmps84
    go_wp2
    go_end0
    have h1 := wk_set (k' := { k with last := (c, k.last.2) }) HW.out.1 HW.out.2 hB 2 (.int .i32 (c : Int)) rfl (by simp)
    have h2 := wk_set (k' := { k with last := (c, 0) }) h1.1 h1.2.1 hB 3 (.int .i64 0) rfl (by simp)
    have h3 := wk_set (k' := { k with last := M.hear k.last c }) h2.1 h2.2.1 hB 3 (.int .i64 1) rfl (by simp [M.hear, hc])
    exact ⟨rfl, ⟨⟨v, h3.1, h3.2.1⟩, hB⟩, (h1.2.2.trans h2.2.2).trans h3.2.2⟩
/-- one bit more of the data -/
def keepD (data : List Nat) (taken bit : Nat) : List Nat :=
  if taken % 8 = 0 then data ++ [bit] else data.set (data.length - 1) (2 * data.getD (data.length - 1) 0 % 256 + bit)
theorem shl_or (x bit : Nat) (hb : bit < 2) : bits BinOp.or IntKind.u8 ((x : Int) * 2 % 256) (bit : Int) = ((2 * x % 256 + bit : Nat) : Int) := by
  have e : (x : Int) * 2 % 256 = ((2 * x % 256 : Nat) : Int) := by omega
  rw [e, u8_or_nat _ _ (by omega) (by omega), nat_join 1 _ _ (by omega) (by omega)]
theorem wk_setV {w : World} {b : Nat} {k : Wk} {v v' : Value} (h : wkAt w b k v) : wkAt (w.setCell ⟨b, 10, none⟩ v') b k v' := by
  unfold wkAt
  rw [heap_setCell_same w b 10 _ _ v' h]
  simp
theorem ownsB.stored {w : World} {B g cap : Nat} {l : List Nat} (h : ownsB w B (.slice (some ⟨g, 0, none⟩) l.length cap) l) (j x : Nat) : ownsB (w.setCell ⟨g, j, none⟩ (.int .u8 (x : Int))) B (.slice (some ⟨g, 0, none⟩) l.length cap) (l.set j x) := by
  have := (World.ownsRow.stored h j (.int .u8 (x : Int))).1
  unfold ownsB
  have e : bv (l.set j x) = (bv l).set j (.int .u8 (x : Int)) := by simp [bv, List.map_set]
  rw [e, List.length_set]
  exact this
theorem oth_some {b : Nat} {w w1 : World} (h : Lib.OthersKept 5 none w w1) : Lib.OthersKept 5 (some b) w w1 := fun k o hk _ ho => h k o hk (by simp) ho
theorem kept.row {B b g : Nat} {w w1 : World} (h : kept B b w w1) (hB : B ≤ g) (hg : ∃ c fz, w1.heap[g]? = some (.cells c 5 fz)) (j : Nat) (x : Value) : kept B b w (w1.setCell ⟨g, j, none⟩ x) := by
  refine ⟨h.bel.setCell (by exact hB) x, fun i o hi hb ho => ?_⟩
  have h1 := h.oth i o hi hb ho
  rw [heap_setCell_other w1 ⟨g, j, none⟩ i x (fun e => ?_)]
  · exact h1
  · obtain ⟨c, fz, hc⟩ := hg
    have e' : i = g := e
    rw [e', hc] at h1
    exact ho c fz (Option.some.inj h1).symm
theorem or_zero (bit : Nat) (hb : bit < 2) : bits BinOp.or IntKind.u8 0 (bit : Int) = ((bit : Nat) : Int) := by
  have := shl_or 0 bit hb
  simpa using this
/-- the end of keepData: the slice stored into the walk's block, then one letter of the row turned -/
theorem keepData_end {w w1 : World} {B b g cap m : Nat} {k : Wk} {v : Value} {l : List Nat} {x : Nat} {X : Int} (hX : X = (x : Int)) (hw : wkAt w1 b k v) (ho : ownsB w1 B (.slice (some ⟨g, 0, none⟩) l.length cap) l) (hk : kept B b w w1) (hB : B ≤ b) (hgB : B ≤ g) (hgb : ¬ b = g) (l' : List Nat) (hl' : l.set m x = l') :
    wkI B b { k with data := l' } ((w1.setCell ⟨b, 10, none⟩ (.slice (some ⟨g, 0, none⟩) l.length cap)).setCell ⟨g, m, none⟩ (.int .u8 X)).drew ∧ kept B b w ((w1.setCell ⟨b, 10, none⟩ (.slice (some ⟨g, 0, none⟩) l.length cap)).setCell ⟨g, m, none⟩ (.int .u8 X)).drew := by
  subst hX hl'
  have h1 := wk_setV (v' := .slice (some ⟨g, 0, none⟩) l.length cap) hw
  have h2 := ho.setB hw 10 (.slice (some ⟨g, 0, none⟩) l.length cap)
  have h3 := h2.stored m x
  have hk1 := hk.set hB 10 (.slice (some ⟨g, 0, none⟩) l.length cap)
  have hk2 := hk1.row hgB (h2.kind g rfl) m (.int .u8 (x : Int))
  refine ⟨⟨⟨.slice (some ⟨g, 0, none⟩) l.length cap, ?_, ?_⟩, hB⟩, ⟨hk2.bel.drew, hk2.oth⟩⟩
  · exact (heap_setCell_other (w1.setCell ⟨b, 10, none⟩ (.slice (some ⟨g, 0, none⟩) l.length cap)) ⟨g, m, none⟩ b (.int .u8 (x : Int)) hgb).trans h1
  · exact World.ownsRow.drew h3
/-- the same, no slice stored -/
theorem keepData_end2 {w w1 : World} {B b g cap m : Nat} {k : Wk} {l : List Nat} {x : Nat} {X : Int} (hX : X = (x : Int)) (hw : wkAt w1 b k (.slice (some ⟨g, 0, none⟩) l.length cap)) (ho : ownsB w1 B (.slice (some ⟨g, 0, none⟩) l.length cap) l) (hk : kept B b w w1) (hB : B ≤ b) (hgB : B ≤ g) (hgb : ¬ b = g) (l' : List Nat) (hl' : l.set m x = l') :
    wkI B b { k with data := l' } (w1.setCell ⟨g, m, none⟩ (.int .u8 X)).drew ∧ kept B b w (w1.setCell ⟨g, m, none⟩ (.int .u8 X)).drew := by
  subst hX hl'
  have h3 := ho.stored m x
  have hk2 := hk.row hgB (ho.kind g rfl) m (.int .u8 (x : Int))
  refine ⟨⟨⟨.slice (some ⟨g, 0, none⟩) l.length cap, ?_, ?_⟩, hB⟩, ⟨hk2.bel.drew, hk2.oth⟩⟩
  · exact (heap_setCell_other w1 ⟨g, m, none⟩ b (.int .u8 (x : Int)) hgb).trans hw
  · exact World.ownsRow.drew h3
set_option maxHeartbeats 2000000 in
theorem keepData_wk (w : World) (B b : Nat) (k : Wk) (bit : Nat) (h : wkI B b k w) (hbit : bit < 2) (hl : k.data.length ≤ 1000) (hne : ¬ k.taken % 8 = 0 → k.data ≠ []) (hsm : ∀ x ∈ k.data, x < 256) (ht : k.taken ≤ 1000000) :
    Calls Tryd.prog 90 #[.pointer (some ⟨b, 0, none⟩), .int .u8 (bit : Int)] w fun e w' => e = .returned (.tuple #[]) ∧ wkI B b { k with data := keepD k.data k.taken bit } w' ∧ kept B b w w' := by
  obtain ⟨⟨v, hw, ho⟩, hB⟩ := h
  have hbz : b < w.heap.size := lt_of_block hw
  obtain ⟨-, c1, -, -, -, -, -, -, -, -, c10, -⟩ := hw.cells
  have f10 := hw.free 10
  by_cases h8 : k.taken % 8 = 0
  · have h8' : (((k.taken : Int) % 8) == 0) = true := by simp; omega
    have HW : Hid (wkAt w b k v) := hw
    clear hw
    go_enter Tryd.func90, Tryd.ntmps90
    go_wp2_with (first | (at_builtin; refine app_byte2 w w rfl (.tmp 17) (.tmp 18) rfl B _ k.data 0 _ rfl rfl ho rfl (by omega) (by omega) (Below.refl _ _) ?_))
    intro v1 w1 ho1 hb1 hk1
    have hw1 : wkAt w1 b k v := hk1 b _ HW.out (by simp) (by intro c fz e; cases e)
    have f10' := hw1.free 10
    have c10' := hw1.cells.2.2.2.2.2.2.2.2.2.2.1
    obtain ⟨g, cap, rfl, hgB, hgz, hcap, hcm, hrow⟩ := ho1.open (by simp)
    have hrc := hrow.cell k.data.length (by simp)
    have hrf := hrow.free k.data.length (by simp)
    have hg0 : (k.data ++ [0]).getD k.data.length 0 = 0 := getD_snoc_eq _ _ _ rfl
    simp only [hg0] at hrc
    have hgb : ¬ b = g := by
      intro e
      obtain ⟨c, fz, hc⟩ := ho1.kind g rfl
      rw [← e, hw1] at hc
      cases hc
    have HO : Hid (ownsB w1 B (.slice (some ⟨g, 0, none⟩) (k.data ++ [0]).length cap) (k.data ++ [0])) := ho1
    have HB1 : Hid (Below B w w1 ∧ Lib.OthersKept 5 none w w1) := ⟨hb1, hk1⟩
    have HW1 : Hid (wkAt w1 b k v) := hw1
    clear hrow hw1 ho1 hb1 hk1 c1 c10 f10 ho HW hg0 hne hsm
    go_wp2
    go_region
    go_wp2
    go_end0
    have hd : (k.data ++ [0]).set k.data.length bit = keepD k.data k.taken bit := by unfold keepD; rw [if_pos h8]; simp
    have hfin := keepData_end (m := k.data.length) (w := w) (or_zero bit hbit) HW1.out HO.out ⟨HB1.out.1, oth_some HB1.out.2⟩ hB hgB hgb _ hd
    have hln : (k.data ++ [0]).length = k.data.length + 1 := by simp
    rw [hln] at hfin
    exact ⟨rfl, hfin.1, hfin.2⟩
  · have h8' : (((k.taken : Int) % 8) == 0) = false := by simp; omega
    have hne' := hne h8
    obtain ⟨g, cap, rfl, hgB, hgz, hcap, hcm, hrow⟩ := ho.open hne'
    obtain ⟨m, hm⟩ : ∃ m, k.data.length = m + 1 := ⟨k.data.length - 1, by have := List.length_pos_iff.2 hne'; omega⟩
    have hrc := hrow.cell m (by omega)
    have hrf := hrow.free m (by omega)
    have hx256 : k.data.getD m 0 < 256 := by rw [getD_at k.data m (by omega)]; exact hsm _ (List.getElem_mem _)
    have hgb : ¬ b = g := by
      intro e
      obtain ⟨c, fz, hc⟩ := ho.kind g rfl
      rw [← e, hw] at hc
      cases hc
    have hd : k.data.set m (2 * k.data.getD m 0 % 256 + bit) = keepD k.data k.taken bit := by unfold keepD; rw [if_neg h8, hm]; rfl
    have hfin := fun (X : Int) hX => keepData_end2 (w := w) (X := X) (m := m) hX hw ho (kept.refl B b w) hB hgB hgb _ hd
    have HF : Hid (∀ (X : Int), X = ((2 * k.data.getD m 0 % 256 + bit : Nat) : Int) → wkI B b { k with data := keepD k.data k.taken bit } (w.setCell ⟨g, m, none⟩ (.int .u8 X)).drew ∧ kept B b w (w.setCell ⟨g, m, none⟩ (.int .u8 X)).drew) := hfin
    have HSL : Hid (k.data.length = m + 1) := hm
    clear hfin hd hrow ho hw hne hsm hne'
    rw [HSL.out] at c10 hl hcap
    clear HSL hm
    generalize k.data.getD m 0 = x at *
    go_enter Tryd.func90, Tryd.ntmps90
    go_wp2
    go_region
    go_wp2
    go_end0
    exact ⟨rfl, (HF.out _ (shl_or x bit hbit)).1, (HF.out _ (shl_or x bit hbit)).2⟩
def Wk.keep1 (k : Wk) (bit : Nat) : Wk := if k.field ≤ 9 then { k with sum := M.stepN k.sum bit } else k
def Wk.keep (k : Wk) (bit : Nat) : Wk :=
  if k.field = 2 ∨ k.field = 5 then { k.keep1 bit with id := 2 * k.id + bit }
  else if k.field = 3 ∨ k.field = 6 then { k.keep1 bit with rtr := decide (bit = 1) }
  else if k.field = 4 then { k.keep1 bit with ext := decide (bit = 1) }
  else if k.field = 8 then { k.keep1 bit with dlc := 2 * k.dlc + bit }
  else if k.field = 9 then { k.keep1 bit with data := keepD k.data k.taken bit }
  else if k.field = 10 then { k.keep1 bit with crc := 2 * k.crc + bit }
  else k.keep1 bit
theorem or_i64 (x bit : Nat) (hx : x < 1000000) (hb : bit < 2) : bits BinOp.or IntKind.i64 ((x : Int) * 2) (bit : Int) = ((2 * x + bit : Nat) : Int) := by
  have e : (x : Int) * 2 = ((2 * x : Nat) : Int) := by omega
  rw [e, (bits_nat .i64 62 (by decide) wraps_i64 (2 * x) bit (by omega) (by omega)).2, nat_join 1 _ _ (by omega) (by omega)]
theorem or_u32 (x bit : Nat) (hx : x < 1073741824) (hb : bit < 2) : bits BinOp.or IntKind.u32 ((x : Int) * 2) (bit : Int) = ((2 * x + bit : Nat) : Int) := by
  have e : (x : Int) * 2 = ((2 * x : Nat) : Int) := by omega
  rw [e, u32_or_nat _ _ (by omega) (by omega), nat_join 1 _ _ (by omega) (by omega)]
set_option maxHeartbeats 4000000 in
theorem keep_wk (w : World) (B b : Nat) (k : Wk) (bit : Nat) (h : wkI B b k w) (hbit : bit < 2) (hs : k.sum < 32768) (hi : k.id < 1073741824) (hdl : k.dlc < 1000000) (hcr : k.crc < 1000000) (ht : k.taken ≤ 1000000)
    (hdata : k.field = 9 → k.data.length ≤ 1000 ∧ (¬ k.taken % 8 = 0 → k.data ≠ []) ∧ (∀ x ∈ k.data, x < 256)) :
    Calls Tryd.prog 86 #[.pointer (some ⟨b, 0, none⟩), .int .i64 (bit : Int)] w fun e w' => e = .returned (.tuple #[]) ∧ wkI B b (k.keep bit) w' ∧ kept B b w w' := by
  obtain ⟨⟨v, hw, ho⟩, hB⟩ := h
  obtain ⟨c0, c1, -, -, c4, c5, c6, c7, c8, c9, c10, -⟩ := hw.cells
  have hfr := fun j => hw.free j
  have hb1 : ((bit : Int) == 1) = decide (bit = 1) := by rw [Bool.eq_iff_iff]; simp; omega
  have HW : Hid (wkAt w b k v ∧ ownsB w B v k.data) := ⟨hw, ho⟩
  have hs1 := fun (hf : k.field ≤ 9) => wk_set (k' := { k with sum := M.stepN k.sum bit }) hw ho hB 4 (.int .i64 ((M.stepN k.sum bit : Nat) : Int)) rfl (by simp)
  have HS1 : Hid (k.field ≤ 9 → wkAt (w.setCell ⟨b, 4, none⟩ (.int .i64 ((M.stepN k.sum bit : Nat) : Int))) b { k with sum := M.stepN k.sum bit } v ∧ ownsB (w.setCell ⟨b, 4, none⟩ (.int .i64 ((M.stepN k.sum bit : Nat) : Int))) B v k.data ∧ kept B b w (w.setCell ⟨b, 4, none⟩ (.int .i64 ((M.stepN k.sum bit : Nat) : Int)))) := hs1
  clear hs1 hw ho
  rcases (show k.field = 0 ∨ k.field = 1 ∨ k.field = 2 ∨ k.field = 3 ∨ k.field = 4 ∨ k.field = 5 ∨ k.field = 6 ∨ k.field = 7 ∨ k.field = 8 ∨ k.field = 9 ∨ k.field = 10 ∨ 11 ≤ k.field from by omega) with hf | hf | hf | hf | hf | hf | hf | hf | hf | hf | hf | hf
  · have hF : (k.field : Int) = 0 := by omega
    rw [hF] at c0
    have h9 : k.field ≤ 9 := by omega
    clear hF
    have HE : Hid (k.keep bit = { k with sum := M.stepN k.sum bit }) := by unfold Hid Wk.keep Wk.keep1; rw [hf]; simp
    clear hf hdata
    go_enter Tryd.func86, Tryd.ntmps86
    go_wp2_with (first | (go_at_call 77; refine (crcStep_any k.sum bit _ hs).mono ?_; rintro o w2 ⟨rfl, rfl⟩))
    go_end0
    have h1 := HS1.out h9
    rw [HE.out]
    exact ⟨rfl, ⟨⟨v, h1.1, h1.2.1⟩, hB⟩, h1.2.2⟩
  · have hF : (k.field : Int) = 1 := by omega
    rw [hF] at c0
    have h9 : k.field ≤ 9 := by omega
    clear hF
    have HE : Hid (k.keep bit = { k with sum := M.stepN k.sum bit }) := by unfold Hid Wk.keep Wk.keep1; rw [hf]; simp
    clear hf hdata
    go_enter Tryd.func86, Tryd.ntmps86
    go_wp2_with (first | (go_at_call 77; refine (crcStep_any k.sum bit _ hs).mono ?_; rintro o w2 ⟨rfl, rfl⟩))
    go_end0
    have h1 := HS1.out h9
    rw [HE.out]
    exact ⟨rfl, ⟨⟨v, h1.1, h1.2.1⟩, hB⟩, h1.2.2⟩
  · have hF : (k.field : Int) = 2 := by omega
    rw [hF] at c0
    have h9 : k.field ≤ 9 := by omega
    clear hF
    have HE : Hid (k.keep bit = { k with sum := M.stepN k.sum bit, id := 2 * k.id + bit }) := by unfold Hid Wk.keep Wk.keep1; rw [hf]; simp
    clear hf hdata
    have hor := or_u32 k.id bit hi hbit
    go_enter Tryd.func86, Tryd.ntmps86
    go_wp2_with (first | (go_at_call 77; refine (crcStep_any k.sum bit _ hs).mono ?_; rintro o w2 ⟨rfl, rfl⟩))
    go_end0
    have h1 := HS1.out h9
    have h2 := wk_set (k' := { k with sum := M.stepN k.sum bit, id := 2 * k.id + bit }) h1.1 h1.2.1 hB 7 (.int .u32 ((2 * k.id + bit : Nat) : Int)) rfl (by simp)
    rw [HE.out]
    exact ⟨rfl, ⟨⟨v, h2.1, h2.2.1⟩, hB⟩, h1.2.2.trans h2.2.2⟩
  · have hF : (k.field : Int) = 3 := by omega
    rw [hF] at c0
    have h9 : k.field ≤ 9 := by omega
    clear hF
    have HE : Hid (k.keep bit = { k with sum := M.stepN k.sum bit, rtr := decide (bit = 1) }) := by unfold Hid Wk.keep Wk.keep1; rw [hf]; simp
    clear hf hdata
    go_enter Tryd.func86, Tryd.ntmps86
    go_wp2_with (first | (go_at_call 77; refine (crcStep_any k.sum bit _ hs).mono ?_; rintro o w2 ⟨rfl, rfl⟩))
    go_end0
    have h1 := HS1.out h9
    have h2 := wk_set (k' := { k with sum := M.stepN k.sum bit, rtr := decide (bit = 1) }) h1.1 h1.2.1 hB 8 (.bool (decide (bit = 1))) rfl (by simp)
    rw [HE.out]
    exact ⟨rfl, ⟨⟨v, h2.1, h2.2.1⟩, hB⟩, h1.2.2.trans h2.2.2⟩
  · have hF : (k.field : Int) = 4 := by omega
    rw [hF] at c0
    have h9 : k.field ≤ 9 := by omega
    clear hF
    have HE : Hid (k.keep bit = { k with sum := M.stepN k.sum bit, ext := decide (bit = 1) }) := by unfold Hid Wk.keep Wk.keep1; rw [hf]; simp
    clear hf hdata
    go_enter Tryd.func86, Tryd.ntmps86
    go_wp2_with (first | (go_at_call 77; refine (crcStep_any k.sum bit _ hs).mono ?_; rintro o w2 ⟨rfl, rfl⟩))
    go_end0
    have h1 := HS1.out h9
    have h2 := wk_set (k' := { k with sum := M.stepN k.sum bit, ext := decide (bit = 1) }) h1.1 h1.2.1 hB 6 (.bool (decide (bit = 1))) rfl (by simp)
    rw [HE.out]
    exact ⟨rfl, ⟨⟨v, h2.1, h2.2.1⟩, hB⟩, h1.2.2.trans h2.2.2⟩
  · have hF : (k.field : Int) = 5 := by omega
    rw [hF] at c0
    have h9 : k.field ≤ 9 := by omega
    clear hF
    have HE : Hid (k.keep bit = { k with sum := M.stepN k.sum bit, id := 2 * k.id + bit }) := by unfold Hid Wk.keep Wk.keep1; rw [hf]; simp
    clear hf hdata
    have hor := or_u32 k.id bit hi hbit
    go_enter Tryd.func86, Tryd.ntmps86
    go_wp2_with (first | (go_at_call 77; refine (crcStep_any k.sum bit _ hs).mono ?_; rintro o w2 ⟨rfl, rfl⟩))
    go_end0
    have h1 := HS1.out h9
    have h2 := wk_set (k' := { k with sum := M.stepN k.sum bit, id := 2 * k.id + bit }) h1.1 h1.2.1 hB 7 (.int .u32 ((2 * k.id + bit : Nat) : Int)) rfl (by simp)
    rw [HE.out]
    exact ⟨rfl, ⟨⟨v, h2.1, h2.2.1⟩, hB⟩, h1.2.2.trans h2.2.2⟩
  · have hF : (k.field : Int) = 6 := by omega
    rw [hF] at c0
    have h9 : k.field ≤ 9 := by omega
    clear hF
    have HE : Hid (k.keep bit = { k with sum := M.stepN k.sum bit, rtr := decide (bit = 1) }) := by unfold Hid Wk.keep Wk.keep1; rw [hf]; simp
    clear hf hdata
    go_enter Tryd.func86, Tryd.ntmps86
    go_wp2_with (first | (go_at_call 77; refine (crcStep_any k.sum bit _ hs).mono ?_; rintro o w2 ⟨rfl, rfl⟩))
    go_end0
    have h1 := HS1.out h9
    have h2 := wk_set (k' := { k with sum := M.stepN k.sum bit, rtr := decide (bit = 1) }) h1.1 h1.2.1 hB 8 (.bool (decide (bit = 1))) rfl (by simp)
    rw [HE.out]
    exact ⟨rfl, ⟨⟨v, h2.1, h2.2.1⟩, hB⟩, h1.2.2.trans h2.2.2⟩
  · have hF : (k.field : Int) = 7 := by omega
    rw [hF] at c0
    have h9 : k.field ≤ 9 := by omega
    clear hF
    have HE : Hid (k.keep bit = { k with sum := M.stepN k.sum bit }) := by unfold Hid Wk.keep Wk.keep1; rw [hf]; simp
    clear hf hdata
    go_enter Tryd.func86, Tryd.ntmps86
    go_wp2_with (first | (go_at_call 77; refine (crcStep_any k.sum bit _ hs).mono ?_; rintro o w2 ⟨rfl, rfl⟩))
    go_end0
    have h1 := HS1.out h9
    rw [HE.out]
    exact ⟨rfl, ⟨⟨v, h1.1, h1.2.1⟩, hB⟩, h1.2.2⟩
  · have hF : (k.field : Int) = 8 := by omega
    rw [hF] at c0
    have h9 : k.field ≤ 9 := by omega
    clear hF
    have HE : Hid (k.keep bit = { k with sum := M.stepN k.sum bit, dlc := 2 * k.dlc + bit }) := by unfold Hid Wk.keep Wk.keep1; rw [hf]; simp
    clear hf hdata
    have hor := or_i64 k.dlc bit hdl hbit
    go_enter Tryd.func86, Tryd.ntmps86
    go_wp2_with (first | (go_at_call 77; refine (crcStep_any k.sum bit _ hs).mono ?_; rintro o w2 ⟨rfl, rfl⟩))
    go_end0
    have h1 := HS1.out h9
    have h2 := wk_set (k' := { k with sum := M.stepN k.sum bit, dlc := 2 * k.dlc + bit }) h1.1 h1.2.1 hB 9 (.int .i64 ((2 * k.dlc + bit : Nat) : Int)) rfl (by simp)
    rw [HE.out]
    exact ⟨rfl, ⟨⟨v, h2.1, h2.2.1⟩, hB⟩, h1.2.2.trans h2.2.2⟩
  · have hF : (k.field : Int) = 9 := by omega
    rw [hF] at c0
    have h9 : k.field ≤ 9 := by omega
    clear hF
    have HE : Hid (k.keep bit = { k with sum := M.stepN k.sum bit, data := keepD k.data k.taken bit }) := by unfold Hid Wk.keep Wk.keep1; rw [hf]; simp
    have hdd := hdata hf
    have HDD : Hid (k.data.length ≤ 1000 ∧ (¬ k.taken % 8 = 0 → k.data ≠ []) ∧ (∀ x ∈ k.data, x < 256)) := hdd
    clear hf hdata hdd
    have h1 := HS1.out h9
    have HI : Hid (wkI B b { k with sum := M.stepN k.sum bit } (w.setCell ⟨b, 4, none⟩ (.int .i64 ((M.stepN k.sum bit : Nat) : Int)))) := ⟨⟨v, h1.1, h1.2.1⟩, hB⟩
    clear h1
    go_enter Tryd.func86, Tryd.ntmps86
    go_wp2_with (first | (go_at_call 77; refine (crcStep_any k.sum bit _ hs).mono ?_; rintro o w2 ⟨rfl, rfl⟩) | (go_at_call 90; refine (keepData_wk _ B b _ bit HI.out hbit HDD.out.1 HDD.out.2.1 HDD.out.2.2 ht).mono ?_; rintro o w5 ⟨rfl, hI5, hk5⟩))
    go_end0
    rw [HE.out]
    exact ⟨rfl, hI5, (HS1.out h9).2.2.trans hk5⟩
  · have hF : (k.field : Int) = 10 := by omega
    rw [hF] at c0
    clear hF
    have HE : Hid (k.keep bit = { k with crc := 2 * k.crc + bit }) := by unfold Hid Wk.keep Wk.keep1; simp [hf]
    clear hf hdata
    have hor := or_i64 k.crc bit hcr hbit
    go_enter Tryd.func86, Tryd.ntmps86
    go_wp2
    go_end0
    have h2 := wk_set (k' := { k with crc := 2 * k.crc + bit }) HW.out.1 HW.out.2 hB 5 (.int .i64 ((2 * k.crc + bit : Nat) : Int)) rfl (by simp)
    rw [HE.out]
    exact ⟨rfl, ⟨⟨v, h2.1, h2.2.1⟩, hB⟩, h2.2.2⟩
  · have HE : Hid (k.keep bit = k) := by
      unfold Hid Wk.keep Wk.keep1
      simp only [show ¬ (k.field = 2 ∨ k.field = 5) by omega, show ¬ (k.field = 3 ∨ k.field = 6) by omega, show ¬ k.field = 4 by omega, show ¬ k.field = 8 by omega, show ¬ k.field = 9 by omega, show ¬ k.field = 10 by omega, show ¬ k.field ≤ 9 by omega, if_false]
    have hF : (11 : Int) ≤ (k.field : Int) := by omega
    have e2 : ((k.field : Int) == 2) = false := by simp; omega
    have e3 : ((k.field : Int) == 3) = false := by simp; omega
    have e4 : ((k.field : Int) == 4) = false := by simp; omega
    have e5 : ((k.field : Int) == 5) = false := by simp; omega
    have e6 : ((k.field : Int) == 6) = false := by simp; omega
    have e8 : ((k.field : Int) == 8) = false := by simp; omega
    have e9 : ((k.field : Int) == 9) = false := by simp; omega
    have e10 : ((k.field : Int) == 10) = false := by simp; omega
    clear hf hdata
    go_enter Tryd.func86, Tryd.ntmps86
    go_wp2
    go_end0
    rw [HE.out]
    exact ⟨rfl, ⟨⟨v, HW.out.1, HW.out.2⟩, hB⟩, kept.refl _ _ _⟩
end Go.Proofs.YtjmlalojfghkiaaDoor.J
