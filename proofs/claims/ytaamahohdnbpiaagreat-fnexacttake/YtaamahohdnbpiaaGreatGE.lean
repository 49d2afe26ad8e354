import Derived.Test.YtaamahohdnbpiaaGreatJH
import Derived.Test.YtaamahohdnbpiaaGreatVB
namespace Go.Proofs.YtaamahohdnbpiaaGreat
open Go.RowKit
set_option linter.unusedVariables false
def arbA (b : R8) : ByteArray := arbZ b.e b.i b.r b.d b.l.length
/-- the first box goes ahead of the second -/
def befS (a b : R8) : Bool := if arbA a = arbA b then decide (a.z < b.z) else Op.bytesLess (arbA a).toList (arbA b).toList
theorem at8.frame {w : World} {g o : Nat} {b : R8} {ao : Option Addr} {m c : Nat} (h : at8 w g o b ao m c) : w.rangeAt g (o + 3) [.bool b.e, .int .u32 (b.i : Int), .bool b.r, .int .i64 b.d, .slice ao m c] := by
  intro j v hv
  match j, hv with
  | 0, hv => cases hv; exact h.c3
  | 1, hv => cases hv; exact h.c4
  | 2, hv => cases hv; exact h.c5
  | 3, hv => cases hv; exact h.c6
  | 4, hv => cases hv; exact h.cs
set_option maxHeartbeats 4000000 in
set_option maxRecDepth 20000 in
/-- spec.l3before -/
theorem l3before_any (w : World) (H : Ho) (s : Sl) (h : isR8s w s.a2 s.n2 s.k2 H.bx) (hn : s.n2 ≤ 8) (i j : Nat) (hi : i < H.bx.length) (hj : j < H.bx.length) :
    Calls Tryz.prog 141 #[hoV H s, .int .i64 i, .int .i64 j] w fun o w' => o = .returned (.bool (befS H.bx[i] H.bx[j])) ∧ Below w.heap.size w w' := by
  have hln := h.len
  have hcp := h.cap
  have H0 : Hid (obS w H s (w.alloc (.cells (hoL H s).toArray 35))) := ⟨blk.new w _ 35, (Below.refl _ _).alloc (Nat.le_refl _) _⟩
  obtain ⟨c0, c1, c2, c3, fs, bx, ff, qu, lo, st⟩ := H
  obtain ⟨a1, n1, k1, a2, n2, k2, a3, n3, k3, a4, n4, k4⟩ := s
  simp only [] at h hln hcp hn hi hj ⊢
  obtain ⟨g, off, rfl, hc⟩ := h.cells (by intro e; subst e; cases hi)
  obtain ⟨ao, m, c, hx⟩ := hc i hi
  obtain ⟨ao', m', c', hx'⟩ := hc j hj
  have hin : i < n2 := by omega
  have hjn : j < n2 := by omega
  clear hc h hln
  have e1 := hx.dat.len
  have e2 := hx'.dat.len
  obtain ⟨b, hb⟩ : ∃ b, bx[i] = b := ⟨_, rfl⟩
  obtain ⟨b', hb'⟩ : ∃ b, bx[j] = b := ⟨_, rfl⟩
  rw [hb] at hx e1
  rw [hb'] at hx' e2
  rw [hb, hb']
  have HBF : Hid (befS b b' = if arbZ b.e b.i b.r b.d m = arbZ b'.e b'.i b'.r b'.d m' then decide (b.z < b'.z) else Op.bytesLess (arbZ b.e b.i b.r b.d m).toList (arbZ b'.e b'.i b'.r b'.d m').toList) := by
    show befS b b' = _
    unfold befS arbA
    rw [e1, e2]
  clear hb hb' e1 e2 hi hj
  have HX : Hid (∀ W, obS w ⟨c0, c1, c2, c3, fs, bx, ff, qu, lo, st⟩ ⟨a1, n1, k1, some ⟨g, off, none⟩, n2, k2, a3, n3, k3, a4, n4, k4⟩ W → at8 W g (off + i * 8) b ao m c ∧ at8 W g (off + j * 8) b' ao' m' c') := fun W hW => ⟨hx.below hW.b, hx'.below hW.b⟩
  clear hx hx'
  obtain ⟨x, y, z, e, id, r, d, l⟩ := b
  obtain ⟨x', y', z', e', id', r', d', l'⟩ := b'
  simp only [] at HBF HX ⊢
  have p5 := H0.out.p.cell 5 _ rfl
  obtain ⟨A, hA⟩ : ∃ A, arbZ e id r d m = A := ⟨_, rfl⟩
  obtain ⟨B, hB⟩ : ∃ B, arbZ e' id' r' d' m' = B := ⟨_, rfl⟩
  rw [hA, hB] at HBF
  have HA1 : Hid (∀ W, obS w ⟨c0, c1, c2, c3, fs, bx, ff, qu, lo, st⟩ ⟨a1, n1, k1, some ⟨g, off, none⟩, n2, k2, a3, n3, k3, a4, n4, k4⟩ W → Calls Tryz.prog 16 #[frV e id r d ao m c] W fun o w' => o = .returned (.string A) ∧ Below W.heap.size W w') := fun W hW => hA ▸ specArb_any W e id r d ao m c l (HX.out _ hW).1.dat
  have HA2 : Hid (∀ W, obS w ⟨c0, c1, c2, c3, fs, bx, ff, qu, lo, st⟩ ⟨a1, n1, k1, some ⟨g, off, none⟩, n2, k2, a3, n3, k3, a4, n4, k4⟩ W → Calls Tryz.prog 16 #[frV e' id' r' d' ao' m' c'] W fun o w' => o = .returned (.string B) ∧ Below W.heap.size W w') := fun W hW => hB ▸ specArb_any W e' id' r' d' ao' m' c' l' (HX.out _ hW).2.dat
  clear hA hB
  by_cases hAB : A = B
  · have HBF2 : Hid (befS ⟨x, y, z, e, id, r, d, l⟩ ⟨x', y', z', e', id', r', d', l'⟩ = decide (z < z')) := by have := HBF.out; rw [if_pos hAB] at this; exact this
    clear HBF
    subst hAB
    go_enter Tryz.func141, Tryz.ntmps141
    go_wp2_with (first
      | (refine wpList_load_mid (P := Tryz.prog) rfl 25 _ rfl g (off + i * 8 + 3) rfl _ _ (HX.out _ H0.out).1.frame Tryz.underlying25 rfl sz93 ?_)
      | (go_at_call 16; refine (HA1.out _ H0.out).mono ?_; rintro o w1 ⟨rfl, hb1⟩; have H1 : Hid (obS w ⟨c0, c1, c2, c3, fs, bx, ff, qu, lo, st⟩ ⟨a1, n1, k1, some ⟨g, off, none⟩, n2, k2, a3, n3, k3, a4, n4, k4⟩ w1) := H0.out.below hb1; have q5 := H1.out.p.cell 5 _ rfl; clear HA1 p5 hb1)
      | (refine wpList_load_mid (P := Tryz.prog) rfl 25 _ rfl g (off + j * 8 + 3) rfl _ _ (HX.out _ H1.out).2.frame Tryz.underlying25 rfl sz93 ?_)
      | (go_at_call 16; refine (HA2.out _ H1.out).mono ?_; rintro o w2 ⟨rfl, hb2⟩; have H2 : Hid (obS w ⟨c0, c1, c2, c3, fs, bx, ff, qu, lo, st⟩ ⟨a1, n1, k1, some ⟨g, off, none⟩, n2, k2, a3, n3, k3, a4, n4, k4⟩ w2) := H1.out.below hb2; have r5 := H2.out.p.cell 5 _ rfl; have r2 := (HX.out _ H2.out).1.c2; have s2 := (HX.out _ H2.out).2.c2; clear HA2 q5 hb2))
    refine wp_region_held (S := (fun W => W.cell? ⟨w.heap.size, 5, none⟩ = some (.slice (some ⟨g, off, none⟩) n2 k2) ∧ W.cell? ⟨g, off + i * 8 + 2, none⟩ = some (.int .i64 z) ∧ W.cell? ⟨g, off + j * 8 + 2, none⟩ = some (.int .i64 z') ∧ Below w.heap.size w W)) (by kernel_rfl) ?_
    have hS : (fun W : World => W.cell? ⟨w.heap.size, 5, none⟩ = some (.slice (some ⟨g, off, none⟩) n2 k2) ∧ W.cell? ⟨g, off + i * 8 + 2, none⟩ = some (.int .i64 z) ∧ W.cell? ⟨g, off + j * 8 + 2, none⟩ = some (.int .i64 z') ∧ Below w.heap.size w W) w2.drew := ⟨(World.cell?_drew _ _).trans r5, (World.cell?_drew _ _).trans r2, (World.cell?_drew _ _).trans s2, H2.out.b.drew⟩
    simp only [] at hS
    refine wpAnyH_take (i := 0) (v := .pointer (some ⟨w.heap.size, 5, none⟩)) rfl (by kernel_rfl) (by kernel_rfl) (by kernel_rfl) (fun _ _ _ h => h) (Or.inl ⟨by rfl, ?_⟩) hS ?_
    · intro W hSw
      clear hS
      go_simp
    simp only [Act.put, List.setIfInBounds_toArray, List.set_cons_zero, List.set_cons_succ, List.getElem_toArray, List.getElem_cons_zero]
    refine wpAnyH_take (i := 1) (v := .slice (some ⟨g, off, none⟩) n2 k2) rfl (by kernel_rfl) (by kernel_rfl) (by kernel_rfl) (fun _ _ _ h => h) (Or.inl ⟨by rfl, ?_⟩) hS ?_
    · intro W hSw
      clear hS
      go_simp
    simp only [Act.put, List.setIfInBounds_toArray, List.set_cons_zero, List.set_cons_succ, List.getElem_toArray, List.getElem_cons_zero, List.getElem_cons_succ]
    refine wpAnyH_take (i := 2) (v := .int .i64 (i : Int)) rfl (by kernel_rfl) (by kernel_rfl) (by kernel_rfl) (fun _ _ _ h => h) (Or.inl ⟨by rfl, ?_⟩) hS ?_
    · intro W hSw
      clear hS
      go_simp
    simp only [Act.put, List.setIfInBounds_toArray, List.set_cons_zero, List.set_cons_succ, List.getElem_toArray, List.getElem_cons_zero, List.getElem_cons_succ]
    refine wpAnyH_take (i := 3) (v := .pointer (some ⟨g, off + i * 8, none⟩)) rfl (by kernel_rfl) (by kernel_rfl) (by kernel_rfl) (fun _ _ _ h => h) (Or.inl ⟨by rfl, ?_⟩) hS ?_
    · intro W hSw
      clear hS
      go_simp
    simp only [Act.put, List.setIfInBounds_toArray, List.set_cons_zero, List.set_cons_succ, List.getElem_toArray, List.getElem_cons_zero, List.getElem_cons_succ]
    refine wpAnyH_take (i := 4) (v := .pointer (some ⟨g, off + i * 8 + 2, none⟩)) rfl (by kernel_rfl) (by kernel_rfl) (by kernel_rfl) (fun _ _ _ h => h) (Or.inl ⟨by rfl, ?_⟩) hS ?_
    · intro W hSw
      clear hS
      go_simp
    simp only [Act.put, List.setIfInBounds_toArray, List.set_cons_zero, List.set_cons_succ, List.getElem_toArray, List.getElem_cons_zero, List.getElem_cons_succ]
    refine wpAnyH_take (i := 5) (v := .int .i64 z) rfl (by kernel_rfl) (by kernel_rfl) (by kernel_rfl) (fun _ _ _ h => h) (Or.inl ⟨by rfl, ?_⟩) hS ?_
    · intro W hSw
      clear hS
      go_simp
    simp only [Act.put, List.setIfInBounds_toArray, List.set_cons_zero, List.set_cons_succ, List.getElem_toArray, List.getElem_cons_zero, List.getElem_cons_succ]
    refine wpAnyH_take (i := 6) (v := .pointer (some ⟨w.heap.size, 5, none⟩)) rfl (by kernel_rfl) (by kernel_rfl) (by kernel_rfl) (fun _ _ _ h => h) (Or.inl ⟨by rfl, ?_⟩) hS ?_
    · intro W hSw
      clear hS
      go_simp
    simp only [Act.put, List.setIfInBounds_toArray, List.set_cons_zero, List.set_cons_succ, List.getElem_toArray, List.getElem_cons_zero, List.getElem_cons_succ]
    refine wpAnyH_take (i := 7) (v := .slice (some ⟨g, off, none⟩) n2 k2) rfl (by kernel_rfl) (by kernel_rfl) (by kernel_rfl) (fun _ _ _ h => h) (Or.inl ⟨by rfl, ?_⟩) hS ?_
    · intro W hSw
      clear hS
      go_simp
    simp only [Act.put, List.setIfInBounds_toArray, List.set_cons_zero, List.set_cons_succ, List.getElem_toArray, List.getElem_cons_zero, List.getElem_cons_succ]
    refine wpAnyH_take (i := 8) (v := .int .i64 (j : Int)) rfl (by kernel_rfl) (by kernel_rfl) (by kernel_rfl) (fun _ _ _ h => h) (Or.inl ⟨by rfl, ?_⟩) hS ?_
    · intro W hSw
      clear hS
      go_simp
    simp only [Act.put, List.setIfInBounds_toArray, List.set_cons_zero, List.set_cons_succ, List.getElem_toArray, List.getElem_cons_zero, List.getElem_cons_succ]
    refine wpAnyH_take (i := 9) (v := .pointer (some ⟨g, off + j * 8, none⟩)) rfl (by kernel_rfl) (by kernel_rfl) (by kernel_rfl) (fun _ _ _ h => h) (Or.inl ⟨by rfl, ?_⟩) hS ?_
    · intro W hSw
      clear hS
      go_simp
    simp only [Act.put, List.setIfInBounds_toArray, List.set_cons_zero, List.set_cons_succ, List.getElem_toArray, List.getElem_cons_zero, List.getElem_cons_succ]
    refine wpAnyH_take (i := 10) (v := .pointer (some ⟨g, off + j * 8 + 2, none⟩)) rfl (by kernel_rfl) (by kernel_rfl) (by kernel_rfl) (fun _ _ _ h => h) (Or.inl ⟨by rfl, ?_⟩) hS ?_
    · intro W hSw
      clear hS
      go_simp
    simp only [Act.put, List.setIfInBounds_toArray, List.set_cons_zero, List.set_cons_succ, List.getElem_toArray, List.getElem_cons_zero, List.getElem_cons_succ]
    refine wpAnyH_take (i := 11) (v := .int .i64 z') rfl (by kernel_rfl) (by kernel_rfl) (by kernel_rfl) (fun _ _ _ h => h) (Or.inl ⟨by rfl, ?_⟩) hS ?_
    · intro W hSw
      clear hS
      go_simp
    simp only [Act.put, List.setIfInBounds_toArray, List.set_cons_zero, List.set_cons_succ, List.getElem_toArray, List.getElem_cons_zero, List.getElem_cons_succ]
    refine wpAnyH_take (i := 12) (v := .bool (decide (z < z'))) rfl (by kernel_rfl) (by kernel_rfl) (by kernel_rfl) (fun _ _ _ h => h) (Or.inl ⟨by rfl, ?_⟩) hS ?_
    · intro W hSw
      clear hS
      go_simp
    simp only [Act.put, List.setIfInBounds_toArray, List.set_cons_zero, List.set_cons_succ, List.getElem_toArray, List.getElem_cons_zero, List.getElem_cons_succ]
    refine wpAnyH_take (i := 13) (v := .bool (decide (z < z'))) rfl (by kernel_rfl) (by kernel_rfl) (by kernel_rfl) (fun _ _ _ h => h) (Or.inl ⟨by rfl, ?_⟩) hS ?_
    · intro W hSw
      clear hS
      go_simp
    simp only [Act.put, List.setIfInBounds_toArray, List.set_cons_zero, List.set_cons_succ, List.getElem_toArray, List.getElem_cons_zero, List.getElem_cons_succ]
    refine wpAnyH_done (by kernel_rfl) ?_ _
    have HBJ : Hid (Below w.heap.size w w2.drew) := hS.2.2.2
    clear hS
    go_wp2
    go_ret
    exact ⟨ret_bool HBF2.out.symm, HBJ.out⟩
  · have HBF2 : Hid (befS ⟨x, y, z, e, id, r, d, l⟩ ⟨x', y', z', e', id', r', d', l'⟩ = Op.bytesLess A.toList B.toList) := by have := HBF.out; rw [if_neg hAB] at this; exact this
    clear HBF
    have hne : (A.toList == B.toList) = false := by
      rw [beq_eq_false_iff_ne, ByteArray.toList_eq, ByteArray.toList_eq]
      exact fun h => hAB (ByteArray.ext (Array.toList_inj.1 h))
    go_enter Tryz.func141, Tryz.ntmps141
    go_wp2_with (first
      | (refine wpList_load_mid (P := Tryz.prog) rfl 25 _ rfl g (off + i * 8 + 3) rfl _ _ (HX.out _ H0.out).1.frame Tryz.underlying25 rfl sz93 ?_)
      | (go_at_call 16; refine (HA1.out _ H0.out).mono ?_; rintro o w1 ⟨rfl, hb1⟩; have H1 : Hid (obS w ⟨c0, c1, c2, c3, fs, bx, ff, qu, lo, st⟩ ⟨a1, n1, k1, some ⟨g, off, none⟩, n2, k2, a3, n3, k3, a4, n4, k4⟩ w1) := H0.out.below hb1; have q5 := H1.out.p.cell 5 _ rfl; clear HA1 p5 hb1)
      | (refine wpList_load_mid (P := Tryz.prog) rfl 25 _ rfl g (off + j * 8 + 3) rfl _ _ (HX.out _ H1.out).2.frame Tryz.underlying25 rfl sz93 ?_)
      | (go_at_call 16; refine (HA2.out _ H1.out).mono ?_; rintro o w2 ⟨rfl, hb2⟩; have H2 : Hid (obS w ⟨c0, c1, c2, c3, fs, bx, ff, qu, lo, st⟩ ⟨a1, n1, k1, some ⟨g, off, none⟩, n2, k2, a3, n3, k3, a4, n4, k4⟩ w2) := H1.out.below hb2; clear HA2 q5 hb2))
    go_ret
    exact ⟨ret_bool HBF2.out.symm, H2.out.b⟩
end Go.Proofs.YtaamahohdnbpiaaGreat
namespace Go.Proofs.YtaamahohdnbpiaaGreat
open Go.RowKit
set_option linter.unusedVariables false
theorem less_lt (x y : List UInt8) : Op.bytesLess x y = decide (x < y) := by
  induction x generalizing y with
  | nil => cases y <;> simp [Op.bytesLess]
  | cons a x ih =>
    cases y with
    | nil => simp [Op.bytesLess]
    | cons b y =>
      rw [Op.bytesLess, ih]
      by_cases e : a = b <;> simp [List.cons_lt_cons_iff, e]
theorem cmpB_lt (x y : List UInt8) : (Lib.compareBytes x y = 0 ↔ x = y) ∧ (Lib.compareBytes x y < 0 ↔ Op.bytesLess x y = true) := by
  induction x generalizing y with
  | nil => cases y <;> simp [Lib.compareBytes, Op.bytesLess]
  | cons a x ih =>
    cases y with
    | nil => simp [Lib.compareBytes, Op.bytesLess]
    | cons b y =>
      have h1 := ih y
      rw [Lib.compareBytes, Op.bytesLess]
      by_cases hab : a < b
      · have hne : a ≠ b := fun h => by subst h; exact absurd hab (UInt8.lt_irrefl a)
        simp [hab, hne]
      · by_cases hba : b < a
        · have hne : a ≠ b := fun h => by subst h; exact absurd hba (UInt8.lt_irrefl a)
          simp [hab, hba, hne]
        · have he : a = b := UInt8.le_antisymm (UInt8.not_lt.1 hba) (UInt8.not_lt.1 hab)
          subst he
          simp [hab, h1.1, h1.2]
theorem cmpI (x y : Int) : (Lib.compareInt x y < 0 ↔ x < y) := by
  unfold Lib.compareInt
  split
  · simp_all
  · split <;> simp_all
/-- what goes ahead is a strict order -/
theorem befS_asymm {a b : R8} (h : befS a b = true) (h' : befS b a = true) : False := by
  unfold befS at h h'
  by_cases e : arbA a = arbA b
  · rw [if_pos e] at h; rw [if_pos e.symm] at h'; simp at h h'; omega
  · rw [if_neg e, less_lt] at h
    rw [if_neg (fun x => e x.symm), less_lt] at h'
    exact absurd (of_decide_eq_true h') (List.lt_asymm (of_decide_eq_true h))
theorem toList_ext {a b : ByteArray} (h : a.toList = b.toList) : a = b := by
  rw [ByteArray.toList_eq, ByteArray.toList_eq] at h
  exact ByteArray.ext (Array.toList_inj.1 h)
theorem befS_trans {a b c : R8} (h : befS a b = true) (h' : befS b c = true) : befS a c = true := by
  unfold befS at h h' ⊢
  by_cases e : arbA a = arbA b
  · rw [if_pos e] at h
    by_cases e' : arbA b = arbA c
    · rw [if_pos e'] at h'; rw [if_pos (e.trans e')]; simp at h h' ⊢; omega
    · rw [if_neg e'] at h'; rw [e, if_neg e']; exact h'
  · rw [if_neg e, less_lt] at h
    by_cases e' : arbA b = arbA c
    · rw [← e', if_neg e, less_lt]; exact h
    · rw [if_neg e', less_lt] at h'
      have h3 := List.lt_trans (of_decide_eq_true h) (of_decide_eq_true h')
      have hne : arbA a ≠ arbA c := fun x => by rw [x] at h3; exact absurd h3 (List.lt_irrefl _)
      rw [if_neg hne, less_lt]
      exact decide_eq_true h3
theorem befS_total {a b : R8} (hz : a.z ≠ b.z) (h : befS a b = false) : befS b a = true := by
  unfold befS at h ⊢
  by_cases e : arbA a = arbA b
  · rw [if_pos e] at h; rw [if_pos e.symm]; simp at h ⊢; omega
  · rw [if_neg e, less_lt] at h
    rw [if_neg (fun x => e x.symm), less_lt]
    have h1 := of_decide_eq_false h
    by_cases h2 : (arbA b).toList < (arbA a).toList
    · exact decide_eq_true h2
    · exact absurd (toList_ext (List.le_antisymm (List.not_lt.1 h2) (List.not_lt.1 h1))) e
/-- the box that goes ahead of every other waiting one -/
def isBest (bx : List R8) (i : Nat) : Prop := ∃ hi : i < bx.length, bx[i].x = 1 ∧ ∀ j (hj : j < bx.length), j ≠ i → bx[j].x = 1 → befS bx[i] bx[j] = true
def bestR (bx : List R8) (r : Int) : Prop := (r = -1 ∧ ∀ i, ¬ isBest bx i) ∨ ∃ i : Nat, r = i ∧ isBest bx i
theorem isBest_one {bx : List R8} {i j : Nat} (h : isBest bx i) (h' : isBest bx j) : i = j := by
  obtain ⟨hi, h1, h2⟩ := h
  obtain ⟨hj, h3, h4⟩ := h'
  by_cases e : i = j
  · exact e
  · exact absurd (befS_asymm (h2 j hj (fun x => e x.symm) h3) (h4 i hi e h1)) id
theorem bestR_one {bx : List R8} {r r' : Int} (h : bestR bx r) (h' : bestR bx r') : r = r' := by
  rcases h with ⟨rfl, h⟩ | ⟨i, rfl, h⟩
  · rcases h' with ⟨rfl, h'⟩ | ⟨i, rfl, h'⟩
    · rfl
    · exact absurd h' (h i)
  · rcases h' with ⟨rfl, h'⟩ | ⟨j, rfl, h'⟩
    · exact absurd h (h' i)
    · rw [isBest_one h h']
/-- the best so far -/
def bestK (bx : List R8) (k : Nat) (r : Int) : Prop := (r = -1 ∧ ∀ j (hj : j < bx.length), j < k → bx[j].x ≠ 1) ∨ ∃ i : Nat, r = i ∧ i < k ∧ ∃ hi : i < bx.length, bx[i].x = 1 ∧ ∀ j (hj : j < bx.length), j < k → j ≠ i → bx[j].x = 1 → befS bx[i] bx[j] = true
theorem bestK_end {bx : List R8} {k : Nat} {r : Int} (h : bestK bx k r) (hk : bx.length ≤ k) : bestR bx r := by
  rcases h with ⟨rfl, h⟩ | ⟨i, rfl, hik, hi, h1, h2⟩
  · exact Or.inl ⟨rfl, fun i hb => by obtain ⟨hi, h1, _⟩ := hb; exact h i hi (by omega) h1⟩
  · exact Or.inr ⟨i, rfl, hi, h1, fun j hj hne hw => h2 j hj (by omega) hne hw⟩
theorem bestK_skip {bx : List R8} {k : Nat} {r : Int} (h : bestK bx k r) (hk : k < bx.length) (hx : bx[k].x ≠ 1) : bestK bx (k + 1) r := by
  rcases h with ⟨rfl, h⟩ | ⟨i, rfl, hik, hi, h1, h2⟩
  · refine Or.inl ⟨rfl, fun j hj hjk => ?_⟩
    by_cases e : j = k
    · subst e; exact hx
    · exact h j hj (by omega)
  · refine Or.inr ⟨i, rfl, by omega, hi, h1, fun j hj hjk hne hw => ?_⟩
    by_cases e : j = k
    · subst e; exact absurd hw hx
    · exact h2 j hj (by omega) hne hw
theorem bestK_first {bx : List R8} {k : Nat} (h : bestK bx k (-1)) (hk : k < bx.length) (hx : bx[k].x = 1) : bestK bx (k + 1) k := by
  rcases h with ⟨_, h⟩ | ⟨i, h0, _⟩
  · refine Or.inr ⟨k, rfl, by omega, hk, hx, fun j hj hjk hne hw => absurd hw (h j hj (by omega))⟩
  · omega
theorem bestK_ahead {bx : List R8} {k i : Nat} (h : bestK bx k (i : Int)) (hk : k < bx.length) (hi : i < bx.length) (hx : bx[k].x = 1) (hb : befS bx[k] bx[i] = true) : bestK bx (k + 1) k := by
  rcases h with ⟨h0, _⟩ | ⟨i', h0, hik, hi', h1, h2⟩
  · omega
  · have : i' = i := by omega
    subst this
    refine Or.inr ⟨k, rfl, by omega, hk, hx, fun j hj hjk hne hw => ?_⟩
    by_cases e : j = i'
    · subst e; exact hb
    · exact befS_trans hb (h2 j hj (by omega) e hw)
theorem bestK_behind {st : Int} {bx : List R8} {k i : Nat} (hok : okBxs st bx) (h : bestK bx k (i : Int)) (hk : k < bx.length) (hi : i < bx.length) (hx : bx[k].x = 1) (hb : befS bx[k] bx[i] = false) : bestK bx (k + 1) i := by
  rcases h with ⟨h0, _⟩ | ⟨i', h0, hik, hi', h1, h2⟩
  · omega
  · have : i' = i := by omega
    subst this
    refine Or.inr ⟨i', rfl, by omega, hi, h1, fun j hj hjk hne hw => ?_⟩
    by_cases e : j = k
    · subst e
      exact befS_total (fun hz => (hok.2.1 i' j hi hj hik (by rw [h1]; decide) (by rw [hx]; decide)).2 hz.symm) hb
    · exact h2 j hj (by omega) hne hw
end Go.Proofs.YtaamahohdnbpiaaGreat
