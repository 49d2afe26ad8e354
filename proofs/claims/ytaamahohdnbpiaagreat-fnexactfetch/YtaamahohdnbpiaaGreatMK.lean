import Derived.Test.YtaamahohdnbpiaaGreatG24
namespace Go.Proofs.YtaamahohdnbpiaaGreat
open Go.RowKit
set_option linter.unusedVariables false
theorem tdF.own2 {w : World} {n1 : Nat} {fs : List R3} {n2 : Nat} {bx : List R8} {n3 : Nat} {ff : List R5} {n4 : Nat} {qu : List R8} {g1 g2 : Nat} {h2 : Nat → Hd} {a3 : Option Addr} {k3 : Nat} {h3 : Nat → Hd} {a4 : Option Addr} {k4 : Nat} {h4 : Nat → Hd} {PH : Nat} {HL : List Value} {k1 k2 U k : Nat} {W : World} (h : tdF w n1 fs n2 bx n3 ff n4 qu g1 g2 h2 a3 k3 h3 a4 k4 h4 PH HL U k 0 0 0 0 W) (O : tdO w n1 k1 n2 k2 g1 g2 a3 a4 PH) (hU : g2 < U) (hUz : U ≤ W.heap.size) (hk : k < n2) :
    Calls Tryz.prog 134 #[.pointer (some ⟨g2, k * 8 + 3, none⟩)] W fun e w' => ∃ h2', e = .returned (.tuple #[]) ∧ tdF w n1 fs n2 bx n3 ff n4 qu g1 g2 h2' a3 k3 h3 a4 k4 h4 PH HL U (k + 1) 0 0 0 0 w' ∧ U ≤ w'.heap.size := by
  have hkl : k < bx.length := by have := h.f2.len; omega
  refine (ownData_any W g2 (k * 8 + 3) _ _ _ bx[k].l (h.f2.at_ k hkl).cs (h.f2.row (k * 8 + 7) (by omega)).2 (h.f2.at_ k hkl).dat (by have := (h.f2.at_ k hkl).dat.len; have := h.f2.sm k hkl; omega)).mono ?_
  rintro e w' ⟨a', c', w1, rfl, rfl, q1, q2, q3⟩
  obtain ⟨hs', d2⟩ := h.f2.step hkl hUz hU a' c' q1 q2 q3
  have oth : ∀ x, x ≠ g2 → x < W.heap.size → (w1.setCell ⟨g2, k * 8 + 3 + 4, none⟩ (.slice a' (h2 k).2.1 c')).heap[x]? = W.heap[x]? := fun x hx hl => (heap_setCell_other w1 ⟨g2, k * 8 + 3 + 4, none⟩ x _ hx).trans (q3.block x hl)
  have hz : W.heap.size ≤ (w1.setCell ⟨g2, k * 8 + 3 + 4, none⟩ (.slice a' (h2 k).2.1 c')).heap.size := by have := q3.size; simpa using this
  refine ⟨hs', rfl, ⟨h.f1.same (oth _ (by have := O.o1; omega) h.f1.hi) hz, d2, h.f3.same0 (fun g hg => oth _ (by have := O.o2 g hg; omega) (h.f3.hi g hg)) hz d2.bel, h.f4.same0 (fun g hg => oth _ (by have := (O.o3 g hg).1; omega) (h.f4.hi g hg)) hz d2.bel, h.fh.kept (oth _ O.p1.2.1 h.fh.lt), h.fr.kept (oth _ (by have := O.o1; have := O.r1.1; omega) h.fr.lt), d2.bel⟩, by omega⟩
theorem tdF.u3 {w : World} {n1 : Nat} {fs : List R3} {n2 : Nat} {bx : List R8} {n3 : Nat} {ff : List R5} {n4 : Nat} {qu : List R8} {g1 g2 : Nat} {h2 : Nat → Hd} {a3 : Option Addr} {k3 : Nat} {h3 : Nat → Hd} {a4 : Option Addr} {k4 : Nat} {h4 : Nat → Hd} {PH : Nat} {HL : List Value} {U2 i2 U3' : Nat} {W : World} (h : tdF w n1 fs n2 bx n3 ff n4 qu g1 g2 h2 a3 k3 h3 a4 k4 h4 PH HL U2 i2 0 0 0 0 W) : tdF w n1 fs n2 bx n3 ff n4 qu g1 g2 h2 a3 k3 h3 a4 k4 h4 PH HL U2 i2 U3' 0 0 0 W := ⟨h.f1, h.f2, h.f3.same0 (fun _ _ => rfl) (Nat.le_refl _) h.b, h.f4, h.fh, h.fr, h.b⟩
theorem tdF.u4 {w : World} {n1 : Nat} {fs : List R3} {n2 : Nat} {bx : List R8} {n3 : Nat} {ff : List R5} {n4 : Nat} {qu : List R8} {g1 g2 : Nat} {h2 : Nat → Hd} {a3 : Option Addr} {k3 : Nat} {h3 : Nat → Hd} {a4 : Option Addr} {k4 : Nat} {h4 : Nat → Hd} {PH : Nat} {HL : List Value} {U2 i2 U3 i3 U4' : Nat} {W : World} (h : tdF w n1 fs n2 bx n3 ff n4 qu g1 g2 h2 a3 k3 h3 a4 k4 h4 PH HL U2 i2 U3 i3 0 0 W) : tdF w n1 fs n2 bx n3 ff n4 qu g1 g2 h2 a3 k3 h3 a4 k4 h4 PH HL U2 i2 U3 i3 U4' 0 W := ⟨h.f1, h.f2, h.f3, h.f4.same0 (fun _ _ => rfl) (Nat.le_refl _) h.b, h.fh, h.fr, h.b⟩
theorem tdF.own3 {w : World} {n1 : Nat} {fs : List R3} {n2 : Nat} {bx : List R8} {n3 : Nat} {ff : List R5} {n4 : Nat} {qu : List R8} {g1 g2 : Nat} {h2 : Nat → Hd} {a3 : Option Addr} {k3 : Nat} {h3 : Nat → Hd} {a4 : Option Addr} {k4 : Nat} {h4 : Nat → Hd} {PH : Nat} {HL : List Value} {k1 k2 U U3 k g3 : Nat} {W : World} (h : tdF w n1 fs n2 bx n3 ff n4 qu g1 g2 h2 a3 k3 h3 a4 k4 h4 PH HL U n2 U3 k 0 0 W) (O : tdO w n1 k1 n2 k2 g1 g2 a3 a4 PH) (ha : a3 = some ⟨g3, 0, none⟩) (hU : g3 < U) (hU3 : U ≤ U3) (hUz : U3 ≤ W.heap.size) (hk : k < n3) :
    Calls Tryz.prog 134 #[.pointer (some ⟨g3, k * 5, none⟩)] W fun e w' => ∃ h3', e = .returned (.tuple #[]) ∧ tdF w n1 fs n2 bx n3 ff n4 qu g1 g2 h2 a3 k3 h3' a4 k4 h4 PH HL U n2 U3 (k + 1) 0 0 w' ∧ U3 ≤ w'.heap.size := by
  have hf3 : dr5 w U3 g3 n3 ff h3 k W ∧ n3 ≤ k3 := by
    rcases h.f3 with ⟨e, _⟩ | ⟨g, e, e1, e2⟩
    · rw [ha] at e; cases e
    · rw [ha] at e; cases e; exact ⟨e2, e1⟩
  obtain ⟨f3, hc3⟩ := hf3
  have hkl : k < ff.length := by have := f3.len; omega
  have hg2 := O.o2 g3 ha
  refine (ownData_any W g3 (k * 5) _ _ _ ff[k].l (f3.at_ k hkl).cs (f3.row (k * 5 + 4) (by omega)).2 (f3.at_ k hkl).dat (by have := (f3.at_ k hkl).dat.len; have := f3.sm k hkl; omega)).mono ?_
  rintro e w' ⟨a', c', w1, rfl, rfl, q1, q2, q3⟩
  obtain ⟨hs', d3⟩ := f3.step hkl hUz (by omega) a' c' q1 q2 q3
  have oth : ∀ x, x ≠ g3 → x < W.heap.size → (w1.setCell ⟨g3, k * 5 + 4, none⟩ (.slice a' (h3 k).2.1 c')).heap[x]? = W.heap[x]? := fun x hx hl => (heap_setCell_other w1 ⟨g3, k * 5 + 4, none⟩ x _ hx).trans (q3.block x hl)
  have hz : W.heap.size ≤ (w1.setCell ⟨g3, k * 5 + 4, none⟩ (.slice a' (h3 k).2.1 c')).heap.size := by have := q3.size; simpa using this
  refine ⟨hs', rfl, ⟨h.f1.same (oth _ (by have := O.o1; omega) h.f1.hi) hz, h.f2.same (fun x hx hl => oth x (by rcases hx with e | e <;> omega) hl) hz d3.bel, Or.inr ⟨g3, ha, hc3, d3⟩, h.f4.same0 (fun g hg => oth _ (by have := (O.o3 g hg).2 g3 ha; omega) (h.f4.hi g hg)) hz d3.bel, h.fh.kept (oth _ (O.p1.2.2.1 g3 ha) h.fh.lt), h.fr.kept (oth _ (by have := O.o1; have := O.r1.1; omega) h.fr.lt), d3.bel⟩, by omega⟩
theorem tdF.own4 {w : World} {n1 : Nat} {fs : List R3} {n2 : Nat} {bx : List R8} {n3 : Nat} {ff : List R5} {n4 : Nat} {qu : List R8} {g1 g2 : Nat} {h2 : Nat → Hd} {a3 : Option Addr} {k3 : Nat} {h3 : Nat → Hd} {a4 : Option Addr} {k4 : Nat} {h4 : Nat → Hd} {PH : Nat} {HL : List Value} {k1 k2 U U3 U4 k g4 : Nat} {W : World} (h : tdF w n1 fs n2 bx n3 ff n4 qu g1 g2 h2 a3 k3 h3 a4 k4 h4 PH HL U n2 U3 n3 U4 k W) (O : tdO w n1 k1 n2 k2 g1 g2 a3 a4 PH) (ha : a4 = some ⟨g4, 0, none⟩) (hU : g4 < U) (hU3 : U ≤ U3 ∧ U3 ≤ U4) (hUz : U4 ≤ W.heap.size) (hk : k < n4) :
    Calls Tryz.prog 134 #[.pointer (some ⟨g4, k * 8 + 3, none⟩)] W fun e w' => ∃ h4', e = .returned (.tuple #[]) ∧ tdF w n1 fs n2 bx n3 ff n4 qu g1 g2 h2 a3 k3 h3 a4 k4 h4' PH HL U n2 U3 n3 U4 (k + 1) w' ∧ U4 ≤ w'.heap.size := by
  have hf4 : dr8 w U4 g4 n4 qu h4 k W ∧ n4 ≤ k4 := by
    rcases h.f4 with ⟨e, _⟩ | ⟨g, e, e1, e2⟩
    · rw [ha] at e; cases e
    · rw [ha] at e; cases e; exact ⟨e2, e1⟩
  obtain ⟨f4, hc4⟩ := hf4
  have hkl : k < qu.length := by have := f4.len; omega
  have hg2 := O.o3 g4 ha
  refine (ownData_any W g4 (k * 8 + 3) _ _ _ qu[k].l (f4.at_ k hkl).cs (f4.row (k * 8 + 7) (by omega)).2 (f4.at_ k hkl).dat (by have := (f4.at_ k hkl).dat.len; have := f4.sm k hkl; omega)).mono ?_
  rintro e w' ⟨a', c', w1, rfl, rfl, q1, q2, q3⟩
  obtain ⟨hs', d4⟩ := f4.step hkl hUz (by omega) a' c' q1 q2 q3
  have oth : ∀ x, x ≠ g4 → x < W.heap.size → (w1.setCell ⟨g4, k * 8 + 3 + 4, none⟩ (.slice a' (h4 k).2.1 c')).heap[x]? = W.heap[x]? := fun x hx hl => (heap_setCell_other w1 ⟨g4, k * 8 + 3 + 4, none⟩ x _ hx).trans (q3.block x hl)
  have hz : W.heap.size ≤ (w1.setCell ⟨g4, k * 8 + 3 + 4, none⟩ (.slice a' (h4 k).2.1 c')).heap.size := by have := q3.size; simpa using this
  refine ⟨hs', rfl, ⟨h.f1.same (oth _ (by have := O.o1; omega) h.f1.hi) hz, h.f2.same (fun x hx hl => oth x (by rcases hx with e | e <;> omega) hl) hz d4.bel, h.f3.same (fun x hx hl => oth x (by rcases hx with e | e; (have := hg2.2 x e; omega); omega) hl) hz d4.bel, Or.inr ⟨g4, ha, hc4, d4⟩, h.fh.kept (oth _ (O.p1.2.2.2 g4 ha) h.fh.lt), h.fr.kept (oth _ (by have := O.o1; have := O.r1.1; omega) h.fr.lt), d4.bel⟩, by omega⟩
theorem tdF.fin {w : World} {n1 : Nat} {fs : List R3} {n2 : Nat} {bx : List R8} {n3 : Nat} {ff : List R5} {n4 : Nat} {qu : List R8} {g1 g2 : Nat} {h2 : Nat → Hd} {a3 : Option Addr} {k3 : Nat} {h3 : Nat → Hd} {a4 : Option Addr} {k4 : Nat} {h4 : Nat → Hd} {PH : Nat} {HL : List Value} {k1 k2 U U3 U4 : Nat} {W W' : World} (c0 c1 c2 c3 lo st : Int) (h : tdF w n1 fs n2 bx n3 ff n4 qu g1 g2 h2 a3 k3 h3 a4 k4 h4 PH HL U n2 U3 n3 U4 n4 W) (O : tdO w n1 k1 n2 k2 g1 g2 a3 a4 PH) (hU : g1 < U ∧ g2 < U ∧ (∀ g, a3 = some ⟨g, 0, none⟩ → g < U) ∧ (∀ g, a4 = some ⟨g, 0, none⟩ → g < U) ∧ w.heap.size < U) (hU3 : U ≤ U3 ∧ U3 ≤ U4) (D2 : ∀ j, j < n2 → ∀ b, (h2 j).1 = some ⟨b, 0, none⟩ → b < U3) (D3 : ∀ j, j < n3 → ∀ b, (h3 j).1 = some ⟨b, 0, none⟩ → b < U4) (m : n2 ≤ 1000 ∧ n3 ≤ 1000 ∧ n4 ≤ 1000) (oth : ∀ x, x ≠ w.heap.size → x < W.heap.size → W'.heap[x]? = W.heap[x]?) (hz : W'.heap.size = W.heap.size) :
    ∃ s : Wh, s.sl = ⟨some ⟨g1, 0, none⟩, n1, k1, some ⟨g2, 0, none⟩, n2, k2, a3, n3, k3, a4, n4, k4⟩ ∧ St w.heap.size W' (fun W => isHo W ⟨c0, c1, c2, c3, fs, bx, ff, qu, lo, st⟩ s.sl) ∧ whS w.heap.size W'.heap.size W' s ∧ whD s ∧ whE s := by
  obtain ⟨q1, q2⟩ := h.f2.sh hU.2.1
  obtain ⟨r1, r2, r3, r4⟩ := h.f3.sx (fun g hg => by have := hU.2.2.1 g hg; omega)
  obtain ⟨p1, p2, p3, p4⟩ := h.f4.sx (fun g hg => by have := hU.2.2.2.1 g hg; omega)
  have x2 : sx8 W (some ⟨g2, 0, none⟩) n2 k2 h2 := Or.inr ⟨g2, rfl, q1, O.c2⟩
  have hr1 := O.r1.1
  have ho1 := O.o1
  have I2 : inn w.heap.size W.heap.size (some ⟨g2, 0, none⟩) n2 h2 := fun x hx => by
    rcases hx with e | ⟨j, hj, e⟩
    · cases e; exact ⟨by omega, h.f2.hi⟩
    · have := q2 j hj x e; omega
  have I3 : inn w.heap.size W.heap.size a3 n3 h3 := fun x hx => by
    rcases hx with e | ⟨j, hj, e⟩
    · have := O.o2 x e; exact ⟨by omega, h.f3.hi x e⟩
    · have := r4 j hj x e; omega
  have I4 : inn w.heap.size W.heap.size a4 n4 h4 := fun x hx => by
    rcases hx with e | ⟨j, hj, e⟩
    · have := (O.o3 x e).1; exact ⟨by omega, h.f4.hi x e⟩
    · have := p4 j hj x e; omega
  have n2' : ∀ x, ft (some ⟨g2, 0, none⟩) n2 h2 x → x ≠ w.heap.size := fun x hx e => by
    rcases hx with e2 | ⟨j, hj, e2⟩
    · cases e2; omega
    · have := q2 j hj x e2; omega
  have n3' : ∀ x, ft a3 n3 h3 x → x ≠ w.heap.size := fun x hx e => by
    rcases hx with e2 | ⟨j, hj, e2⟩
    · have := O.o2 x e2; omega
    · have := r4 j hj x e2; omega
  have n4' : ∀ x, ft a4 n4 h4 x → x ≠ w.heap.size := fun x hx e => by
    rcases hx with e2 | ⟨j, hj, e2⟩
    · have := (O.o3 x e2).1; omega
    · have := p4 j hj x e2; omega
  have E2 : ∀ x, ft (some ⟨g2, 0, none⟩) n2 h2 x → W'.heap[x]? = W.heap[x]? := fun x hx => oth x (n2' x hx) (I2 x hx).2
  have E3 : ∀ x, ft a3 n3 h3 x → W'.heap[x]? = W.heap[x]? := fun x hx => oth x (n3' x hx) (I3 x hx).2
  have E4 : ∀ x, ft a4 n4 h4 x → W'.heap[x]? = W.heap[x]? := fun x hx => oth x (n4' x hx) (I4 x hx).2
  have Eg : W'.heap[g1]? = W.heap[g1]? := oth g1 (by omega) h.f1.hi
  have b2 : isR8s W (some ⟨g2, 0, none⟩) n2 k2 bx := h.f2.is O.c2
  have b1 : isR3s W (some ⟨g1, 0, none⟩) n1 k1 fs := ⟨h.f1.len, O.c1, fun _ => ⟨g1, 0, rfl, fun j hj => by rw [Nat.zero_add]; exact h.f1.at_ j hj⟩⟩
  rw [← hz] at I2 I3 I4
  have hg1z : g1 < W'.heap.size := by rw [hz]; exact h.f1.hi
  refine ⟨(⟨g1, n1, k1, some ⟨g2, 0, none⟩, n2, k2, h2, a3, n3, k3, h3, a4, n4, k4, h4⟩ : Wh), rfl, fun V hV => ⟨?_, ?_, ?_, ?_⟩, ⟨h.f1.row.up Eg, O.c1, ⟨by simp only; omega, hg1z⟩, x2.same E2, I2, r1.same E3, I3, p1.same E4, I4, h.f1.m, by simp only; omega, by simp only; omega, by simp only; omega⟩, ⟨?_, ?_, ?_, ?_, ?_, ?_⟩, ⟨h.f2.dst, r3, p3⟩⟩
  · exact (b1.same Eg).same (hV g1 (by omega) hg1z)
  · exact (b2.same x2 E2).same (x2.same E2) (fun x hx => hV x (I2 x hx).1 (I2 x hx).2)
  · exact (r2.same r1 E3).same (r1.same E3) (fun x hx => hV x (I3 x hx).1 (I3 x hx).2)
  · exact (p2.same p1 E4).same (p1.same E4) (fun x hx => hV x (I4 x hx).1 (I4 x hx).2)
  · rintro (e | ⟨j, hj, e⟩)
    · have e2 : (some (⟨g2, 0, none⟩ : Addr)) = some ⟨g1, 0, none⟩ := e
      injection e2 with e2
      injection e2 with e2
      omega
    · have := q2 j hj g1 e; omega
  · rintro (e | ⟨j, hj, e⟩)
    · have := O.o2 g1 e; omega
    · have := r4 j hj g1 e; omega
  · rintro (e | ⟨j, hj, e⟩)
    · have := (O.o3 g1 e).1; omega
    · have := p4 j hj g1 e; omega
  · rintro x (e | ⟨j, hj, e⟩) (e' | ⟨j', hj', e'⟩)
    · cases e; have := O.o2 g2 e'; omega
    · cases e; have := r4 j' hj' g2 e'; omega
    · have := q2 j hj x e; have := hU.2.2.1 x e'; omega
    · have := D2 j hj x e; have := r4 j' hj' x e'; omega
  · rintro x (e | ⟨j, hj, e⟩) (e' | ⟨j', hj', e'⟩)
    · cases e; have := (O.o3 g2 e').1; omega
    · cases e; have := p4 j' hj' g2 e'; omega
    · have := q2 j hj x e; have := hU.2.2.2.1 x e'; omega
    · have := D2 j hj x e; have := p4 j' hj' x e'; omega
  · rintro x (e | ⟨j, hj, e⟩) (e' | ⟨j', hj', e'⟩)
    · have := (O.o3 x e').2 x e; omega
    · have := hU.2.2.1 x e; have := p4 j' hj' x e'; omega
    · have := r4 j hj x e; have := hU.2.2.2.1 x e'; omega
    · have := D3 j hj x e; have := p4 j' hj' x e'; omega
end Go.Proofs.YtaamahohdnbpiaaGreat
