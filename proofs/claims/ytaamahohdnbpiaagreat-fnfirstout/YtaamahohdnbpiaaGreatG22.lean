import Derived.Test.YtaamahohdnbpiaaGreatG19
import Derived.Test.YtaamahohdnbpiaaGreatG21
import Derived.Test.YtaamahohdnbpiaaGreatG17
import Derived.Test.YtaamahohdnbpiaaGreatG06
import Derived.Test.YtaamahohdnbpiaaGreatMI
namespace Go.Proofs.YtaamahohdnbpiaaGreat
open Go.RowKit
set_option linter.unusedVariables false
def slSome (s : Sl) : Prop := (∃ g, s.a1 = some ⟨g, 0, none⟩) ∧ (∃ g, s.a2 = some ⟨g, 0, none⟩)
theorem wrHo.some {B T : Nat} {W : World} {s : Sl} (h : wrHo B T W s) : slSome s := by
  obtain ⟨g1, g2, g3, g4, e, _⟩ := h.e
  rw [e]
  exact ⟨⟨g1, rfl⟩, ⟨g2, rfl⟩⟩
def bestH (H : Ho) (r : Int) : Prop := (okHo H ∧ bestR H.bx r) ∨ (¬ okHo H ∧ r = -1)
theorem okHo.n2 {H : Ho} (h : okHo H) : H.bx.length ≤ 8 := by
  have h1 := of_decide_eq_true h.cf
  have h2 := h.nb
  omega
theorem lvS.best {w0 : World} {P mb : Nat} {L : List Value} {gf n1 kf : Nat} {fs : List R3} {gb n2 kb : Nat} {bx : List R8} {hs : Nat → Hd} {gr r1 : Nat} {ff : List R5} {gq r3 : Nat} {qu : List R8} {k : Nat} {W : World} {st : Int} (h : lvS Unit w0 P mb L gf n1 kf fs gb n2 kb bx hs gr r1 ff gq r3 qu k W) (h5 : L[5]? = some (.slice (some ⟨gb, 0, none⟩) n2 kb)) (hn : n2 ≤ 8) (hok : okBxs st bx) :
    Calls Tryz.prog 62 #[.pointer (some ⟨P, 0, none⟩)] W fun o w' => ∃ r : Int, o = .returned (.int .i64 r) ∧ bestR bx r ∧ Below w0.heap.size w0 w' :=
  (best_any W P (some ⟨gb, 0, none⟩) n2 kb bx st (h.p.cell 5 _ h5) ((h.x.k W rfl h.b).1.is (h.x.k W rfl h.b).2) hn hok).mono (by rintro o w' ⟨r, rfl, hr, hb⟩; exact ⟨r, rfl, hr, h.b.trans (hb.mono h.b.size)⟩)
theorem open_best (w : World) (H : Ho) (s : Sl) (h : isHo w H s) (hs : slSome s) (hok : okHo H) (hm : H.fs.length ≤ 1048576) (hbd : ∀ j (h : j < H.bx.length), H.bx[j].l.length ≤ 1048576) :
    Calls Tryz.prog 61 #[.agg (hoL H s).toArray] w fun o w' => ∃ P, o = .returned (.pointer (some ⟨P, 0, none⟩)) ∧ Below w.heap.size w w' ∧ Calls Tryz.prog 62 #[.pointer (some ⟨P, 0, none⟩)] w' fun o w2 => ∃ r : Int, o = .returned (.int .i64 r) ∧ bestR H.bx r ∧ Below w.heap.size w w2 := by
  obtain ⟨c0, c1, c2, c3, fs, bx, ff, qu, lo, st⟩ := H
  obtain ⟨a1, n1, k1, a2, n2, k2, a3, n3, k3, a4, n4, k4⟩ := s
  obtain ⟨⟨g1, e1⟩, ⟨g2, e2⟩⟩ := hs
  simp only [] at e1 e2
  subst e1 e2
  have hcf := of_decide_eq_true hok.cf
  have hnf := hok.nf
  have hnq := hok.nq
  have l1 := h.fs.len
  have l2 := h.bx.len
  have l3 := h.ff.len
  have l4 := h.qu.len
  simp only [] at hcf hnf hnq l1 l2 l3 l4 hm hbd
  have hn2 := hok.n2
  simp only [] at hn2
  obtain ⟨r1, hr1⟩ : ∃ r1 : Nat, c1 = (r1 : Int) := ⟨c1.toNat, by omega⟩
  obtain ⟨r3, hr3⟩ : ∃ r3 : Nat, c3 = (r3 : Int) := ⟨c3.toNat, by omega⟩
  subst hr1 hr3
  refine (openHost_any Unit w c0 c2 r1 r3 fs bx ff qu lo st g1 n1 k1 g2 0 n2 k2 a3 n3 k3 a4 n4 k4 h.fs h.bx h.ff h.qu (by omega) (by omega) (by omega) (by omega) hok.bx hbd).mono ?_
  rintro o w' ⟨P, mb, gf, kf, gb, kb, hs', gr, gq, rfl, hl⟩
  exact ⟨P, rfl, hl.b, hl.best rfl (by omega) hok.bx⟩
set_option maxHeartbeats 4000000 in
set_option maxRecDepth 20000 in
theorem implBest_any (w : World) (H : Ho) (s : Sl) (h : isHo w H s) (hs : slSome s) (hn : H.le 1048576) :
    Calls Tryz.prog 17 #[.agg (hoL H s).toArray] w fun o w' => ∃ r, o = .returned (.int .i64 r) ∧ bestH H r ∧ Below w.heap.size w w' := by
  have H0 : Hid (obS w H s (w.alloc (.cells (hoL H s).toArray 35))) := ⟨blk.new w _ 35, (Below.refl _ _).alloc (Nat.le_refl _) _⟩
  by_cases hok : okHo H
  · have HV : Hid (∀ W, Below w.heap.size w W → Calls Tryz.prog 60 #[.agg (hoL H s).toArray] W fun o w' => o = .returned (.bool true) ∧ Below W.heap.size W w') := fun W hW => (validHost_any W H s (h.below hW) hn).mono (by rintro o w' ⟨⟨b, rfl, hb⟩, h2⟩; rw [hb.2 hok]; exact ⟨rfl, h2⟩)
    have HB : Hid (∀ W, Below w.heap.size w W → Calls Tryz.prog 61 #[.agg (hoL H s).toArray] W fun o w' => ∃ P, o = .returned (.pointer (some ⟨P, 0, none⟩)) ∧ Below W.heap.size W w' ∧ Calls Tryz.prog 62 #[.pointer (some ⟨P, 0, none⟩)] w' fun o w2 => ∃ r : Int, o = .returned (.int .i64 r) ∧ bestR H.bx r ∧ Below W.heap.size W w2) := fun W hW => open_best W H s (h.below hW) hs hok hn.fs hn.bd
    have HOK : Hid (okHo H) := hok
    clear h hn hok hs
    go_enter Tryz.func17, Tryz.ntmps17
    go_wp2_with (first
      | (refine wpList_load_mid (P := Tryz.prog) rfl 35 _ rfl w.heap.size 0 rfl _ _ H0.out.p.load Tryz.underlying35 rfl (sz41L H s) ?_)
      | (go_at_call 60; refine (HV.out _ H0.out.b).mono ?_; rintro o w1 ⟨rfl, hb1⟩; have H1 : Hid (obS w H s w1) := H0.out.below hb1; clear H0 hb1)
      | (refine wpList_load_mid (P := Tryz.prog) rfl 35 _ rfl w.heap.size 0 rfl _ _ H1.out.p.load Tryz.underlying35 rfl (sz41L H s) ?_)
      | (go_at_call 61; refine (HB.out _ H1.out.b).mono ?_; rintro o w2 ⟨P, rfl, hb2, hc2⟩; have HC2 : Hid (Calls Tryz.prog 62 #[.pointer (some ⟨P, 0, none⟩)] w2 fun o w3 => ∃ r : Int, o = .returned (.int .i64 r) ∧ bestR H.bx r ∧ Below w1.heap.size w1 w3) := hc2; clear hc2 hb2)
      | (go_at_call 62; refine (Calls.mono HC2.out) ?_; rintro o w3 ⟨r, rfl, hr, hb3⟩; have H2 : Hid (bestR H.bx r ∧ Below w.heap.size w w3) := ⟨hr, H1.out.b.trans (hb3.mono H1.out.b.size)⟩; clear hr hb3))
    go_ret
    exact ⟨r, rfl, Or.inl ⟨HOK.out, H2.out.1⟩, H2.out.2⟩
  · have HV : Hid (∀ W, Below w.heap.size w W → Calls Tryz.prog 60 #[.agg (hoL H s).toArray] W fun o w' => o = .returned (.bool false) ∧ Below W.heap.size W w') := fun W hW => (validHost_any W H s (h.below hW) hn).mono (by rintro o w' ⟨⟨b, rfl, hb⟩, h2⟩; cases b; exact ⟨rfl, h2⟩; exact absurd (hb.1 rfl) hok)
    have HOK : Hid (¬ okHo H) := hok
    clear h hn hok hs
    go_enter Tryz.func17, Tryz.ntmps17
    go_wp2_with (first
      | (refine wpList_load_mid (P := Tryz.prog) rfl 35 _ rfl w.heap.size 0 rfl _ _ H0.out.p.load Tryz.underlying35 rfl (sz41L H s) ?_)
      | (go_at_call 60; refine (HV.out _ H0.out.b).mono ?_; rintro o w1 ⟨rfl, hb1⟩; have H1 : Hid (obS w H s w1) := H0.out.below hb1; clear H0 hb1))
    go_ret
    exact ⟨-1, rfl, Or.inr ⟨HOK.out, rfl⟩, H1.out.b⟩
end Go.Proofs.YtaamahohdnbpiaaGreat
namespace Go.Proofs.YtaamahohdnbpiaaGreat
open Go.RowKit
set_option linter.unusedVariables false
theorem isBytes.typed {W : World} {a : Option Addr} {n cap : Nat} {l : List Nat} (h : isBytes W a n cap l) (p : Addr) (v v' : Value) (hp : W.cell? p = some v) (hv : ∀ x, v ≠ .int .u8 x) : isBytes (W.setCell p v') a n cap l := by
  refine ⟨h.len, h.cap, h.small, fun hne => ?_⟩
  obtain ⟨g, off, e, hc⟩ := h.cells hne
  refine ⟨g, off, e, fun j hj => ?_⟩
  rw [World.cell?_setCell_other _ _ _ _ (by
    intro e2
    have := hc j hj
    rw [← e2, hp] at this
    injection this with this
    exact hv _ this)]
  exact hc j hj
def onW (b : R8) : Prop := b.x = 2 ∨ b.x = 3
def bsy (bx : List R8) (r : Int) : Prop := (∃ (k : Nat) (h : k < bx.length), onW bx[k] ∧ (∀ j (hj : j < bx.length), j < k → ¬ onW bx[j]) ∧ r = (k : Int)) ∨ ((∀ k (h : k < bx.length), ¬ onW bx[k]) ∧ r = -1)
theorem bsy_neg {bx : List R8} {r : Int} (h : bsy bx r) : r < 0 ↔ ∀ k (h : k < bx.length), ¬ onW bx[k] := by
  rcases h with ⟨k, hk, h1, _, rfl⟩ | ⟨h1, rfl⟩
  · exact ⟨fun e => by omega, fun e => absurd h1 (e k hk)⟩
  · exact ⟨fun _ => h1, fun _ => by omega⟩
end Go.Proofs.YtaamahohdnbpiaaGreat
namespace Go.Proofs.YtaamahohdnbpiaaGreat
open Go.RowKit
set_option linter.unusedVariables false
def takeB (bx : List R8) (i : Int) : List R8 := if h : 0 ≤ i ∧ i < (bx.length : Int) then (if (bx[i.toNat]'(by omega)).x = 1 ∧ (∀ b ∈ bx, ¬ (b.x = 2 ∨ b.x = 3)) then bx.set i.toNat { (bx[i.toNat]'(by omega)) with x := 2 } else bx) else bx
def takeHo (H : Ho) (i : Int) : Ho := { H with bx := takeB H.bx i }
theorem takeB_out {bx : List R8} {i : Int} (h : i < 0 ∨ (bx.length : Int) ≤ i) : takeB bx i = bx := by unfold takeB; rw [dif_neg (by omega)]
theorem takeB_no {bx : List R8} {k : Nat} (hk : k < bx.length) (h : bx[k].x ≠ 1) : takeB bx (k : Int) = bx := by
  unfold takeB
  rw [dif_pos (by omega), if_neg]
  rintro ⟨h1, _⟩
  simp only [Int.toNat_natCast] at h1
  exact h h1
theorem takeB_busy {bx : List R8} {i : Int} {r : Int} (h : bsy bx r) (hr : 0 ≤ r) : takeB bx i = bx := by
  unfold takeB
  by_cases hi : 0 ≤ i ∧ i < (bx.length : Int)
  · rw [dif_pos hi, if_neg]
    rintro ⟨_, h2⟩
    have := (bsy_neg h).2 (fun k hk => h2 _ (List.getElem_mem hk))
    omega
  · rw [dif_neg hi]
theorem takeB_yes {bx : List R8} {k : Nat} (hk : k < bx.length) (h : bx[k].x = 1) {r : Int} (hb : bsy bx r) (hr : r < 0) : takeB bx (k : Int) = bx.set k { bx[k] with x := 2 } := by
  unfold takeB
  rw [dif_pos (by omega), if_pos]
  · simp
  · refine ⟨by simpa using h, fun b hbm => ?_⟩
    obtain ⟨j, hj, rfl⟩ := List.getElem_of_mem hbm
    exact (bsy_neg hb).1 hr j hj
theorem takeB_len (bx : List R8) (i : Int) : (takeB bx i).length = bx.length := by
  unfold takeB
  split
  · split
    · simp
    · rfl
  · rfl
theorem takeB_l (bx : List R8) (i : Int) (j : Nat) (h : j < (takeB bx i).length) (h' : j < bx.length) : (takeB bx i)[j].l = bx[j].l := by
  unfold takeB
  split
  · split
    · simp only [List.getElem_set]
      split
      · rename_i e; subst e; rfl
      · rfl
    · rfl
  · rfl
theorem isR8s.setX {W : World} {g n cap : Nat} {bx : List R8} (h : isR8s W (some ⟨g, 0, none⟩) n cap bx) (k : Nat) (hk : k < bx.length) (v : Int) : isR8s (W.setCell ⟨g, k * 8, none⟩ (.int .i64 v)) (some ⟨g, 0, none⟩) n cap (bx.set k { bx[k] with x := v }) := by
  have hc : ∀ j (h : j < bx.length), ∃ ao m c, at8 W g (j * 8) bx[j] ao m c := by
    obtain ⟨g', off, e, hc⟩ := h.cells (by intro e; subst e; cases hk)
    cases e
    intro j hj
    have := hc j hj
    rw [Nat.zero_add] at this
    exact this
  obtain ⟨_, _, _, hk0⟩ := hc k hk
  refine ⟨by simpa using h.len, h.cap, fun _ => ⟨g, 0, rfl, fun j hj => ?_⟩⟩
  have hj' : j < bx.length := by simpa using hj
  obtain ⟨ao, m, c, q⟩ := hc j hj'
  refine ⟨ao, m, c, ?_⟩
  rw [Nat.zero_add]
  have ot : ∀ t, j * 8 + t ≠ k * 8 → (W.setCell ⟨g, k * 8, none⟩ (.int .i64 v)).cell? ⟨g, j * 8 + t, none⟩ = W.cell? ⟨g, j * 8 + t, none⟩ := fun t ht => World.cell?_setCell_other _ _ _ _ (by intro e; simp at e <;> omega)
  have od := q.dat.typed ⟨g, k * 8, none⟩ _ (.int .i64 v) hk0.c0 (by intro x e; cases e)
  by_cases e : j = k
  · subst e
    simp only [List.getElem_set_self]
    exact ⟨World.cell?_setCell_same _ _ _ hk0.c0, (ot 1 (by omega)).trans q.c1, (ot 2 (by omega)).trans q.c2, (ot 3 (by omega)).trans q.c3, (ot 4 (by omega)).trans q.c4, (ot 5 (by omega)).trans q.c5, (ot 6 (by omega)).trans q.c6, (ot 7 (by omega)).trans q.cs, od⟩
  · rw [List.getElem_set_ne (by omega)]
    exact ⟨(ot 0 (by omega)).trans q.c0, (ot 1 (by omega)).trans q.c1, (ot 2 (by omega)).trans q.c2, (ot 3 (by omega)).trans q.c3, (ot 4 (by omega)).trans q.c4, (ot 5 (by omega)).trans q.c5, (ot 6 (by omega)).trans q.c6, (ot 7 (by omega)).trans q.cs, od⟩
theorem isR8s.setAt {W : World} {a : Option Addr} {n cap : Nat} {bx : List R8} (h : isR8s W a n cap bx) (p : Addr) (x v : Int) (hp : W.cell? p = some (.int .i64 x)) (hb : ∀ g off, a = some ⟨g, off, none⟩ → g ≠ p.block) : isR8s (W.setCell p (.int .i64 v)) a n cap bx := by
  refine ⟨h.len, h.cap, fun hne => ?_⟩
  obtain ⟨g, off, e, hc⟩ := h.cells hne
  refine ⟨g, off, e, fun j hj => ?_⟩
  obtain ⟨ao, m, c, q⟩ := hc j hj
  have hg := heap_setCell_other W p g (.int .i64 v) (hb g off e)
  exact ⟨ao, m, c, cell_up q.c0 hg, cell_up q.c1 hg, cell_up q.c2 hg, cell_up q.c3 hg, cell_up q.c4 hg, cell_up q.c5 hg, cell_up q.c6 hg, cell_up q.cs hg, q.dat.typed p _ _ hp (by intro y e; cases e)⟩
theorem isR5s.setAt {W : World} {a : Option Addr} {n cap : Nat} {bx : List R5} (h : isR5s W a n cap bx) (p : Addr) (x v : Int) (hp : W.cell? p = some (.int .i64 x)) (hb : ∀ g off, a = some ⟨g, off, none⟩ → g ≠ p.block) : isR5s (W.setCell p (.int .i64 v)) a n cap bx := by
  refine ⟨h.len, h.cap, fun hne => ?_⟩
  obtain ⟨g, off, e, hc⟩ := h.cells hne
  refine ⟨g, off, e, fun j hj => ?_⟩
  obtain ⟨ao, m, c, q⟩ := hc j hj
  have hg := heap_setCell_other W p g (.int .i64 v) (hb g off e)
  exact ⟨ao, m, c, cell_up q.c0 hg, cell_up q.c1 hg, cell_up q.c2 hg, cell_up q.c3 hg, cell_up q.cs hg, q.dat.typed p _ _ hp (by intro y e; cases e)⟩
theorem isR3s.setAt {W : World} {a : Option Addr} {n cap : Nat} {bx : List R3} (h : isR3s W a n cap bx) (p : Addr) (x v : Int) (hp : W.cell? p = some (.int .i64 x)) : isR3s (W.setCell p (.int .i64 v)) a n cap bx := by
  refine ⟨h.len, h.cap, fun hne => ?_⟩
  obtain ⟨g, off, e, hc⟩ := h.cells hne
  refine ⟨g, off, e, fun j hj => ?_⟩
  have q := hc j hj
  have ot : ∀ (t : Nat) (u : Value), W.cell? ⟨g, t, none⟩ = some u → (∀ y, u ≠ .int .i64 y) → (W.setCell p (.int .i64 v)).cell? ⟨g, t, none⟩ = some u := fun t u hu hn => by
    rw [World.cell?_setCell_other _ _ _ _ (by intro e2; rw [← e2, hp] at hu; injection hu with hu; exact hn _ hu.symm)]
    exact hu
  exact ⟨ot _ _ q.c0 (by intro y e; cases e), ot _ _ q.c1 (by intro y e; cases e), ot _ _ q.c2 (by intro y e; cases e)⟩
theorem isHo.setX {W : World} {H : Ho} {s : Sl} (h : isHo W H s) {g : Nat} (ha : s.a2 = some ⟨g, 0, none⟩) (hne : ∀ x, s.a3 = some ⟨x, 0, none⟩ ∨ s.a4 = some ⟨x, 0, none⟩ → g ≠ x) (ha3 : ∃ x, s.a3 = some ⟨x, 0, none⟩) (ha4 : ∃ x, s.a4 = some ⟨x, 0, none⟩) (k : Nat) (hk : k < H.bx.length) (v : Int) : isHo (W.setCell ⟨g, k * 8, none⟩ (.int .i64 v)) { H with bx := H.bx.set k { H.bx[k] with x := v } } s := by
  have hb := h.bx
  rw [ha] at hb
  obtain ⟨g', off, e, hc⟩ := hb.cells (by intro e; rw [e] at hk; cases hk)
  cases e
  obtain ⟨_, _, _, q⟩ := hc k hk
  have q0 := q.c0
  rw [Nat.zero_add] at q0
  obtain ⟨x3, e3⟩ := ha3
  obtain ⟨x4, e4⟩ := ha4
  refine ⟨h.fs.setAt _ _ _ q0, ?_, h.ff.setAt _ _ _ q0 (fun g2 off e => ?_), h.qu.setAt _ _ _ q0 (fun g2 off e => ?_)⟩
  · rw [ha]
    exact hb.setX k hk v
  · rw [e3] at e; cases e
    exact fun e5 => hne x3 (Or.inl e3) e5.symm
  · rw [e4] at e; cases e
    exact fun e5 => hne x4 (Or.inr e4) e5.symm
end Go.Proofs.YtaamahohdnbpiaaGreat
namespace Go.Proofs.YtaamahohdnbpiaaGreat
open Go.RowKit
set_option linter.unusedVariables false
def quP (c3 : Int) (qu : List R8) (e : R8) : List R8 := if (qu.length : Int) < c3 then qu ++ [e] else qu
def loP (c3 : Int) (qu : List R8) (lo : Int) : Int := if (qu.length : Int) < c3 then lo else if lo < 100000 then lo + 1 else lo
def postHo (H : Ho) (e : R8) : Ho := { H with qu := quP H.c3 H.qu e, lo := loP H.c3 H.qu H.lo }
def qSl (s : Sl) (g n k : Nat) : Sl := { s with a4 := some ⟨g, 0, none⟩, n4 := n, k4 := k }
abbrev ev3 (x y z : Int) : R8 := ⟨x, y, z, false, 0, false, 0, []⟩
def fstB (p : R8 → Prop) (bx : List R8) (r : Int) : Prop := (∃ (k : Nat) (h : k < bx.length), p bx[k] ∧ (∀ j (hj : j < bx.length), j < k → ¬ p bx[j]) ∧ r = (k : Int)) ∨ ((∀ k (h : k < bx.length), ¬ p bx[k]) ∧ r = -1)
theorem fstB.ix {p : R8 → Prop} [DecidablePred p] {bx : List R8} {r : Int} (h : fstB p bx r) : (r = -1 ∧ bx.findIdx (fun b => decide (p b)) = bx.length) ∨ (r = (bx.findIdx (fun b => decide (p b)) : Int) ∧ bx.findIdx (fun b => decide (p b)) < bx.length) := by
  rcases h with ⟨k, hk, h1, h2, rfl⟩ | ⟨h1, rfl⟩
  · right
    have e : bx.findIdx (fun b => decide (p b)) = k := by
      rw [List.findIdx_eq hk]
      exact ⟨by simpa using h1, fun j hj => by simpa using h2 j (by omega) hj⟩
    rw [e]
    exact ⟨rfl, hk⟩
  · left
    refine ⟨rfl, List.findIdx_eq_length.2 fun b hb => ?_⟩
    obtain ⟨j, hj, rfl⟩ := List.getElem_of_mem hb
    simpa using h1 j hj
end Go.Proofs.YtaamahohdnbpiaaGreat
namespace Go.Proofs.YtaamahohdnbpiaaGreat
open Go.RowKit
set_option linter.unusedVariables false
structure dtS (w : World) (H : Ho) (s : Sl) (W : World) : Prop where
  p : blk W w.heap.size (hoL H s) 35
  r : blk W (w.heap.size + 1) Z10 35
  b : Below w.heap.size w W
theorem dtS.below {w : World} {H : Ho} {s : Sl} {W W' : World} (h : dtS w H s W) (hb : Below W.heap.size W W') : dtS w H s W' := ⟨h.p.below hb, h.r.below hb, h.b.trans (hb.mono h.b.size)⟩
theorem dtS.new (w : World) (H : Ho) (s : Sl) : dtS w H s ((w.alloc (.cells (hoL H s).toArray 35)).alloc (.cells Z10.toArray 35)) := by
  refine ⟨(blk.new w _ 35).alloc _, ?_, ((Below.refl _ _).alloc (Nat.le_refl _) _).alloc (by simp) _⟩
  have := blk.new (w.alloc (.cells (hoL H s).toArray 35)) Z10 35
  simpa using this
end Go.Proofs.YtaamahohdnbpiaaGreat
namespace Go.Proofs.YtaamahohdnbpiaaGreat
open Go.RowKit
set_option linter.unusedVariables false

theorem okHo.pos {H : Ho} (h : okHo H) : 1 ≤ H.bx.length := by
  have h1 := of_decide_eq_true h.cf
  have h2 := h.nb
  omega
end Go.Proofs.YtaamahohdnbpiaaGreat
namespace Go.Proofs.YtaamahohdnbpiaaGreat
open Go.RowKit
set_option linter.unusedVariables false
abbrev z8 : R8 := ⟨0, 0, 0, false, 0, false, 0, []⟩
structure bxR (B T g n k : Nat) (bx : List R8) (hs : Nat → Hd) (W : World) : Prop where
  len : n = bx.length
  cap : n ≤ k
  lo : B ≤ g
  hi : g < T
  row : rowF W g (n * 8)
  rng : ∀ j (h : j < bx.length), W.rangeAt g (j * 8) (x8 (bx[j], hs j))
  dat : ∀ j (h : j < bx.length), isBytes W (hs j).1 (hs j).2.1 (hs j).2.2 bx[j].l ∧ (((hs j).1 = none ∧ (hs j).2.1 = 0) ∨ ∃ b, (hs j).1 = some ⟨b, 0, none⟩ ∧ B ≤ b ∧ b < T ∧ b ≠ g)
theorem isBytes.none0 {W W' : World} {a : Option Addr} {n c : Nat} {l : List Nat} (h : isBytes W a n c l) (hn : n = 0) : isBytes W' a n c l := ⟨h.len, h.cap, h.small, fun hne => absurd (List.length_pos_iff.2 hne) (by have := h.len; omega)⟩
theorem bxR.st {B T g n k : Nat} {bx : List R8} {hs : Nat → Hd} {W W' : World} (h : bxR B T g n k bx hs W) (he : ∀ x, B ≤ x → x < T → W'.heap[x]? = W.heap[x]?) : bxR B T g n k bx hs W' :=
  ⟨h.len, h.cap, h.lo, h.hi, h.row.up (he g h.lo h.hi), fun j hj => rangeAt.up (h.rng j hj) (he g h.lo h.hi), fun j hj => by
    obtain ⟨h1, h2⟩ := h.dat j hj
    refine ⟨?_, h2⟩
    rcases h2 with ⟨e1, e2⟩ | ⟨b, e1, e2, e3, _⟩
    · exact h1.none0 e2
    · rw [e1] at h1 ⊢
      exact h1.other (he b e2 e3)⟩
theorem x8_at8 {W : World} {g o : Nat} {b : R8} {h : Hd} (hr : W.rangeAt g o (x8 (b, h))) (hd : isBytes W h.1 h.2.1 h.2.2 b.l) : at8 W g o b h.1 h.2.1 h.2.2 :=
  ⟨hr 0 _ rfl, hr 1 _ rfl, hr 2 _ rfl, hr 3 _ rfl, hr 4 _ rfl, hr 5 _ rfl, hr 6 _ rfl, hr 7 _ rfl, hd⟩
theorem bxR.is {B T g n k : Nat} {bx : List R8} {hs : Nat → Hd} {W : World} (h : bxR B T g n k bx hs W) : isR8s W (some ⟨g, 0, none⟩) n k bx :=
  ⟨h.len, h.cap, fun _ => ⟨g, 0, rfl, fun j hj => ⟨_, _, _, by rw [Nat.zero_add]; exact x8_at8 (h.rng j hj) (h.dat j hj).1⟩⟩⟩
theorem rowQ8.bxR {B T E g n k : Nat} {bx : List R8} {W : World} (h : rowQ8 B T E g n k bx W) : ∃ hs, bxR B T g n k bx hs W := by
  have hi := h.is
  obtain ⟨rs, h2, h3, h4, h5, h6⟩ := h
  have hl := h2.lt
  obtain ⟨g1, c1, e1, q1, q2, q3, q4⟩ := own_slice h2.own (by intro e; cases e)
  rcases ownsRow_split h2.own with ⟨e, _⟩ | ⟨g2, c2, e2, _, _, _, hrf, hrg⟩
  · cases e
  cases e2
  subst h3
  refine ⟨fun j => (rs.map fun p => ((some ⟨p.2.1, 0, none⟩, p.1.l.length, p.2.2) : Hd)).getD j (none, 0, 0), ⟨hi.len, hi.cap, hl.1, h5, by rw [← h4]; exact hrf, fun j hj => ?_, fun j hj => ?_⟩⟩
  · have hj' : j < rs.length := by simpa using hj
    have e : x8 ((rs.map (·.1))[j], (rs.map fun p => ((some ⟨p.2.1, 0, none⟩, p.1.l.length, p.2.2) : Hd)).getD j (none, 0, 0)) = rc8.enc rs[j] := by
      simp [x8, rc8, List.getD, hj']
    rw [e]
    intro t u hu
    have ht : t < 8 := by have := (List.getElem?_eq_some_iff.mp hu).1; simpa [rc8] using this
    have := hrg (j * 8 + t) u (by rw [flat_at rc8.enc 8 (fun _ => rfl) rs j hj' t ht]; exact hu)
    rw [Nat.zero_add] at this
    exact this
  · have hj' : j < rs.length := by simpa using hj
    have hm := List.getElem_mem hj'
    obtain ⟨d1, d2, d3, d4⟩ := h2.dat rs[j] hm
    simp only [List.getElem_map, List.getD, List.getElem?_map, List.getElem?_eq_getElem hj', Option.map_some, Option.getD_some]
    exact ⟨d1, Or.inr ⟨_, rfl, d2, h6 _ hm, d3⟩⟩
theorem bxR.put {B T g n k : Nat} {bx : List R8} {hs : Nat → Hd} {W : World} (h : bxR B T g n k bx hs W) (i : Nat) (hi : i < bx.length) (b : R8) (hd : Hd) (hb : isBytes W hd.1 hd.2.1 hd.2.2 b.l) (hw : (hd.1 = none ∧ hd.2.1 = 0) ∨ ∃ b, hd.1 = some ⟨b, 0, none⟩ ∧ B ≤ b ∧ b < T ∧ b ≠ g) : bxR B T g n k (bx.set i b) (fun j => if j = i then hd else hs j) (setRow W g (i * 8) (x8 (b, hd))) := by
  have hln := h.len
  have oth : ∀ x, x ≠ g → (setRow W g (i * 8) (x8 (b, hd))).heap[x]? = W.heap[x]? := fun x hx => setRow_block g x hx _ _ _
  have dk : ∀ (hd' : Hd) (l : List Nat), isBytes W hd'.1 hd'.2.1 hd'.2.2 l → ((hd'.1 = none ∧ hd'.2.1 = 0) ∨ ∃ b, hd'.1 = some ⟨b, 0, none⟩ ∧ B ≤ b ∧ b < T ∧ b ≠ g) → isBytes (setRow W g (i * 8) (x8 (b, hd))) hd'.1 hd'.2.1 hd'.2.2 l := by
    intro hd' l h1 h2
    rcases h2 with ⟨e1, e2⟩ | ⟨c, e1, e2, e3, e4⟩
    · exact h1.none0 e2
    · rw [e1] at h1 ⊢
      exact h1.other (oth c e4)
  refine ⟨by rw [List.length_set]; exact h.len, h.cap, h.lo, h.hi, h.row.setRow _ _ _ _, fun j hj => ?_, fun j hj => ?_⟩
  · have hj' : j < bx.length := by simpa using hj
    by_cases e : j = i
    · subst e
      rw [List.getElem_set_self, if_pos rfl]
      intro t u hu
      have ht : t < (x8 (b, hd)).length := (List.getElem?_eq_some_iff.mp hu).1
      have ht8 : t < 8 := by simpa [x8] using ht
      rw [setRow_at g _ _ _ t ht ((h.row (j * 8 + t) (by omega)).1)]
      rw [List.getElem?_eq_getElem ht] at hu
      exact hu
    · rw [List.getElem_set_ne (fun x => e x.symm), if_neg e]
      intro t u hu
      have ht : t < 8 := by have := (List.getElem?_eq_some_iff.mp hu).1; simpa [x8] using this
      rw [setRow_other g _ _ _ _ (by simp [x8]; omega)]
      exact h.rng j hj' t u hu
  · have hj' : j < bx.length := by simpa using hj
    by_cases e : j = i
    · subst e
      rw [List.getElem_set_self, if_pos rfl]
      exact ⟨dk hd b.l hb hw, hw⟩
    · rw [List.getElem_set_ne (fun x => e x.symm), if_neg e]
      exact ⟨dk _ _ (h.dat j hj').1 (h.dat j hj').2, (h.dat j hj').2⟩
theorem bxR.there {B T g n k : Nat} {bx : List R8} {hs : Nat → Hd} {W : World} (h : bxR B T g n k bx hs W) (i : Nat) (hi : i < bx.length) : W.there g (i * 8) 8 := fun j hj => by
  obtain ⟨⟨v, hv⟩, hf⟩ := h.row (i * 8 + j) (by have := h.len; omega)
  exact ⟨by rw [hv]; rfl, hf⟩
theorem bxR.setX {B T g n k : Nat} {bx : List R8} {hs : Nat → Hd} {W : World} (h : bxR B T g n k bx hs W) (i : Nat) (hi : i < bx.length) (v : Int) : bxR B T g n k (bx.set i { bx[i] with x := v }) hs (W.setCell ⟨g, i * 8, none⟩ (.int .i64 v)) := by
  have oth : ∀ x, x ≠ g → (W.setCell ⟨g, i * 8, none⟩ (.int .i64 v)).heap[x]? = W.heap[x]? := fun x hx => heap_setCell_other W ⟨g, i * 8, none⟩ x _ hx
  refine ⟨by rw [List.length_set]; exact h.len, h.cap, h.lo, h.hi, h.row.setCell _ _, fun j hj => ?_, fun j hj => ?_⟩
  · have hj' : j < bx.length := by simpa using hj
    have ot : ∀ t, j * 8 + t ≠ i * 8 → (W.setCell ⟨g, i * 8, none⟩ (.int .i64 v)).cell? ⟨g, j * 8 + t, none⟩ = W.cell? ⟨g, j * 8 + t, none⟩ := fun t ht => World.cell?_setCell_other _ _ _ _ (by intro e; simp at e <;> omega)
    intro t u hu
    have ht : t < 8 := by have := (List.getElem?_eq_some_iff.mp hu).1; simpa [x8] using this
    by_cases e : j = i
    · subst e
      rw [List.getElem_set_self] at hu
      by_cases et : t = 0
      · subst et
        have e0 : u = .int .i64 v := by simpa [x8] using hu.symm
        subst e0
        obtain ⟨⟨w0, hw0⟩, _⟩ := h.row (j * 8) (by have := h.len; omega)
        exact World.cell?_setCell_same _ _ _ hw0
      · rw [ot t (by omega)]
        refine h.rng j hj' t u ?_
        rw [← hu]
        match t, ht, et with
        | 1, _, _ | 2, _, _ | 3, _, _ | 4, _, _ | 5, _, _ | 6, _, _ | 7, _, _ => rfl
    · rw [List.getElem_set_ne (fun x => e x.symm)] at hu
      rw [ot t (by omega)]
      exact h.rng j hj' t u hu
  · have hj' : j < bx.length := by simpa using hj
    have e : (bx.set i { bx[i] with x := v })[j].l = bx[j].l := by
      by_cases e : j = i
      · subst e
        rw [List.getElem_set_self]
      · rw [List.getElem_set_ne (fun x => e x.symm)]
    rw [e]
    obtain ⟨h1, h2⟩ := h.dat j hj'
    refine ⟨?_, h2⟩
    rcases h2 with ⟨e1, e2⟩ | ⟨b, e1, e2, e3, e4⟩
    · exact h1.none0 e2
    · rw [e1] at h1 ⊢
      exact h1.other (oth b e4)
structure spS (B T0 T1 T2 : Nat) (H : Ho) (s : Sl) (W : World) : Prop where
  f : ∃ gf, s.a1 = some ⟨gf, 0, none⟩ ∧ B ≤ gf ∧ gf < T0 ∧ isR3s W (some ⟨gf, 0, none⟩) s.n1 s.k1 H.fs
  x : ∃ gb hs, s.a2 = some ⟨gb, 0, none⟩ ∧ bxR T0 T1 gb s.n2 s.k2 H.bx hs W
  r : ∃ gq, s.a3 = some ⟨gq, 0, none⟩ ∧ rowQ5 T1 T2 25 gq s.n3 s.k3 H.ff W
  q : ∃ g4, s.a4 = some ⟨g4, 0, none⟩ ∧ rowQ8 T2 W.heap.size 46 g4 s.n4 s.k4 H.qu W
  o : B ≤ T0 ∧ T0 ≤ T1 ∧ T1 ≤ T2 ∧ T2 ≤ W.heap.size
theorem spS.is {B T0 T1 T2 : Nat} {H : Ho} {s : Sl} {W : World} (h : spS B T0 T1 T2 H s W) : isHo W H s := by
  obtain ⟨gf, e1, _, _, h1⟩ := h.f
  obtain ⟨gb, hs, e2, h2⟩ := h.x
  obtain ⟨gq, e3, h3⟩ := h.r
  obtain ⟨g4, e4, h4⟩ := h.q
  exact ⟨by rw [e1]; exact h1, by rw [e2]; exact h2.is, by rw [e3]; exact h3.is, by rw [e4]; exact h4.is⟩
theorem rowQ8.mono {B T T' E g n k : Nat} {bs : List R8} {W : World} (h : rowQ8 B T E g n k bs W) (hT : T ≤ T') : rowQ8 B T' E g n k bs W := by
  obtain ⟨rs, h1, h2, h3, h4, h5⟩ := h
  exact ⟨rs, h1, h2, h3, by omega, fun p hp => Nat.lt_of_lt_of_le (h5 p hp) hT⟩
theorem rowQ8.keep {B T E g n k : Nat} {bs : List R8} {W W' : World} (h : rowQ8 B T E g n k bs W) (he : ∀ x, B ≤ x → x < T → W'.heap[x]? = W.heap[x]?) : rowQ8 B T E g n k bs W' := by
  obtain ⟨rs, h1, h2, h3, h4, h5⟩ := h
  refine ⟨rs, ⟨ownsRow_kept h1.own (he g h1.lt.1 h4), fun p hp => ?_⟩, h2, h3, h4, h5⟩
  obtain ⟨d1, d2, d3, d4⟩ := h1.dat p hp
  have e := he _ d2 (h5 p hp)
  refine ⟨d1.other e, d2, d3, ?_⟩
  rw [Array.getElem?_eq_getElem d4] at e
  exact lt_of_some e
theorem rowQ5.keep {B T E g n k : Nat} {bs : List R5} {W W' : World} (h : rowQ5 B T E g n k bs W) (he : ∀ x, B ≤ x → x < T → W'.heap[x]? = W.heap[x]?) : rowQ5 B T E g n k bs W' := by
  obtain ⟨rs, h1, h2, h3, h4, h5⟩ := h
  refine ⟨rs, ⟨ownsRow_kept h1.own (he g h1.lt.1 h4), fun p hp => ?_⟩, h2, h3, h4, h5⟩
  obtain ⟨d1, d2, d3, d4⟩ := h1.dat p hp
  have e := he _ d2 (h5 p hp)
  refine ⟨d1.other e, d2, d3, ?_⟩
  rw [Array.getElem?_eq_getElem d4] at e
  exact lt_of_some e
theorem spS.st {B T0 T1 T2 : Nat} {H : Ho} {s : Sl} {W W' : World} (h : spS B T0 T1 T2 H s W) (he : ∀ x, B ≤ x → x < W.heap.size → W'.heap[x]? = W.heap[x]?) (hz : W.heap.size ≤ W'.heap.size) : spS B T0 T1 T2 H s W' := by
  obtain ⟨o1, o2, o3, o4⟩ := h.o
  obtain ⟨gf, e1, h1a, h1b, h1⟩ := h.f
  obtain ⟨gb, hs, e2, h2⟩ := h.x
  obtain ⟨gq, e3, h3⟩ := h.r
  obtain ⟨g4, e4, h4⟩ := h.q
  exact ⟨⟨gf, e1, h1a, h1b, h1.same (he gf h1a (by omega))⟩, ⟨gb, hs, e2, h2.st fun x h1 h2 => he x (by omega) (by omega)⟩, ⟨gq, e3, h3.keep fun x h1 h2 => he x (by omega) (by omega)⟩, ⟨g4, e4, (h4.keep fun x h1 h2 => he x (by omega) h2).mono hz⟩, ⟨o1, o2, o3, by omega⟩⟩
theorem spS.below {B T0 T1 T2 : Nat} {H : Ho} {s : Sl} {W W' : World} (h : spS B T0 T1 T2 H s W) (hb : Below W.heap.size W W') : spS B T0 T1 T2 H s W' := h.st (fun x _ hx => hb.block x hx) hb.size
theorem spS.post {B T0 T1 T2 : Nat} {H : Ho} {s : Sl} {W V : World} {e : R8} {g' n' k' : Nat} (h : spS B T0 T1 T2 H s W) (hq : rowQ8 T2 V.heap.size 46 g' n' k' (quP H.c3 H.qu e) V) (he : ∀ q, B ≤ q → q < T2 → V.heap[q]? = W.heap[q]?) (hz : W.heap.size ≤ V.heap.size) : spS B T0 T1 T2 (postHo H e) (qSl s g' n' k') V := by
  obtain ⟨o1, o2, o3, o4⟩ := h.o
  obtain ⟨gf, e1, h1a, h1b, h1⟩ := h.f
  obtain ⟨gb, hs, e2, h2⟩ := h.x
  obtain ⟨gq, e3, h3⟩ := h.r
  exact ⟨⟨gf, e1, h1a, h1b, h1.same (he gf (by omega) (by omega))⟩, ⟨gb, hs, e2, h2.st fun x h1 h2 => he x (by omega) (by omega)⟩, ⟨gq, e3, h3.keep fun x h1 h2 => he x (by omega) (by omega)⟩, ⟨g', rfl, hq⟩, ⟨o1, o2, o3, by omega⟩⟩
theorem spS.box {B T0 T1 T2 gb : Nat} {H : Ho} {s : Sl} {W W' : World} {bx : List R8} {hs : Nat → Hd} (h : spS B T0 T1 T2 H s W) (e2 : s.a2 = some ⟨gb, 0, none⟩) (hx : bxR T0 T1 gb s.n2 s.k2 bx hs W') (he : ∀ q, q ≠ gb → W'.heap[q]? = W.heap[q]?) (hz : W'.heap.size = W.heap.size) : spS B T0 T1 T2 { H with bx := bx } s W' := by
  obtain ⟨o1, o2, o3, o4⟩ := h.o
  obtain ⟨gf, e1, h1a, h1b, h1⟩ := h.f
  obtain ⟨gq, e3, h3⟩ := h.r
  obtain ⟨g4, e4, h4⟩ := h.q
  have := hx.lo
  have := hx.hi
  refine ⟨⟨gf, e1, h1a, h1b, h1.same (he gf (by omega))⟩, ⟨gb, hs, e2, hx⟩, ⟨gq, e3, h3.keep fun x h1 h2 => he x (by omega)⟩, ⟨g4, e4, ?_⟩, ⟨o1, o2, o3, by omega⟩⟩
  rw [hz]
  exact h4.keep fun x h1 h2 => he x (by omega)
end Go.Proofs.YtaamahohdnbpiaaGreat
namespace Go.Proofs.YtaamahohdnbpiaaGreat
open Go.RowKit
set_option linter.unusedVariables false
def onWb (b : R8) : Bool := b.x == 2 || b.x == 3
def wireIx (bx : List R8) : Nat := bx.findIdx onWb
theorem bsy.ix {bx : List R8} {r : Int} (h : bsy bx r) : (r = -1 ∧ ¬ wireIx bx < bx.length) ∨ (r = (wireIx bx : Int) ∧ wireIx bx < bx.length) := by
  have e : ∀ b, onWb b = true ↔ onW b := fun b => by simp [onWb, onW]
  rcases h with ⟨k, hk, h1, h2, rfl⟩ | ⟨h1, rfl⟩
  · right
    have e : wireIx bx = k := by
      unfold wireIx
      rw [List.findIdx_eq hk]
      refine ⟨(e _).2 h1, fun j hj => ?_⟩
      have := h2 j (by omega) hj
      rw [← e] at this
      simpa using this
    rw [e]
    exact ⟨rfl, hk⟩
  · left
    refine ⟨rfl, ?_⟩
    have : wireIx bx = bx.length := List.findIdx_eq_length.2 fun b hb => by
      obtain ⟨j, hj, rfl⟩ := List.getElem_of_mem hb
      have := h1 j hj
      rw [← e] at this
      simpa using this
    omega
theorem wireIx_on {bx : List R8} (h : wireIx bx < bx.length) : bx[wireIx bx].x = 2 ∨ bx[wireIx bx].x = 3 := by
  have e : onWb (bx[wireIx bx]) = true := List.findIdx_getElem (xs := bx) (p := onWb) (w := h)
  generalize bx[wireIx bx] = b at *
  simpa [onWb] using e
def freeHo (H : Ho) (k : Nat) : Ho := { H with bx := H.bx.set k z8 }
def stHo (H : Ho) (k : Nat) (v : Int) : Ho := if h : k < H.bx.length then { H with bx := H.bx.set k { H.bx[k] with x := v } } else H
def relHo (H : Ho) (sent : Bool) : Ho :=
  if h : wireIx H.bx < H.bx.length then
    (if sent = true then postHo (freeHo H (wireIx H.bx)) ⟨1, H.bx[wireIx H.bx].y, 0, H.bx[wireIx H.bx].e, H.bx[wireIx H.bx].i, H.bx[wireIx H.bx].r, H.bx[wireIx H.bx].d, H.bx[wireIx H.bx].l⟩
     else if H.bx[wireIx H.bx].x = 3 then postHo (freeHo H (wireIx H.bx)) (ev3 6 H.bx[wireIx H.bx].y 0)
     else stHo H (wireIx H.bx) 1)
  else H
theorem relHo_none {H : Ho} {sent : Bool} (h : ¬ wireIx H.bx < H.bx.length) : relHo H sent = H := by unfold relHo; rw [dif_neg h]
structure reS (w : World) (L : List Value) (W : World) : Prop where
  p : blk W w.heap.size L 35
  r : blk W (w.heap.size + 1) Z10 35
theorem reS.new (w : World) (L : List Value) : reS w L ((w.alloc (.cells L.toArray 35)).alloc (.cells Z10.toArray 35)) := by
  refine ⟨(blk.new w _ 35).alloc _, ?_⟩
  have := blk.new (w.alloc (.cells L.toArray 35)) Z10 35
  simpa using this
theorem reS.below {w : World} {L : List Value} {W W' : World} (h : reS w L W) (hb : Below W.heap.size W W') : reS w L W' := ⟨h.p.below hb, h.r.below hb⟩
theorem reS.kept {w : World} {L : List Value} {W W' : World} (h : reS w L W) (hp : W'.heap[w.heap.size]? = W.heap[w.heap.size]?) (hr : W'.heap[w.heap.size + 1]? = W.heap[w.heap.size + 1]?) : reS w L W' := ⟨h.p.kept hp, h.r.kept hr⟩
abbrev Z8 : List Value := [.int .i64 0, .int .i64 0, .int .i64 0, .bool false, .int .u32 0, .bool false, .int .i64 0, .slice none 0 0]
theorem none8 (W : World) : isBytes W none 0 0 [] := ⟨rfl, Nat.le_refl _, fun q hq => (by cases hq), fun h => absurd rfl h⟩
end Go.Proofs.YtaamahohdnbpiaaGreat
namespace Go.Proofs.YtaamahohdnbpiaaGreat
open Go.RowKit
set_option linter.unusedVariables false
set_option maxHeartbeats 4000000 in
set_option maxRecDepth 20000 in
theorem indexBox_any (w : World) (a : Option Addr) (n cap : Nat) (bs : List R8) (h : isR8s w a n cap bs) (hn : n ≤ 1048576) :
    Calls Tryz.prog 164 #[.slice a n cap, .func (.func 167) #[] #[]] w fun o w' => ∃ z : Int, o = .returned (.int .i64 z) ∧ bsy bs z ∧ Below w.heap.size w w' := by
  have hlen := h.len
  have hcp := h.cap
  by_cases hl : bs = []
  · subst hl
    have hn0 : n = 0 := hlen
    subst hn0
    clear hlen h
    go_enter Tryz.func164, Tryz.ntmps164
    go_wp2
    go_loopw [8] (fun i wr => i = .int .i64 0 ∧ wr = w) (fun _ _ => 0)
    case atStart => exact ⟨rfl, rfl⟩
    case round =>
      obtain ⟨rfl, rfl⟩ := hrel
      go_wp2
      go_ret
      exact ⟨-1, rfl, Or.inr ⟨fun k hk => (by cases hk), rfl⟩, Below.refl _ _⟩
  · obtain ⟨g, off, rfl, hc⟩ := h.cells hl
    have HL : Hid (n = bs.length) := hlen
    have HC : Hid (∀ j (h : j < bs.length), ∃ ao m c, at8 w g (off + j * 8) bs[j] ao m c) := hc
    clear h hlen hc
    go_enter Tryz.func164, Tryz.ntmps164
    go_wp2
    go_loopw [8] (fun i wr => ∃ k : Nat, k ≤ n ∧ i = .int .i64 (k : Int) ∧ (∀ j (hj : j < bs.length), j < k → ¬ onW bs[j]) ∧ Below w.heap.size w wr) (fun i _ => n - (intOf i).toNat)
    case atStart => exact ⟨0, Nat.zero_le _, rfl, fun j hj h => absurd h (Nat.not_lt_zero _), Below.refl _ _⟩
    case round =>
      obtain ⟨k, hk, rfl, hdone, hb⟩ := hrel
      by_cases hlt : k < n
      · have hkl : k < bs.length := by have := HL.out; omega
        obtain ⟨ao, m, c, hx⟩ := HC.out k hkl
        have hx' := hx.below hb
        have HRG := hx'.range
        have HW : Hid (Calls Tryz.prog 167 #[bxV bs[k].x bs[k].y bs[k].z bs[k].e bs[k].i bs[k].r bs[k].d ao m c] wr fun o w' => o = .returned (.bool (bs[k].x == 2 || bs[k].x == 3)) ∧ Below wr.heap.size wr w') := isOnWire_any wr bs[k] ao m c
        have HB : Hid (Below w.heap.size w wr) := hb
        have HD : Hid (∀ j (hj : j < bs.length), j < k → ¬ onW bs[j]) := hdone
        clear hx hx' hb hdone
        have HON : Hid ((bs[k].x == 2 || bs[k].x == 3) = true ↔ onW bs[k]) := by show _ ↔ _; unfold onW; simp
        generalize (bs[k].x == 2 || bs[k].x == 3) = q at *
        have HRG : Hid (wr.rangeAt g (off + k * 8) [.int .i64 bs[k].x, .int .i64 bs[k].y, .int .i64 bs[k].z, .bool bs[k].e, .int .u32 (bs[k].i : Int), .bool bs[k].r, .int .i64 bs[k].d, .slice ao m c]) := HRG
        cases q
        · have HN : Hid (∀ j (hj : j < bs.length), j < k + 1 → ¬ onW bs[j]) := fun j hj hjk => by
            by_cases e : j = k
            · subst e; exact fun h => absurd (HON.out.2 h) (by simp)
            · exact HD.out j hj (by omega)
          clear HON
          generalize bs[k].x = x0 at *
          generalize bs[k].y = y0 at *
          generalize bs[k].z = z0 at *
          generalize bs[k].e = e0 at *
          generalize bs[k].i = i0 at *
          generalize bs[k].r = r0 at *
          generalize bs[k].d = d0 at *
          go_wp2_with (first
            | (refine wpList_load_mid (P := Tryz.prog) rfl 97 _ rfl g (off + k * 8) rfl _ _ HRG.out Tryz.underlying97 rfl sz95 ?_)
            | (go_at_call 167; refine HW.out.mono ?_; rintro o w5 ⟨rfl, hb5⟩))
          go_roundw
          case rel => exact ⟨k + 1, by omega, by go_num, HN.out, HB.out.trans (hb5.mono HB.out.size)⟩
          case measure => simp [intOf]; omega
        · have HN : Hid (bsy bs (k : Int)) := Or.inl ⟨k, hkl, HON.out.1 rfl, HD.out, rfl⟩
          clear HON
          generalize bs[k].x = x0 at *
          generalize bs[k].y = y0 at *
          generalize bs[k].z = z0 at *
          generalize bs[k].e = e0 at *
          generalize bs[k].i = i0 at *
          generalize bs[k].r = r0 at *
          generalize bs[k].d = d0 at *
          go_wp2_with (first
            | (refine wpList_load_mid (P := Tryz.prog) rfl 97 _ rfl g (off + k * 8) rfl _ _ HRG.out Tryz.underlying97 rfl sz95 ?_)
            | (go_at_call 167; refine HW.out.mono ?_; rintro o w5 ⟨rfl, hb5⟩))
          go_ret
          exact ⟨k, rfl, HN.out, HB.out.trans (hb5.mono HB.out.size)⟩
      · have hkn : n = k := by omega
        subst hkn
        go_wp2
        go_ret
        exact ⟨-1, rfl, Or.inr ⟨fun j hj => hdone j hj (by have := HL.out; omega), rfl⟩, hb⟩
end Go.Proofs.YtaamahohdnbpiaaGreat
namespace Go.Proofs.YtaamahohdnbpiaaGreat
open Go.RowKit
set_option linter.unusedVariables false
set_option maxHeartbeats 2000000 in
theorem onWire_any (w : World) (P : Nat) (a : Option Addr) (n cap : Nat) (bx : List R8) (y5 : w.cell? ⟨P, 5, none⟩ = some (.slice a n cap)) (h : isR8s w a n cap bx) (hn : n ≤ 1048576) :
    Calls Tryz.prog 131 #[.pointer (some ⟨P, 0, none⟩)] w fun o w' => ∃ z : Int, o = .returned (.int .i64 z) ∧ bsy bx z ∧ Below w.heap.size w w' := by
  have HI : Hid (Calls Tryz.prog 164 #[.slice a n cap, .func (.func 167) #[] #[]] w fun o w' => ∃ z : Int, o = .returned (.int .i64 z) ∧ bsy bx z ∧ Below w.heap.size w w') := indexBox_any w a n cap bx h hn
  clear h
  go_enter Tryz.func131, Tryz.ntmps131
  go_wp2_with (first | (go_at_call 164; refine HI.out.mono ?_; rintro o w5 ⟨z, rfl, hz, hb5⟩; have HZ : Hid (bsy bx z ∧ Below w.heap.size w w5) := ⟨hz, hb5⟩; clear hz hb5))
  go_ret
  exact ⟨z, rfl, HZ.out.1, HZ.out.2⟩
def sendQ (W : World) (gb : Nat) (bx : List R8) (i : Int) (w' : World) : Prop := ∃ W1, Below W.heap.size W W1 ∧ ((w' = W1 ∧ takeB bx i = bx) ∨ ∃ (k : Nat) (hk : k < bx.length), w' = W1.setCell ⟨gb, k * 8, none⟩ (.int .i64 2) ∧ takeB bx i = bx.set k { bx[k] with x := 2 } ∧ bx[k].x = 1)
set_option maxHeartbeats 8000000 in
set_option maxRecDepth 20000 in
theorem send_any (W : World) (P gb n kb : Nat) (bx : List R8) (i : Int) (y5 : W.cell? ⟨P, 5, none⟩ = some (.slice (some ⟨gb, 0, none⟩) n kb)) (h : isR8s W (some ⟨gb, 0, none⟩) n kb bx) (hrf : rowF W gb (n * 8)) (hn : n ≤ 8) :
    Calls Tryz.prog 66 #[.pointer (some ⟨P, 0, none⟩), .int .i64 i] W fun o w' => o = .returned (.tuple #[]) ∧ sendQ W gb bx i w' := by
  have hln := h.len
  have hcp := h.cap
  by_cases hi : 0 ≤ i ∧ i ≤ (n : Int) - 1
  · obtain ⟨k, rfl⟩ : ∃ k : Nat, i = (k : Int) := ⟨i.toNat, by omega⟩
    have hk : k < bx.length := by omega
    have hkn : k < n := by omega
    have HIR : Hid (∀ X, Calls Tryz.prog 115 #[.int .i64 (k : Int), .int .i64 0, .int .i64 ((n : Int) - 1)] X fun o w' => o = .returned (.bool true) ∧ w' = X) := fun X => (inRange_any X _ _ _).mono (by rintro o w' ⟨rfl, rfl⟩; exact ⟨by simp; omega, rfl⟩)
    obtain ⟨ao, m, c, q⟩ : ∃ ao m c, at8 W gb (k * 8) bx[k] ao m c := by
      obtain ⟨g', off, e, hc⟩ := h.cells (by intro e; rw [e] at hk; cases hk)
      cases e
      have := hc k hk
      rw [Nat.zero_add] at this
      exact this
    have y0 := q.c0
    have HOW : Hid (Calls Tryz.prog 131 #[.pointer (some ⟨P, 0, none⟩)] W fun o w' => ∃ z : Int, o = .returned (.int .i64 z) ∧ bsy bx z ∧ Below W.heap.size W w') := onWire_any W P _ n kb bx y5 h (by omega)
    have HRF : Hid (rowF W gb (n * 8)) := hrf
    have HP : Hid (P < W.heap.size ∧ gb < W.heap.size) := ⟨World.block_lt_of_cell? W _ y5, World.block_lt_of_cell? W _ y0⟩
    clear h hrf q hi hln
    by_cases hx : bx[k].x = 1
    · rw [hx] at y0
      have HX : Hid (bx[k].x = 1) := hx
      clear hx
      go_enter Tryz.func66, Tryz.ntmps66
      go_wp2_with (first | (go_at_call 115; refine (HIR.out _).mono ?_; rintro o w1 ⟨rfl, rfl⟩))
      refine HOW.out.mono ?_
      rintro o w5 ⟨z, rfl, hz, hb5⟩
      have y5' := (hb5.cell (p := ⟨P, 5, none⟩) (by exact HP.out.1)).trans y5
      have y0' := (hb5.cell (p := ⟨gb, k * 8, none⟩) (by exact HP.out.2)).trans y0
      have f0 : w5.frozen? ⟨gb, k * 8, none⟩ = false := by
        rw [World.frozen?_of_block (hb5.block gb HP.out.2)]
        exact (HRF.out (k * 8) (by omega)).2
      have HB5 : Hid (Below w1.heap.size w1 w5) := hb5
      have HZ : Hid (bsy bx z) := hz
      clear hz hb5 y5 y0
      by_cases hz0 : z < 0
      · have HT : Hid (takeB bx (k : Int) = bx.set k { bx[k] with x := 2 }) := takeB_yes hk HX.out HZ.out hz0
        go_wp2_with fail
        first | go_end0 | (simp only [Exit.inBlock, Exit.then]; refine bodyPost_ret (results_none rfl _ _ _) rfl ?_) | refine bodyPost_ret (results_none rfl _ _ _) rfl ?_
        exact ⟨rfl, w5, HB5.out, Or.inr ⟨k, hk, rfl, HT.out, HX.out⟩⟩
      · have HT : Hid (takeB bx (k : Int) = bx) := takeB_busy HZ.out (by omega)
        go_wp2_with fail
        first | go_end0 | (simp only [Exit.inBlock, Exit.then]; refine bodyPost_ret (results_none rfl _ _ _) rfl ?_) | refine bodyPost_ret (results_none rfl _ _ _) rfl ?_
        exact ⟨rfl, w5, HB5.out, Or.inl ⟨rfl, HT.out⟩⟩
    · have hx' : (bx[k].x == 1) = false := by simpa using hx
      have HT : Hid (takeB bx (k : Int) = bx) := takeB_no hk hx
      generalize bx[k].x = x at *
      go_enter Tryz.func66, Tryz.ntmps66
      go_wp2_with (first | (go_at_call 115; refine (HIR.out _).mono ?_; rintro o w1 ⟨rfl, rfl⟩))
      first | go_end0 | (simp only [Exit.inBlock, Exit.then]; refine bodyPost_ret (results_none rfl _ _ _) rfl ?_) | refine bodyPost_ret (results_none rfl _ _ _) rfl ?_
      exact ⟨rfl, w1, Below.refl _ _, Or.inl ⟨rfl, HT.out⟩⟩
  · have HIR : Hid (∀ X, Calls Tryz.prog 115 #[.int .i64 i, .int .i64 0, .int .i64 ((n : Int) - 1)] X fun o w' => o = .returned (.bool false) ∧ w' = X) := fun X => (inRange_any X _ _ _).mono (by rintro o w' ⟨rfl, rfl⟩; exact ⟨by simp; omega, rfl⟩)
    have HT : Hid (takeB bx i = bx) := takeB_out (by omega)
    clear h hrf hi hcp hln
    go_enter Tryz.func66, Tryz.ntmps66
    go_wp2_with (first | (go_at_call 115; refine (HIR.out _).mono ?_; rintro o w1 ⟨rfl, rfl⟩))
    first | go_end0 | (simp only [Exit.inBlock, Exit.then]; refine bodyPost_ret (results_none rfl _ _ _) rfl ?_) | refine bodyPost_ret (results_none rfl _ _ _) rfl ?_
    exact ⟨rfl, w1, Below.refl _ _, Or.inl ⟨rfl, HT.out⟩⟩
end Go.Proofs.YtaamahohdnbpiaaGreat
namespace Go.Proofs.YtaamahohdnbpiaaGreat
open Go.RowKit
set_option linter.unusedVariables false
theorem ring5.base {w0 w W : World} {g room first : Nat} {L : List R5} (h : ring5 w0 W g room first L) (hb : Below w0.heap.size w0 w) : ring5 w W g room first L := fun i hi => by
  obtain ⟨ao, m, c, h1, h2⟩ := h i hi
  exact ⟨ao, m, c, h1, h2.below hb⟩
theorem ring8.base {w0 w W : World} {g room first : Nat} {L : List R8} (h : ring8 w0 W g room first L) (hb : Below w0.heap.size w0 w) : ring8 w W g room first L := fun i hi => by
  obtain ⟨ao, m, c, h1, h2⟩ := h i hi
  exact ⟨ao, m, c, h1, h2.below hb⟩
def toldQ (w : World) (H : Ho) (e : Ending) (w' : World) : Prop := ∃ s : Wh, e = .returned (.agg (hoL H s.sl).toArray) ∧ St w.heap.size w' (fun W => isHo W H s.sl) ∧ whS w.heap.size w'.heap.size w' s ∧ whD s ∧ whE s ∧ Below w.heap.size w w'
set_option maxHeartbeats 1000000 in
theorem sent_told {w : World} {P mb : Nat} {c0 c2 : Int} {r1 r3 : Nat} {fs : List R3} {bx : List R8} {ff : List R5} {qu : List R8} {lo st : Int} {gf n1 kf gb n2 kb gr n3 gq n4 : Nat} {hs : Nat → Hd} {W w2 : World} {i : Int}
    (h : lvS Unit w P mb [.int .i64 c0, .int .i64 (r1 : Int), .int .i64 c2, .int .i64 (r3 : Int), .slice (some ⟨gf, 0, none⟩) n1 kf, .slice (some ⟨gb, 0, none⟩) n2 kb, .map (some mb), .slice (some ⟨gr, 0, none⟩) r1 r1, .int .i64 0, .int .i64 (n3 : Int), .slice (some ⟨gq, 0, none⟩) r3 r3, .int .i64 0, .int .i64 (n4 : Int), .int .i64 lo, .int .i64 st] gf n1 kf fs gb n2 kb bx hs gr r1 ff gq r3 qu n2 W)
    (hsq : sendQ W gb bx i w2) (m1 : n1 ≤ 1000) (m2 : n2 ≤ 8) (e3 : n3 = ff.length) (e4 : n4 = qu.length) (b1 : 1 ≤ r1 ∧ r1 ≤ 1000 ∧ n3 ≤ r1) (b3 : 1 ≤ r3 ∧ r3 ≤ 1000 ∧ n4 ≤ r3)
    (s2 : ∀ j (h : j < bx.length), bx[j].l.length ≤ 1048576) (s3 : ∀ j (h : j < ff.length), ff[j].l.length ≤ 1048576) (s4 : ∀ j (h : j < qu.length), qu[j].l.length ≤ 1048576) :
    Below w.heap.size w w2 ∧ Calls Tryz.prog 118 #[.pointer (some ⟨P, 0, none⟩)] w2 (toldQ w2 ⟨c0, (r1 : Int), c2, (r3 : Int), fs, takeB bx i, ff, qu, lo, st⟩) := by
  obtain ⟨W1, hb1, hc⟩ := hsq
  have h1 := h.below hb1
  have hgw : w.heap.size ≤ gb := by have := h.lo; have := h.d.1; omega
  have key : Below w.heap.size w w2 ∧ (∀ x, x ≠ gb → w2.heap[x]? = W1.heap[x]?) ∧ isR8s w2 (some ⟨gb, 0, none⟩) n2 kb (takeB bx i) := by
    have hx := (h1.x.k W1 rfl h1.b).1.is (h1.x.k W1 rfl h1.b).2
    rcases hc with ⟨rfl, e⟩ | ⟨k, hk, rfl, e, ex⟩
    · rw [e]
      exact ⟨h1.b, fun _ _ => rfl, hx⟩
    · rw [e]
      exact ⟨h1.b.setCell (by exact hgw) _, fun x hx => heap_setCell_other W1 ⟨gb, k * 8, none⟩ x _ hx, hx.setX k hk 2⟩
  obtain ⟨kb2, koth, kbx⟩ := key
  refine ⟨kb2, told_any w2 P mb c0 c2 r1 r3 fs (takeB bx i) ff qu lo st gf n1 kf gb n2 kb gr 0 n3 gq 0 n4 ?_ ?_ kbx ?_ ?_ e3 e4 m1 (by omega) ⟨by omega, b1.2.1, b1.2.2⟩ ⟨by omega, b3.2.1, b3.2.2⟩ (fun j hj => ?_) s3 s4⟩
  · exact h1.p.kept (koth P (fun e => h1.x.n1 e.symm))
  · exact h1.f.k w2 (koth gf (by have := h.d.1; omega)) kb2
  · exact (h1.r.k w2 (koth gr (by have := h.d.2.1; omega)) kb2).1.base kb2
  · exact (h1.q.k w2 (koth gq (by have := h.d; omega)) kb2).1.base kb2
  · have hj' : j < bx.length := by rw [takeB_len] at hj; exact hj
    rw [takeB_l bx i j hj hj']
    exact s2 j hj'
set_option maxHeartbeats 1000000 in
theorem lit65 (W : World) (P Bx gb n kb : Nat) (bx : List R8) (i : Int) (yb : W.cell? ⟨Bx, 0, none⟩ = some (.int .i64 i)) (y5 : W.cell? ⟨P, 5, none⟩ = some (.slice (some ⟨gb, 0, none⟩) n kb)) (h : isR8s W (some ⟨gb, 0, none⟩) n kb bx) (hrf : rowF W gb (n * 8)) (hn : n ≤ 8) :
    Calls Tryz.prog 65 #[.pointer (some ⟨P, 0, none⟩), .pointer (some ⟨Bx, 0, none⟩)] W fun o w' => o = .returned (.tuple #[]) ∧ sendQ W gb bx i w' := by
  have HS : Hid (Calls Tryz.prog 66 #[.pointer (some ⟨P, 0, none⟩), .int .i64 i] W fun o w' => o = .returned (.tuple #[]) ∧ sendQ W gb bx i w') := send_any W P gb n kb bx i y5 h hrf hn
  clear h hrf y5
  go_enter Tryz.func65, Tryz.ntmps65
  go_wp2_with (first | (go_at_call 66; refine HS.out.mono ?_; rintro o w5 ⟨rfl, hq⟩; have HQ : Hid (sendQ W gb bx i w5) := hq; clear hq))
  first | go_end0 | (simp only [Exit.inBlock, Exit.then]; refine bodyPost_ret (results_none rfl _ _ _) rfl ?_) | refine bodyPost_ret (results_none rfl _ _ _) rfl ?_
  exact ⟨rfl, HQ.out⟩
set_option maxHeartbeats 1000000 in
theorem open_take (w : World) (H : Ho) (s : Sl) (Bx : Nat) (i : Int) (h : isHo w H s) (hs : slSome s) (hok : okHo H) (hm : H.le 1048576) (yb : w.cell? ⟨Bx, 0, none⟩ = some (.int .i64 i)) :
    Calls Tryz.prog 61 #[.agg (hoL H s).toArray] w fun o w' => ∃ P, o = .returned (.pointer (some ⟨P, 0, none⟩)) ∧ Below w.heap.size w w' ∧ Calls Tryz.prog 65 #[.pointer (some ⟨P, 0, none⟩), .pointer (some ⟨Bx, 0, none⟩)] w' fun o w2 => o = .returned (.tuple #[]) ∧ Below w.heap.size w w2 ∧ Calls Tryz.prog 118 #[.pointer (some ⟨P, 0, none⟩)] w2 (toldQ w2 (takeHo H i)) := by
  obtain ⟨c0, c1, c2, c3, fs, bx, ff, qu, lo, st⟩ := H
  obtain ⟨a1, n1, k1, a2, n2, k2, a3, n3, k3, a4, n4, k4⟩ := s
  obtain ⟨⟨g1, e1⟩, ⟨g2, e2⟩⟩ := hs
  simp only [] at e1 e2
  subst e1 e2
  have hcf := of_decide_eq_true hok.cf
  have hnf := hok.nf
  have hnq := hok.nq
  have l1 := h.fs.len
  have l2 := h.bx.len
  have l3 := h.ff.len
  have l4 := h.qu.len
  have hf16 : fs.length ≤ 16 := by
    have := hok.fs
    unfold okFs at this
    simp at this
    exact this.1
  have hm2 := hm.bd
  have hm3 := hm.fd
  have hm4 := hm.qd
  have hm1 := hm.fs
  simp only [] at hcf hnf hnq l1 l2 l3 l4 hm1 hm2 hm3 hm4
  have hn2 := hok.n2
  simp only [] at hn2
  obtain ⟨r1, hr1⟩ : ∃ r1 : Nat, c1 = (r1 : Int) := ⟨c1.toNat, by omega⟩
  obtain ⟨r3, hr3⟩ : ∃ r3 : Nat, c3 = (r3 : Int) := ⟨c3.toNat, by omega⟩
  subst hr1 hr3
  refine (openHost_any Unit w c0 c2 r1 r3 fs bx ff qu lo st g1 n1 k1 g2 0 n2 k2 a3 n3 k3 a4 n4 k4 h.fs h.bx h.ff h.qu (by omega) (by omega) (by omega) (by omega) hok.bx hm2).mono ?_
  rintro o w' ⟨P, mb, gf, kf, gb, kb, hs', gr, gq, rfl, hl⟩
  refine ⟨P, rfl, hl.b, (lit65 w' P Bx gb n2 kb bx i ((hl.b.cell (by exact World.block_lt_of_cell? w _ yb)).trans yb) (hl.p.cell 5 _ rfl) ((hl.x.k w' rfl hl.b).1.is (hl.x.k w' rfl hl.b).2) (hl.x.k w' rfl hl.b).1.row (by omega)).mono ?_⟩
  rintro o w2 ⟨rfl, hq⟩
  have := sent_told hl hq (by omega) (by omega) l3 l4 (by omega) (by omega) hm2 hm3 hm4
  exact ⟨rfl, this.1, this.2⟩
end Go.Proofs.YtaamahohdnbpiaaGreat
