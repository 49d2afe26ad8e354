import Derived.Test.YtaamahohdnbpiaaGreatG00
import Derived.Deep.MidRow
import Derived.Deep.RegionHeld3
namespace Go.Proofs.YtaamahohdnbpiaaGreat
open Go.RowKit
/-- a record of 5 cells, the last one the slice of its bytes -/
structure R5 where
  e : Bool
  i : Nat
  r : Bool
  d : Int
  l : List Nat
structure at5 (w : World) (g o : Nat) (b : R5) (ao : Option Addr) (m c : Nat) : Prop where
  c0 : w.cell? ⟨g, o, none⟩ = some (.bool b.e)
  c1 : w.cell? ⟨g, o + 1, none⟩ = some (.int .u32 (b.i : Int))
  c2 : w.cell? ⟨g, o + 2, none⟩ = some (.bool b.r)
  c3 : w.cell? ⟨g, o + 3, none⟩ = some (.int .i64 b.d)
  cs : w.cell? ⟨g, o + 4, none⟩ = some (.slice ao m c)
  dat : isBytes w ao m c b.l
structure isR5s (w : World) (a : Option Addr) (n cap : Nat) (bs : List R5) : Prop where
  len : n = bs.length
  cap : n ≤ cap
  cells : bs ≠ [] → ∃ g off, a = some ⟨g, off, none⟩ ∧ ∀ j (h : j < bs.length), ∃ ao m c, at5 w g (off + j * 5) bs[j] ao m c
theorem at5.below {w w' : World} {g o : Nat} {b : R5} {ao : Option Addr} {m c : Nat} (h : at5 w g o b ao m c) (hb : Below w.heap.size w w') : at5 w' g o b ao m c := by
  have hg := World.block_lt_of_cell? w _ h.c0
  exact ⟨(hb.cell (by exact hg)).trans h.c0, (hb.cell (by exact hg)).trans h.c1, (hb.cell (by exact hg)).trans h.c2, (hb.cell (by exact hg)).trans h.c3, (hb.cell (by exact hg)).trans h.cs, h.dat.below hb⟩
theorem isR5s.below {w w' : World} {a : Option Addr} {n cap : Nat} {bs : List R5} (h : isR5s w a n cap bs) (hb : Below w.heap.size w w') : isR5s w' a n cap bs := by
  refine ⟨h.len, h.cap, fun hl => ?_⟩
  obtain ⟨g, off, ha, hc⟩ := h.cells hl
  exact ⟨g, off, ha, fun j hj => by obtain ⟨ao, m, c, hat⟩ := hc j hj; exact ⟨ao, m, c, hat.below hb⟩⟩
theorem at5.up {W w : World} {g o : Nat} {b : R5} {gd m c : Nat} (h : at5 w g o b (some ⟨gd, 0, none⟩) m c) (he : W.heap[g]? = w.heap[g]?) (hd : W.heap[gd]? = w.heap[gd]?) : at5 W g o b (some ⟨gd, 0, none⟩) m c :=
  ⟨cell_up h.c0 he, cell_up h.c1 he, cell_up h.c2 he, cell_up h.c3 he, cell_up h.cs he, h.dat.other hd⟩
theorem at5.keep {w : World} {g o : Nat} {b : R5} {gd m c : Nat} (h : at5 w g o b (some ⟨gd, 0, none⟩) m c) (hne : gd ≠ g) (vs : List Value) (p : Nat) (hp : o + 5 ≤ p ∨ p + vs.length ≤ o) : at5 (setRow w g p vs) g o b (some ⟨gd, 0, none⟩) m c :=
  ⟨(setRow_other g vs w p (o) (by omega)).trans h.c0, (setRow_other g vs w p (o + 1) (by omega)).trans h.c1, (setRow_other g vs w p (o + 2) (by omega)).trans h.c2, (setRow_other g vs w p (o + 3) (by omega)).trans h.c3, (setRow_other g vs w p (o + 4) (by omega)).trans h.cs, h.dat.other (setRow_block g gd hne vs w p)⟩
theorem at5.new {w : World} {g M : Nat} (h : rowZ w g M) (p : Nat) (hp : p + 5 ≤ M) (b : R5) (gd m : Nat) (hne : gd ≠ g) (hd : isBytes w (some ⟨gd, 0, none⟩) m m b.l) : at5 (setRow w g p [.bool b.e, .int .u32 (b.i : Int), .bool b.r, .int .i64 b.d, .slice (some ⟨gd, 0, none⟩) m m]) g p b (some ⟨gd, 0, none⟩) m m :=
  ⟨setRow_at g _ w p 0 (by simp) (h.cell (p + 0) (by omega)), setRow_at g _ w p 1 (by simp) (h.cell (p + 1) (by omega)), setRow_at g _ w p 2 (by simp) (h.cell (p + 2) (by omega)), setRow_at g _ w p 3 (by simp) (h.cell (p + 3) (by omega)), setRow_at g _ w p 4 (by simp) (h.cell (p + 4) (by omega)), hd.other (setRow_block g gd hne _ w p)⟩
/-- a record of 8 cells, the last one the slice of its bytes -/
structure R8 where
  x : Int
  y : Int
  z : Int
  e : Bool
  i : Nat
  r : Bool
  d : Int
  l : List Nat
structure at8 (w : World) (g o : Nat) (b : R8) (ao : Option Addr) (m c : Nat) : Prop where
  c0 : w.cell? ⟨g, o, none⟩ = some (.int .i64 b.x)
  c1 : w.cell? ⟨g, o + 1, none⟩ = some (.int .i64 b.y)
  c2 : w.cell? ⟨g, o + 2, none⟩ = some (.int .i64 b.z)
  c3 : w.cell? ⟨g, o + 3, none⟩ = some (.bool b.e)
  c4 : w.cell? ⟨g, o + 4, none⟩ = some (.int .u32 (b.i : Int))
  c5 : w.cell? ⟨g, o + 5, none⟩ = some (.bool b.r)
  c6 : w.cell? ⟨g, o + 6, none⟩ = some (.int .i64 b.d)
  cs : w.cell? ⟨g, o + 7, none⟩ = some (.slice ao m c)
  dat : isBytes w ao m c b.l
structure isR8s (w : World) (a : Option Addr) (n cap : Nat) (bs : List R8) : Prop where
  len : n = bs.length
  cap : n ≤ cap
  cells : bs ≠ [] → ∃ g off, a = some ⟨g, off, none⟩ ∧ ∀ j (h : j < bs.length), ∃ ao m c, at8 w g (off + j * 8) bs[j] ao m c
theorem at8.below {w w' : World} {g o : Nat} {b : R8} {ao : Option Addr} {m c : Nat} (h : at8 w g o b ao m c) (hb : Below w.heap.size w w') : at8 w' g o b ao m c := by
  have hg := World.block_lt_of_cell? w _ h.c0
  exact ⟨(hb.cell (by exact hg)).trans h.c0, (hb.cell (by exact hg)).trans h.c1, (hb.cell (by exact hg)).trans h.c2, (hb.cell (by exact hg)).trans h.c3, (hb.cell (by exact hg)).trans h.c4, (hb.cell (by exact hg)).trans h.c5, (hb.cell (by exact hg)).trans h.c6, (hb.cell (by exact hg)).trans h.cs, h.dat.below hb⟩
theorem isR8s.below {w w' : World} {a : Option Addr} {n cap : Nat} {bs : List R8} (h : isR8s w a n cap bs) (hb : Below w.heap.size w w') : isR8s w' a n cap bs := by
  refine ⟨h.len, h.cap, fun hl => ?_⟩
  obtain ⟨g, off, ha, hc⟩ := h.cells hl
  exact ⟨g, off, ha, fun j hj => by obtain ⟨ao, m, c, hat⟩ := hc j hj; exact ⟨ao, m, c, hat.below hb⟩⟩
theorem at8.up {W w : World} {g o : Nat} {b : R8} {gd m c : Nat} (h : at8 w g o b (some ⟨gd, 0, none⟩) m c) (he : W.heap[g]? = w.heap[g]?) (hd : W.heap[gd]? = w.heap[gd]?) : at8 W g o b (some ⟨gd, 0, none⟩) m c :=
  ⟨cell_up h.c0 he, cell_up h.c1 he, cell_up h.c2 he, cell_up h.c3 he, cell_up h.c4 he, cell_up h.c5 he, cell_up h.c6 he, cell_up h.cs he, h.dat.other hd⟩
theorem at8.keep {w : World} {g o : Nat} {b : R8} {gd m c : Nat} (h : at8 w g o b (some ⟨gd, 0, none⟩) m c) (hne : gd ≠ g) (vs : List Value) (p : Nat) (hp : o + 8 ≤ p ∨ p + vs.length ≤ o) : at8 (setRow w g p vs) g o b (some ⟨gd, 0, none⟩) m c :=
  ⟨(setRow_other g vs w p (o) (by omega)).trans h.c0, (setRow_other g vs w p (o + 1) (by omega)).trans h.c1, (setRow_other g vs w p (o + 2) (by omega)).trans h.c2, (setRow_other g vs w p (o + 3) (by omega)).trans h.c3, (setRow_other g vs w p (o + 4) (by omega)).trans h.c4, (setRow_other g vs w p (o + 5) (by omega)).trans h.c5, (setRow_other g vs w p (o + 6) (by omega)).trans h.c6, (setRow_other g vs w p (o + 7) (by omega)).trans h.cs, h.dat.other (setRow_block g gd hne vs w p)⟩
theorem at8.new {w : World} {g M : Nat} (h : rowZ w g M) (p : Nat) (hp : p + 8 ≤ M) (b : R8) (gd m : Nat) (hne : gd ≠ g) (hd : isBytes w (some ⟨gd, 0, none⟩) m m b.l) : at8 (setRow w g p [.int .i64 b.x, .int .i64 b.y, .int .i64 b.z, .bool b.e, .int .u32 (b.i : Int), .bool b.r, .int .i64 b.d, .slice (some ⟨gd, 0, none⟩) m m]) g p b (some ⟨gd, 0, none⟩) m m :=
  ⟨setRow_at g _ w p 0 (by simp) (h.cell (p + 0) (by omega)), setRow_at g _ w p 1 (by simp) (h.cell (p + 1) (by omega)), setRow_at g _ w p 2 (by simp) (h.cell (p + 2) (by omega)), setRow_at g _ w p 3 (by simp) (h.cell (p + 3) (by omega)), setRow_at g _ w p 4 (by simp) (h.cell (p + 4) (by omega)), setRow_at g _ w p 5 (by simp) (h.cell (p + 5) (by omega)), setRow_at g _ w p 6 (by simp) (h.cell (p + 6) (by omega)), setRow_at g _ w p 7 (by simp) (h.cell (p + 7) (by omega)), hd.other (setRow_block g gd hne _ w p)⟩
/-- n records of 5 cells that may be written, and their bytes too; all lie from B on and below T -/
structure wr5 (B T : Nat) (W : World) (g n : Nat) : Prop where
  row : rowF W g (n * 5)
  lo : B ≤ g
  hi : g < T
  dat : ∀ j, j < n → ∃ gd m, W.cell? ⟨g, j * 5 + 4, none⟩ = some (.slice (some ⟨gd, 0, none⟩) m m) ∧ rowF W gd m ∧ gd ≠ g ∧ B ≤ gd ∧ gd < T
theorem wr5.mono {B T B' T' : Nat} {W : World} {g n : Nat} (h : wr5 B T W g n) (hB : B' ≤ B) (hT : T ≤ T') : wr5 B' T' W g n :=
  ⟨h.row, by have := h.lo; omega, by have := h.hi; omega, fun j hj => by obtain ⟨gd, m, h1, h2, h3, h4, h5⟩ := h.dat j hj; exact ⟨gd, m, h1, h2, h3, by omega, by omega⟩⟩
theorem Tryz.info25 : (Tryz.prog.info? 25).map (fun i => (i.zero, i.size, i.bytes)) = some (some (.agg #[.bool false, .int .u32 0, .bool false, .int .i64 0, .slice none 0 0]), 5, 48) := by kernel_rfl
set_option maxHeartbeats 2000000 in
set_option maxRecDepth 20000 in
theorem toFrameS_any (w : World) (a : Option Addr) (n cap : Nat) (bs : List R5) (h : isR5s w a n cap bs) (hn : n ≤ 1048576) (hd : ∀ j (h : j < bs.length), bs[j].l.length ≤ 1048576) :
    Calls Tryz.prog 89 #[.slice a n cap] w fun e w' => ∃ g, e = .returned (.slice (some ⟨g, 0, none⟩) n n) ∧ St w.heap.size w' (fun W => isR5s W (some ⟨g, 0, none⟩) n n bs ∧ wr5 w.heap.size w'.heap.size W g n) ∧ Below w.heap.size w w' := by
  have hlen := h.len
  have hcp := h.cap
  by_cases hl : bs = []
  · subst hl
    have hn0 : n = 0 := hlen
    subst hn0
    clear hlen h hd
    go_enter Tryz.func89, Tryz.ntmps89
    go_wp2_with (first | (at_make; refine make_Z _ 32 25 _ 5 48 Tryz.info25 Tryz.underlying32 (by decide) rfl (.tmp 6) (.tmp 6) rfl _ 0 rfl rfl rfl (by omega) ?_; intro w1 hrow hg1 hz1))
    go_loopw [4] (fun i wr => i = .int .i64 0 ∧ Below w.heap.size w wr ∧ w.heap.size < wr.heap.size) (fun _ _ => 0)
    case atStart => exact ⟨rfl, (Below.refl _ _).grown hg1 (Nat.le_refl _) (by intro k e; cases e), hz1⟩
    case round =>
      obtain ⟨rfl, hb, hz⟩ := hrel
      go_wp2
      go_ret
      exact ⟨_, rfl, fun _ _ => ⟨⟨rfl, Nat.le_refl _, fun e => absurd rfl e⟩, ⟨fun t ht => absurd ht (by omega), Nat.le_refl _, hz, fun j hj => absurd hj (Nat.not_lt_zero _)⟩⟩, hb⟩
  · obtain ⟨g, off, rfl, hc⟩ := h.cells hl
    have HL : Hid (n = bs.length) := hlen
    have HC : Hid (∀ j (h : j < bs.length), ∃ ao m c, at5 w g (off + j * 5) bs[j] ao m c) := hc
    have HD0 : Hid (∀ j (h : j < bs.length), bs[j].l.length ≤ 1048576) := hd
    have hgz : g < w.heap.size := by obtain ⟨_, _, _, hat⟩ := hc 0 (List.length_pos_iff.2 hl); exact World.block_lt_of_cell? w _ hat.c0
    clear h hlen hc hd
    go_enter Tryz.func89, Tryz.ntmps89
    go_wp2_with (first | (at_make; refine make_Z _ 32 25 _ 5 48 Tryz.info25 Tryz.underlying32 (by decide) rfl (.tmp 6) (.tmp 6) rfl _ n rfl rfl rfl (by omega) ?_; intro w1 hrow hg1 hz1))
    go_loopw [4] (fun i wr => ∃ k : Nat, k ≤ n ∧ i = .int .i64 k ∧ rowZ wr w.heap.size (n * 5) ∧ (∀ j (hj : j < k) (h : j < bs.length), ∃ gd m, (w.heap.size < gd ∧ gd < wr.heap.size) ∧ at5 wr w.heap.size (j * 5) bs[j] (some ⟨gd, 0, none⟩) m m ∧ rowF wr gd m) ∧ Below w.heap.size w wr ∧ w.heap.size < wr.heap.size) (fun i _ => n - (intOf i).toNat)
    case atStart => exact ⟨0, Nat.zero_le _, rfl, hrow, fun j hj => absurd hj (Nat.not_lt_zero _), (Below.refl _ _).grown hg1 (Nat.le_refl _) (by intro k e; cases e), hz1⟩
    case round =>
      clear hrow hz1 hg1
      obtain ⟨k, hk, rfl, hrow, hdone, hb, hz⟩ := hrel
      by_cases hlt : k < n
      · have hkl : k < bs.length := by have := HL.out; omega
        obtain ⟨ao, m0, c0, hx⟩ := HC.out k hkl
        have cx0 := (hb.cell (by exact hgz)).trans hx.c0
        have cx1 := (hb.cell (by exact hgz)).trans hx.c1
        have cx2 := (hb.cell (by exact hgz)).trans hx.c2
        have cx3 := (hb.cell (by exact hgz)).trans hx.c3
        have cx4 := (hb.cell (by exact hgz)).trans hx.cs
        have hm0 : m0 ≤ 1048576 := by have := HD0.out k hkl; have := hx.dat.len; omega
        have HY : Hid (isBytes wr ao m0 c0 bs[k].l) := hx.dat.below hb
        have HD : Hid (∀ W, Below wr.heap.size wr W → rowZ W w.heap.size (n * 5) ∧ (∀ j (hj : j < k) (h : j < bs.length), ∃ gd m, (w.heap.size < gd ∧ gd < W.heap.size) ∧ at5 W w.heap.size (j * 5) bs[j] (some ⟨gd, 0, none⟩) m m ∧ rowF W gd m) ∧ Below w.heap.size w W ∧ w.heap.size < W.heap.size) := fun W hW => ⟨hrow.below hW hz, fun j hj hjl => by obtain ⟨gd, m, h1, h2, h3⟩ := hdone j hj hjl; exact ⟨gd, m, ⟨h1.1, Nat.lt_of_lt_of_le h1.2 hW.size⟩, h2.below hW, h3.up (hW.block _ h1.2)⟩, hb.trans (hW.mono (by omega)), Nat.lt_of_lt_of_le hz hW.size⟩
        clear hrow hdone hb hx
        have hkn : k * 5 + 5 ≤ n * 5 := by omega
        have HB : Hid (∀ W gd, gd ≠ w.heap.size → isBytes W (some ⟨gd, 0, none⟩) m0 m0 bs[k].l → rowZ W w.heap.size (n * 5) → at5 (setRow W w.heap.size (k * 5) [.bool bs[k].e, .int .u32 (bs[k].i : Int), .bool bs[k].r, .int .i64 bs[k].d, .slice (some ⟨gd, 0, none⟩) m0 m0]) w.heap.size (k * 5) bs[k] (some ⟨gd, 0, none⟩) m0 m0) := fun W gd h1 h2 hW => at5.new hW (k * 5) hkn bs[k] gd m0 h1 h2
        generalize hBe : bs[k].e = fe at *
        generalize hBi : bs[k].i = fi at *
        generalize hBr : bs[k].r = fr at *
        generalize hBd : bs[k].d = fd at *
        clear hBe hBi hBr hBd
        go_wp2_with (first | (go_at_call 47; refine (toFrame_any _ fe fi fr fd ao m0 c0 bs[k].l HY.out hm0).mono ?_; rintro o w5 ⟨gd, rfl, hby, hb5, hgd, hgz5, hrf5⟩; have HRF : Hid (rowF w5 gd m0) := hrf5; clear hrf5; obtain ⟨cv0, cz0⟩ := (HD.out w5 hb5).1.cell (k * 5) (by omega); have cf0 := (HD.out w5 hb5).1.free (k * 5); obtain ⟨cv1, cz1⟩ := (HD.out w5 hb5).1.cell (k * 5 + 1) (by omega); have cf1 := (HD.out w5 hb5).1.free (k * 5 + 1); obtain ⟨cv2, cz2⟩ := (HD.out w5 hb5).1.cell (k * 5 + 2) (by omega); have cf2 := (HD.out w5 hb5).1.free (k * 5 + 2); obtain ⟨cv3, cz3⟩ := (HD.out w5 hb5).1.cell (k * 5 + 3) (by omega); have cf3 := (HD.out w5 hb5).1.free (k * 5 + 3); obtain ⟨cv4, cz4⟩ := (HD.out w5 hb5).1.cell (k * 5 + 4) (by omega); have cf4 := (HD.out w5 hb5).1.free (k * 5 + 4)))
        go_roundw
        case rel =>
          skip
          skip
          skip
          obtain ⟨r1, r2, r3, r4⟩ := HD.out w5 hb5
          have hne : gd ≠ w.heap.size := by omega
          refine ⟨k + 1, by omega, by go_num, r1.put [.bool fe, .int .u32 (fi : Int), .bool fr, .int .i64 fd, .slice (some ⟨gd, 0, none⟩) m0 m0] (k * 5) hkn, fun j hj hjl => ?_, setRow_below _ _ (Nat.le_refl _) w [.bool fe, .int .u32 (fi : Int), .bool fr, .int .i64 fd, .slice (some ⟨gd, 0, none⟩) m0 m0] w5 (k * 5) r3, ?_⟩
          · by_cases e : j = k
            · subst e
              exact ⟨gd, m0, ⟨by omega, by first | (rw [setRow_size]; exact hgz5) | simpa using hgz5⟩, HB.out w5 gd hne hby r1, HRF.out.up (setRow_block w.heap.size gd hne [.bool fe, .int .u32 (fi : Int), .bool fr, .int .i64 fd, .slice (some ⟨gd, 0, none⟩) m0 m0] w5 (j * 5))⟩
            · obtain ⟨gd', m', h1, h2, h3⟩ := r2 j (by omega) hjl
              exact ⟨gd', m', ⟨h1.1, by first | (rw [setRow_size]; exact h1.2) | simpa using h1.2⟩, h2.keep (by omega) [.bool fe, .int .u32 (fi : Int), .bool fr, .int .i64 fd, .slice (some ⟨gd, 0, none⟩) m0 m0] (k * 5) (by simp; omega), h3.up (setRow_block w.heap.size gd' (by omega) [.bool fe, .int .u32 (fi : Int), .bool fr, .int .i64 fd, .slice (some ⟨gd, 0, none⟩) m0 m0] w5 (k * 5))⟩
          · first | (rw [setRow_size]; exact r4) | simpa using r4
        case measure => simp [intOf]; omega
      · go_wp2
        go_ret
        refine ⟨_, rfl, fun W hW => ⟨⟨HL.out, Nat.le_refl _, fun _ => ⟨_, 0, rfl, fun j hj => ?_⟩⟩, ⟨hrow.F.up (hW _ (Nat.le_refl _) hz), Nat.le_refl _, hz, fun j hj => ?_⟩⟩, hb⟩
        · obtain ⟨gd, m, hgd, hat, _⟩ := hdone j (by have := HL.out; omega) hj
          rw [Nat.zero_add]
          exact ⟨_, _, _, hat.up (hW _ (Nat.le_refl _) hz) (hW _ (by omega) hgd.2)⟩
        · obtain ⟨gd, m, hgd, hat, hrf⟩ := hdone j (by omega) (by have := HL.out; omega)
          exact ⟨gd, m, (hat.up (hW _ (Nat.le_refl _) hz) (hW _ (by omega) hgd.2)).cs, hrf.up (hW _ (by omega) hgd.2), by omega, by omega, hgd.2⟩
end Go.Proofs.YtaamahohdnbpiaaGreat
namespace Go.Proofs.YtaamahohdnbpiaaGreat
open Go.RowKit
theorem setCells_row (g : Nat) : ∀ (vs : List Value) (w : World) (p : Nat), w.setCells g p vs = setRow w g p vs := by
  intro vs
  induction vs with
  | nil => intro w p; rfl
  | cons v vs ih => intro w p; exact ih _ (p + 1)
theorem rowZ.there {w : World} {g N : Nat} (h : rowZ w g N) (p n : Nat) (hp : p + n ≤ N) : w.there g p n := fun j hj => by
  obtain ⟨v, hv⟩ := h.cell (p + j) (by omega)
  exact ⟨by rw [hv]; rfl, h.free _⟩
theorem one8 (x y z : Int) (e : Bool) (i : Int) (r : Bool) (d : Int) (a : Option Addr) (n c : Nat) : (#[.int .i64 x, .int .i64 y, .int .i64 z, .bool e, .int .u32 i, .bool r, .int .i64 d, .slice a n c] : Array Value).all (·.oneCell') = true :=
  all_oneCell_toArray (by simp [Value.oneCell'])
/-- n records of 8 cells that may be written, and their bytes too; all lie from B on and below T -/
structure wr8 (B T : Nat) (W : World) (g n : Nat) : Prop where
  row : rowF W g (n * 8)
  lo : B ≤ g
  hi : g < T
  dat : ∀ j, j < n → ∃ gd m, W.cell? ⟨g, j * 8 + 7, none⟩ = some (.slice (some ⟨gd, 0, none⟩) m m) ∧ rowF W gd m ∧ gd ≠ g ∧ B ≤ gd ∧ gd < T
theorem wr8.mono {B T B' T' : Nat} {W : World} {g n : Nat} (h : wr8 B T W g n) (hB : B' ≤ B) (hT : T ≤ T') : wr8 B' T' W g n :=
  ⟨h.row, by have := h.lo; omega, by have := h.hi; omega, fun j hj => by obtain ⟨gd, m, h1, h2, h3, h4, h5⟩ := h.dat j hj; exact ⟨gd, m, h1, h2, h3, by omega, by omega⟩⟩
theorem sz95 : (Tryz.prog.info? 97).map (·.size) = some 8 := by kernel_rfl
theorem sz129 : (Tryz.prog.info? 46).map (·.size) = some 8 := by kernel_rfl
theorem Tryz.info97 : (Tryz.prog.info? 97).map (fun i => (i.zero, i.size, i.bytes)) = some (some (.agg #[.int .i64 0, .int .i64 0, .int .i64 0, .bool false, .int .u32 0, .bool false, .int .i64 0, .slice none 0 0]), 8, 72) := by kernel_rfl
set_option maxHeartbeats 2000000 in
set_option maxRecDepth 20000 in
theorem toBoxS_any (w : World) (a : Option Addr) (n cap : Nat) (bs : List R8) (h : isR8s w a n cap bs) (hn : n ≤ 1048576) (hd : ∀ j (h : j < bs.length), bs[j].l.length ≤ 1048576) :
    Calls Tryz.prog 88 #[.slice a n cap] w fun e w' => ∃ g, e = .returned (.slice (some ⟨g, 0, none⟩) n n) ∧ St w.heap.size w' (fun W => isR8s W (some ⟨g, 0, none⟩) n n bs ∧ wr8 w.heap.size w'.heap.size W g n) ∧ Below w.heap.size w w' := by
  have hlen := h.len
  have hcp := h.cap
  by_cases hl : bs = []
  · subst hl
    have hn0 : n = 0 := hlen
    subst hn0
    clear hlen h hd
    go_enter Tryz.func88, Tryz.ntmps88
    go_wp2_with (first | (at_make; refine make_Z _ 31 97 _ 8 72 Tryz.info97 Tryz.underlying31 (by decide) rfl (.tmp 6) (.tmp 6) rfl _ 0 rfl rfl rfl (by omega) ?_; intro w1 hrow hg1 hz1))
    go_loopw [4] (fun i wr => i = .int .i64 0 ∧ Below w.heap.size w wr ∧ w.heap.size < wr.heap.size) (fun _ _ => 0)
    case atStart => exact ⟨rfl, (Below.refl _ _).grown hg1 (Nat.le_refl _) (by intro k e; cases e), hz1⟩
    case round =>
      obtain ⟨rfl, hb, hz⟩ := hrel
      go_wp2
      go_ret
      exact ⟨_, rfl, fun _ _ => ⟨⟨rfl, Nat.le_refl _, fun e => absurd rfl e⟩, ⟨fun t ht => absurd ht (by omega), Nat.le_refl _, hz, fun j hj => absurd hj (Nat.not_lt_zero _)⟩⟩, hb⟩
  · obtain ⟨g, off, rfl, hc⟩ := h.cells hl
    have HL : Hid (n = bs.length) := hlen
    have HC : Hid (∀ j (h : j < bs.length), ∃ ao m c, at8 w g (off + j * 8) bs[j] ao m c) := hc
    have HD0 : Hid (∀ j (h : j < bs.length), bs[j].l.length ≤ 1048576) := hd
    have hgz : g < w.heap.size := by obtain ⟨_, _, _, hat⟩ := hc 0 (List.length_pos_iff.2 hl); exact World.block_lt_of_cell? w _ hat.c0
    clear h hlen hc hd
    go_enter Tryz.func88, Tryz.ntmps88
    go_wp2_with (first | (at_make; refine make_Z _ 31 97 _ 8 72 Tryz.info97 Tryz.underlying31 (by decide) rfl (.tmp 6) (.tmp 6) rfl _ n rfl rfl rfl (by omega) ?_; intro w1 hrow hg1 hz1))
    go_loopw [4] (fun i wr => ∃ k : Nat, k ≤ n ∧ i = .int .i64 k ∧ rowZ wr w.heap.size (n * 8) ∧ (∀ j (hj : j < k) (h : j < bs.length), ∃ gd m, (w.heap.size < gd ∧ gd < wr.heap.size) ∧ at8 wr w.heap.size (j * 8) bs[j] (some ⟨gd, 0, none⟩) m m ∧ rowF wr gd m) ∧ Below w.heap.size w wr ∧ w.heap.size < wr.heap.size) (fun i _ => n - (intOf i).toNat)
    case atStart => exact ⟨0, Nat.zero_le _, rfl, hrow, fun j hj => absurd hj (Nat.not_lt_zero _), (Below.refl _ _).grown hg1 (Nat.le_refl _) (by intro k e; cases e), hz1⟩
    case round =>
      clear hrow hz1 hg1
      obtain ⟨k, hk, rfl, hrow, hdone, hb, hz⟩ := hrel
      by_cases hlt : k < n
      · have hkl : k < bs.length := by have := HL.out; omega
        obtain ⟨ao, m0, c0, hx⟩ := HC.out k hkl
        have cx0 := (hb.cell (by exact hgz)).trans hx.c0
        have cx1 := (hb.cell (by exact hgz)).trans hx.c1
        have cx2 := (hb.cell (by exact hgz)).trans hx.c2
        have cx3 := (hb.cell (by exact hgz)).trans hx.c3
        have cx4 := (hb.cell (by exact hgz)).trans hx.c4
        have cx5 := (hb.cell (by exact hgz)).trans hx.c5
        have cx6 := (hb.cell (by exact hgz)).trans hx.c6
        have cx7 := (hb.cell (by exact hgz)).trans hx.cs
        have hm0 : m0 ≤ 1048576 := by have := HD0.out k hkl; have := hx.dat.len; omega
        have HY : Hid (isBytes wr ao m0 c0 bs[k].l) := hx.dat.below hb
        have HD : Hid (∀ W, Below wr.heap.size wr W → rowZ W w.heap.size (n * 8) ∧ (∀ j (hj : j < k) (h : j < bs.length), ∃ gd m, (w.heap.size < gd ∧ gd < W.heap.size) ∧ at8 W w.heap.size (j * 8) bs[j] (some ⟨gd, 0, none⟩) m m ∧ rowF W gd m) ∧ Below w.heap.size w W ∧ w.heap.size < W.heap.size) := fun W hW => ⟨hrow.below hW hz, fun j hj hjl => by obtain ⟨gd, m, h1, h2, h3⟩ := hdone j hj hjl; exact ⟨gd, m, ⟨h1.1, Nat.lt_of_lt_of_le h1.2 hW.size⟩, h2.below hW, h3.up (hW.block _ h1.2)⟩, hb.trans (hW.mono (by omega)), Nat.lt_of_lt_of_le hz hW.size⟩
        clear hrow hdone hb hx
        have hkn : k * 8 + 8 ≤ n * 8 := by omega
        have HB : Hid (∀ W gd, gd ≠ w.heap.size → isBytes W (some ⟨gd, 0, none⟩) m0 m0 bs[k].l → rowZ W w.heap.size (n * 8) → at8 (setRow W w.heap.size (k * 8) [.int .i64 bs[k].x, .int .i64 bs[k].y, .int .i64 bs[k].z, .bool bs[k].e, .int .u32 (bs[k].i : Int), .bool bs[k].r, .int .i64 bs[k].d, .slice (some ⟨gd, 0, none⟩) m0 m0]) w.heap.size (k * 8) bs[k] (some ⟨gd, 0, none⟩) m0 m0) := fun W gd h1 h2 hW => at8.new hW (k * 8) hkn bs[k] gd m0 h1 h2
        generalize hBx : bs[k].x = fx at *
        generalize hBy : bs[k].y = fy at *
        generalize hBz : bs[k].z = fz at *
        generalize hBe : bs[k].e = fe at *
        generalize hBi : bs[k].i = fi at *
        generalize hBr : bs[k].r = fr at *
        generalize hBd : bs[k].d = fd at *
        clear hBx hBy hBz hBe hBi hBr hBd
        go_wp2_with (first | (go_at_call 147; refine (toBox_any _ fx fy fz fe fi fr fd ao m0 c0 bs[k].l HY.out hm0).mono ?_; rintro o w5 ⟨gd, rfl, hby, hb5, hgd, hgz5, hrf5⟩; have HRF : Hid (rowF w5 gd m0) := hrf5; clear hrf5; have r1 := (HD.out w5 hb5).1) | (refine wpList_store_mid (P := Tryz.prog) rfl 97 (.tmp 21) (.tmp 20) rfl w.heap.size (k * 8) #[.int .i64 fx, .int .i64 fy, .int .i64 fz, .bool fe, .int .u32 (fi : Int), .bool fr, .int .i64 fd, .slice (some ⟨gd, 0, none⟩) m0 m0] rfl rfl (r1.there (k * 8) 8 hkn) sz95 (one8 _ _ _ _ _ _ _ _ _ _) ?_; generalize hW6 : World.setCells w5 w.heap.size (k * 8) _ = w6; have HW6 : Hid (_ = w6) := hW6; clear hW6))
        go_roundw
        case rel =>
          have hw6 := HW6.out
          rw [setCells_row] at hw6
          subst hw6
          obtain ⟨r1, r2, r3, r4⟩ := HD.out w5 hb5
          have hne : gd ≠ w.heap.size := by omega
          refine ⟨k + 1, by omega, by go_num, r1.put [.int .i64 fx, .int .i64 fy, .int .i64 fz, .bool fe, .int .u32 (fi : Int), .bool fr, .int .i64 fd, .slice (some ⟨gd, 0, none⟩) m0 m0] (k * 8) hkn, fun j hj hjl => ?_, setRow_below _ _ (Nat.le_refl _) w [.int .i64 fx, .int .i64 fy, .int .i64 fz, .bool fe, .int .u32 (fi : Int), .bool fr, .int .i64 fd, .slice (some ⟨gd, 0, none⟩) m0 m0] w5 (k * 8) r3, ?_⟩
          · by_cases e : j = k
            · subst e
              exact ⟨gd, m0, ⟨by omega, by first | (rw [setRow_size]; exact hgz5) | simpa using hgz5⟩, HB.out w5 gd hne hby r1, HRF.out.up (setRow_block w.heap.size gd hne [.int .i64 fx, .int .i64 fy, .int .i64 fz, .bool fe, .int .u32 (fi : Int), .bool fr, .int .i64 fd, .slice (some ⟨gd, 0, none⟩) m0 m0] w5 (j * 8))⟩
            · obtain ⟨gd', m', h1, h2, h3⟩ := r2 j (by omega) hjl
              exact ⟨gd', m', ⟨h1.1, by first | (rw [setRow_size]; exact h1.2) | simpa using h1.2⟩, h2.keep (by omega) [.int .i64 fx, .int .i64 fy, .int .i64 fz, .bool fe, .int .u32 (fi : Int), .bool fr, .int .i64 fd, .slice (some ⟨gd, 0, none⟩) m0 m0] (k * 8) (by simp; omega), h3.up (setRow_block w.heap.size gd' (by omega) [.int .i64 fx, .int .i64 fy, .int .i64 fz, .bool fe, .int .u32 (fi : Int), .bool fr, .int .i64 fd, .slice (some ⟨gd, 0, none⟩) m0 m0] w5 (k * 8))⟩
          · first | (rw [setRow_size]; exact r4) | simpa using r4
        case measure => simp [intOf]; omega
      · go_wp2
        go_ret
        refine ⟨_, rfl, fun W hW => ⟨⟨HL.out, Nat.le_refl _, fun _ => ⟨_, 0, rfl, fun j hj => ?_⟩⟩, ⟨hrow.F.up (hW _ (Nat.le_refl _) hz), Nat.le_refl _, hz, fun j hj => ?_⟩⟩, hb⟩
        · obtain ⟨gd, m, hgd, hat, _⟩ := hdone j (by have := HL.out; omega) hj
          rw [Nat.zero_add]
          exact ⟨_, _, _, hat.up (hW _ (Nat.le_refl _) hz) (hW _ (by omega) hgd.2)⟩
        · obtain ⟨gd, m, hgd, hat, hrf⟩ := hdone j (by omega) (by have := HL.out; omega)
          exact ⟨gd, m, (hat.up (hW _ (Nat.le_refl _) hz) (hW _ (by omega) hgd.2)).cs, hrf.up (hW _ (by omega) hgd.2), by omega, by omega, hgd.2⟩
theorem Tryz.info46 : (Tryz.prog.info? 46).map (fun i => (i.zero, i.size, i.bytes)) = some (some (.agg #[.int .i64 0, .int .i64 0, .int .i64 0, .bool false, .int .u32 0, .bool false, .int .i64 0, .slice none 0 0]), 8, 72) := by kernel_rfl
set_option maxHeartbeats 2000000 in
set_option maxRecDepth 20000 in
theorem toEventS_any (w : World) (a : Option Addr) (n cap : Nat) (bs : List R8) (h : isR8s w a n cap bs) (hn : n ≤ 1048576) (hd : ∀ j (h : j < bs.length), bs[j].l.length ≤ 1048576) :
    Calls Tryz.prog 90 #[.slice a n cap] w fun e w' => ∃ g, e = .returned (.slice (some ⟨g, 0, none⟩) n n) ∧ St w.heap.size w' (fun W => isR8s W (some ⟨g, 0, none⟩) n n bs ∧ wr8 w.heap.size w'.heap.size W g n) ∧ Below w.heap.size w w' := by
  have hlen := h.len
  have hcp := h.cap
  by_cases hl : bs = []
  · subst hl
    have hn0 : n = 0 := hlen
    subst hn0
    clear hlen h hd
    go_enter Tryz.func90, Tryz.ntmps90
    go_wp2_with (first | (at_make; refine make_Z _ 33 46 _ 8 72 Tryz.info46 Tryz.underlying33 (by decide) rfl (.tmp 6) (.tmp 6) rfl _ 0 rfl rfl rfl (by omega) ?_; intro w1 hrow hg1 hz1))
    go_loopw [4] (fun i wr => i = .int .i64 0 ∧ Below w.heap.size w wr ∧ w.heap.size < wr.heap.size) (fun _ _ => 0)
    case atStart => exact ⟨rfl, (Below.refl _ _).grown hg1 (Nat.le_refl _) (by intro k e; cases e), hz1⟩
    case round =>
      obtain ⟨rfl, hb, hz⟩ := hrel
      go_wp2
      go_ret
      exact ⟨_, rfl, fun _ _ => ⟨⟨rfl, Nat.le_refl _, fun e => absurd rfl e⟩, ⟨fun t ht => absurd ht (by omega), Nat.le_refl _, hz, fun j hj => absurd hj (Nat.not_lt_zero _)⟩⟩, hb⟩
  · obtain ⟨g, off, rfl, hc⟩ := h.cells hl
    have HL : Hid (n = bs.length) := hlen
    have HC : Hid (∀ j (h : j < bs.length), ∃ ao m c, at8 w g (off + j * 8) bs[j] ao m c) := hc
    have HD0 : Hid (∀ j (h : j < bs.length), bs[j].l.length ≤ 1048576) := hd
    have hgz : g < w.heap.size := by obtain ⟨_, _, _, hat⟩ := hc 0 (List.length_pos_iff.2 hl); exact World.block_lt_of_cell? w _ hat.c0
    clear h hlen hc hd
    go_enter Tryz.func90, Tryz.ntmps90
    go_wp2_with (first | (at_make; refine make_Z _ 33 46 _ 8 72 Tryz.info46 Tryz.underlying33 (by decide) rfl (.tmp 6) (.tmp 6) rfl _ n rfl rfl rfl (by omega) ?_; intro w1 hrow hg1 hz1))
    go_loopw [4] (fun i wr => ∃ k : Nat, k ≤ n ∧ i = .int .i64 k ∧ rowZ wr w.heap.size (n * 8) ∧ (∀ j (hj : j < k) (h : j < bs.length), ∃ gd m, (w.heap.size < gd ∧ gd < wr.heap.size) ∧ at8 wr w.heap.size (j * 8) bs[j] (some ⟨gd, 0, none⟩) m m ∧ rowF wr gd m) ∧ Below w.heap.size w wr ∧ w.heap.size < wr.heap.size) (fun i _ => n - (intOf i).toNat)
    case atStart => exact ⟨0, Nat.zero_le _, rfl, hrow, fun j hj => absurd hj (Nat.not_lt_zero _), (Below.refl _ _).grown hg1 (Nat.le_refl _) (by intro k e; cases e), hz1⟩
    case round =>
      clear hrow hz1 hg1
      obtain ⟨k, hk, rfl, hrow, hdone, hb, hz⟩ := hrel
      by_cases hlt : k < n
      · have hkl : k < bs.length := by have := HL.out; omega
        obtain ⟨ao, m0, c0, hx⟩ := HC.out k hkl
        have cx0 := (hb.cell (by exact hgz)).trans hx.c0
        have cx1 := (hb.cell (by exact hgz)).trans hx.c1
        have cx2 := (hb.cell (by exact hgz)).trans hx.c2
        have cx3 := (hb.cell (by exact hgz)).trans hx.c3
        have cx4 := (hb.cell (by exact hgz)).trans hx.c4
        have cx5 := (hb.cell (by exact hgz)).trans hx.c5
        have cx6 := (hb.cell (by exact hgz)).trans hx.c6
        have cx7 := (hb.cell (by exact hgz)).trans hx.cs
        have hm0 : m0 ≤ 1048576 := by have := HD0.out k hkl; have := hx.dat.len; omega
        have HY : Hid (isBytes wr ao m0 c0 bs[k].l) := hx.dat.below hb
        have HD : Hid (∀ W, Below wr.heap.size wr W → rowZ W w.heap.size (n * 8) ∧ (∀ j (hj : j < k) (h : j < bs.length), ∃ gd m, (w.heap.size < gd ∧ gd < W.heap.size) ∧ at8 W w.heap.size (j * 8) bs[j] (some ⟨gd, 0, none⟩) m m ∧ rowF W gd m) ∧ Below w.heap.size w W ∧ w.heap.size < W.heap.size) := fun W hW => ⟨hrow.below hW hz, fun j hj hjl => by obtain ⟨gd, m, h1, h2, h3⟩ := hdone j hj hjl; exact ⟨gd, m, ⟨h1.1, Nat.lt_of_lt_of_le h1.2 hW.size⟩, h2.below hW, h3.up (hW.block _ h1.2)⟩, hb.trans (hW.mono (by omega)), Nat.lt_of_lt_of_le hz hW.size⟩
        clear hrow hdone hb hx
        have hkn : k * 8 + 8 ≤ n * 8 := by omega
        have HB : Hid (∀ W gd, gd ≠ w.heap.size → isBytes W (some ⟨gd, 0, none⟩) m0 m0 bs[k].l → rowZ W w.heap.size (n * 8) → at8 (setRow W w.heap.size (k * 8) [.int .i64 bs[k].x, .int .i64 bs[k].y, .int .i64 bs[k].z, .bool bs[k].e, .int .u32 (bs[k].i : Int), .bool bs[k].r, .int .i64 bs[k].d, .slice (some ⟨gd, 0, none⟩) m0 m0]) w.heap.size (k * 8) bs[k] (some ⟨gd, 0, none⟩) m0 m0) := fun W gd h1 h2 hW => at8.new hW (k * 8) hkn bs[k] gd m0 h1 h2
        generalize hBx : bs[k].x = fx at *
        generalize hBy : bs[k].y = fy at *
        generalize hBz : bs[k].z = fz at *
        generalize hBe : bs[k].e = fe at *
        generalize hBi : bs[k].i = fi at *
        generalize hBr : bs[k].r = fr at *
        generalize hBd : bs[k].d = fd at *
        clear hBx hBy hBz hBe hBi hBr hBd
        go_wp2_with (first | (go_at_call 148; refine (toEvent_any _ fx fy fz fe fi fr fd ao m0 c0 bs[k].l HY.out hm0).mono ?_; rintro o w5 ⟨gd, rfl, hby, hb5, hgd, hgz5, hrf5⟩; have HRF : Hid (rowF w5 gd m0) := hrf5; clear hrf5; have r1 := (HD.out w5 hb5).1) | (refine wpList_store_mid (P := Tryz.prog) rfl 46 (.tmp 21) (.tmp 20) rfl w.heap.size (k * 8) #[.int .i64 fx, .int .i64 fy, .int .i64 fz, .bool fe, .int .u32 (fi : Int), .bool fr, .int .i64 fd, .slice (some ⟨gd, 0, none⟩) m0 m0] rfl rfl (r1.there (k * 8) 8 hkn) sz129 (one8 _ _ _ _ _ _ _ _ _ _) ?_; generalize hW6 : World.setCells w5 w.heap.size (k * 8) _ = w6; have HW6 : Hid (_ = w6) := hW6; clear hW6))
        go_roundw
        case rel =>
          have hw6 := HW6.out
          rw [setCells_row] at hw6
          subst hw6
          obtain ⟨r1, r2, r3, r4⟩ := HD.out w5 hb5
          have hne : gd ≠ w.heap.size := by omega
          refine ⟨k + 1, by omega, by go_num, r1.put [.int .i64 fx, .int .i64 fy, .int .i64 fz, .bool fe, .int .u32 (fi : Int), .bool fr, .int .i64 fd, .slice (some ⟨gd, 0, none⟩) m0 m0] (k * 8) hkn, fun j hj hjl => ?_, setRow_below _ _ (Nat.le_refl _) w [.int .i64 fx, .int .i64 fy, .int .i64 fz, .bool fe, .int .u32 (fi : Int), .bool fr, .int .i64 fd, .slice (some ⟨gd, 0, none⟩) m0 m0] w5 (k * 8) r3, ?_⟩
          · by_cases e : j = k
            · subst e
              exact ⟨gd, m0, ⟨by omega, by first | (rw [setRow_size]; exact hgz5) | simpa using hgz5⟩, HB.out w5 gd hne hby r1, HRF.out.up (setRow_block w.heap.size gd hne [.int .i64 fx, .int .i64 fy, .int .i64 fz, .bool fe, .int .u32 (fi : Int), .bool fr, .int .i64 fd, .slice (some ⟨gd, 0, none⟩) m0 m0] w5 (j * 8))⟩
            · obtain ⟨gd', m', h1, h2, h3⟩ := r2 j (by omega) hjl
              exact ⟨gd', m', ⟨h1.1, by first | (rw [setRow_size]; exact h1.2) | simpa using h1.2⟩, h2.keep (by omega) [.int .i64 fx, .int .i64 fy, .int .i64 fz, .bool fe, .int .u32 (fi : Int), .bool fr, .int .i64 fd, .slice (some ⟨gd, 0, none⟩) m0 m0] (k * 8) (by simp; omega), h3.up (setRow_block w.heap.size gd' (by omega) [.int .i64 fx, .int .i64 fy, .int .i64 fz, .bool fe, .int .u32 (fi : Int), .bool fr, .int .i64 fd, .slice (some ⟨gd, 0, none⟩) m0 m0] w5 (k * 8))⟩
          · first | (rw [setRow_size]; exact r4) | simpa using r4
        case measure => simp [intOf]; omega
      · go_wp2
        go_ret
        refine ⟨_, rfl, fun W hW => ⟨⟨HL.out, Nat.le_refl _, fun _ => ⟨_, 0, rfl, fun j hj => ?_⟩⟩, ⟨hrow.F.up (hW _ (Nat.le_refl _) hz), Nat.le_refl _, hz, fun j hj => ?_⟩⟩, hb⟩
        · obtain ⟨gd, m, hgd, hat, _⟩ := hdone j (by have := HL.out; omega) hj
          rw [Nat.zero_add]
          exact ⟨_, _, _, hat.up (hW _ (Nat.le_refl _) hz) (hW _ (by omega) hgd.2)⟩
        · obtain ⟨gd, m, hgd, hat, hrf⟩ := hdone j (by omega) (by have := HL.out; omega)
          exact ⟨gd, m, (hat.up (hW _ (Nat.le_refl _) hz) (hW _ (by omega) hgd.2)).cs, hrf.up (hW _ (by omega) hgd.2), by omega, by omega, hgd.2⟩
end Go.Proofs.YtaamahohdnbpiaaGreat
namespace Go.Proofs.YtaamahohdnbpiaaGreat
open Go.RowKit
/-- a host's value -/
structure Ho where
  c0 : Int
  c1 : Int
  c2 : Int
  c3 : Int
  fs : List R3
  bx : List R8
  ff : List R5
  qu : List R8
  lo : Int
  st : Int
/-- the four slices of a host -/
structure Sl where
  a1 : Option Addr
  n1 : Nat
  k1 : Nat
  a2 : Option Addr
  n2 : Nat
  k2 : Nat
  a3 : Option Addr
  n3 : Nat
  k3 : Nat
  a4 : Option Addr
  n4 : Nat
  k4 : Nat
structure isHo (w : World) (H : Ho) (s : Sl) : Prop where
  fs : isR3s w s.a1 s.n1 s.k1 H.fs
  bx : isR8s w s.a2 s.n2 s.k2 H.bx
  ff : isR5s w s.a3 s.n3 s.k3 H.ff
  qu : isR8s w s.a4 s.n4 s.k4 H.qu
theorem isHo.below {w w' : World} {H : Ho} {s : Sl} (h : isHo w H s) (hb : Below w.heap.size w w') : isHo w' H s := ⟨h.fs.below hb, h.bx.below hb, h.ff.below hb, h.qu.below hb⟩
/-- no list of the host is longer than m -/
structure Ho.le (H : Ho) (m : Nat) : Prop where
  fs : H.fs.length ≤ m
  bx : H.bx.length ≤ m
  ff : H.ff.length ≤ m
  qu : H.qu.length ≤ m
  bd : ∀ j (h : j < H.bx.length), H.bx[j].l.length ≤ m
  fd : ∀ j (h : j < H.ff.length), H.ff[j].l.length ≤ m
  qd : ∀ j (h : j < H.qu.length), H.qu[j].l.length ≤ m
abbrev hoV (H : Ho) (s : Sl) : Value := .agg #[.int .i64 H.c0, .int .i64 H.c1, .int .i64 H.c2, .int .i64 H.c3, .slice s.a1 s.n1 s.k1, .slice s.a2 s.n2 s.k2, .slice s.a3 s.n3 s.k3, .slice s.a4 s.n4 s.k4, .int .i64 H.lo, .int .i64 H.st]
/-- the three blocks of a call's own, behind another call -/
structure Keep3 (b : Nat) (X w' : World) : Prop where
  cp : ∀ o, w'.cell? ⟨b, o, none⟩ = X.cell? ⟨b, o, none⟩
  cr : ∀ o, w'.cell? ⟨b + 1, o, none⟩ = X.cell? ⟨b + 1, o, none⟩
  co : ∀ o, w'.cell? ⟨b + 1 + 1, o, none⟩ = X.cell? ⟨b + 1 + 1, o, none⟩
  fr : ∀ o, w'.frozen? ⟨b + 1, o, none⟩ = X.frozen? ⟨b + 1, o, none⟩
  fo : ∀ o, w'.frozen? ⟨b + 1 + 1, o, none⟩ = X.frozen? ⟨b + 1 + 1, o, none⟩
theorem keep3 {b : Nat} {X w' : World} (hb : Below X.heap.size X w') (hz : b + 3 ≤ X.heap.size) : Keep3 b X w' :=
  ⟨fun o => hb.cell (p := ⟨b, o, none⟩) (by show b < _; omega), fun o => hb.cell (p := ⟨b + 1, o, none⟩) (by show b + 1 < _; omega), fun o => hb.cell (p := ⟨b + 1 + 1, o, none⟩) (by show b + 1 + 1 < _; omega), fun o => hb.frozen (p := ⟨b + 1, o, none⟩) (by show b + 1 < _; omega), fun o => hb.frozen (p := ⟨b + 1 + 1, o, none⟩) (by show b + 1 + 1 < _; omega)⟩
theorem callFilter {w X : World} (hX : Below w.heap.size w X) (hz : w.heap.size + 3 ≤ X.heap.size) {a : Option Addr} {n cap : Nat} {bs : List R3} (h : isR3s w a n cap bs) (hn : bs.length ≤ 1048576) :
    Calls Tryz.prog 87 #[.slice a n cap] X fun e w' => ∃ g, e = .returned (.slice (some ⟨g, 0, none⟩) n n) ∧ St (w.heap.size + 3) w' (fun W => isR3s W (some ⟨g, 0, none⟩) n n bs ∧ rowF W g (n * 3)) ∧ (w.heap.size ≤ g ∧ g < w'.heap.size) ∧ Below X.heap.size X w' ∧ Below w.heap.size w w' ∧ w.heap.size + 3 ≤ w'.heap.size ∧ Keep3 w.heap.size X w' := by
  refine (toFilterS_any X a n cap bs (h.below hX) (by have := h.len; omega)).mono ?_
  rintro e w' ⟨g, rfl, h1, h3, h2⟩
  exact ⟨g, rfl, h1.mono hz, ⟨Nat.le_trans hX.size h3.1, h3.2⟩, h2, hX.trans (h2.mono hX.size), Nat.le_trans hz h2.size, keep3 h2 hz⟩
/-- what of a host may be written -/
structure wrHo (B T : Nat) (W : World) (s : Sl) : Prop where
  e : ∃ g1 g2 g3 g4, s = ⟨some ⟨g1, 0, none⟩, s.n1, s.n1, some ⟨g2, 0, none⟩, s.n2, s.n2, some ⟨g3, 0, none⟩, s.n3, s.n3, some ⟨g4, 0, none⟩, s.n4, s.n4⟩ ∧ rowF W g1 (s.n1 * 3) ∧ (B ≤ g1 ∧ g1 < T) ∧ wr8 B T W g2 s.n2 ∧ wr5 B T W g3 s.n3 ∧ wr8 B T W g4 s.n4
end Go.Proofs.YtaamahohdnbpiaaGreat
namespace Go.Proofs.YtaamahohdnbpiaaGreat
open Go.RowKit
theorem invFilter_be (W W' : World) (g1 g2 A B : Nat) (ge : Bool) (gm : Int) (gk : Int) (h : W.cell? ⟨g1, A, none⟩ = some (.bool ge) ∧ W.cell? ⟨g1, A + 1, none⟩ = some (.int .u32 gm) ∧ W.cell? ⟨g1, A + 2, none⟩ = some (.int .u32 gk) ∧ W.cell? ⟨g2, B, none⟩ = some (.bool ge) ∧ W.cell? ⟨g2, B + 1, none⟩ = some (.int .u32 gm) ∧ W.cell? ⟨g2, B + 2, none⟩ = some (.int .u32 gk) ∧ g1 < W.heap.size ∧ g2 < W.heap.size) (hb : Below W.heap.size W W') : (fun W => W.cell? ⟨g1, A, none⟩ = some (.bool ge) ∧ W.cell? ⟨g1, A + 1, none⟩ = some (.int .u32 gm) ∧ W.cell? ⟨g1, A + 2, none⟩ = some (.int .u32 gk) ∧ W.cell? ⟨g2, B, none⟩ = some (.bool ge) ∧ W.cell? ⟨g2, B + 1, none⟩ = some (.int .u32 gm) ∧ W.cell? ⟨g2, B + 2, none⟩ = some (.int .u32 gk) ∧ g1 < W.heap.size ∧ g2 < W.heap.size) W' := by
  obtain ⟨a0, a1, a2, b0, b1, b2, s1, s2⟩ := h
  exact ⟨(hb.cell (by exact s1)).trans a0, (hb.cell (by exact s1)).trans a1, (hb.cell (by exact s1)).trans a2, (hb.cell (by exact s2)).trans b0, (hb.cell (by exact s2)).trans b1, (hb.cell (by exact s2)).trans b2, Nat.lt_of_lt_of_le s1 hb.size, Nat.lt_of_lt_of_le s2 hb.size⟩
set_option maxHeartbeats 4000000 in
set_option maxRecDepth 20000 in
theorem eqFilterS_same (w : World) (a1 a2 : Option Addr) (n1 c1 n2 c2 : Nat) (bs : List R3) (h1 : isR3s w a1 n1 c1 bs) (h2 : isR3s w a2 n2 c2 bs) (hn : n1 ≤ 1048576) :
    Calls Tryz.prog 92 #[.slice a1 n1 c1, .slice a2 n2 c2] w fun o w' => o = .returned (.bool true) ∧ Below w.heap.size w w' := by
  have e1 := h1.len
  have e2 := h2.len
  by_cases hl : bs = []
  · subst hl
    have e1' : n1 = 0 := e1
    have e2' : n2 = 0 := e2
    subst e1' e2'
    clear e1 e2 h1 h2
    go_enter Tryz.func92, Tryz.ntmps92
    go_wp2
    go_loopw [5] (fun i wr => i = .int .i64 0 ∧ wr = w) (fun _ _ => 0)
    case atStart => exact ⟨rfl, rfl⟩
    case round =>
      obtain ⟨rfl, rfl⟩ := hrel
      go_wp2
      go_ret
      exact ⟨rfl, Below.refl _ _⟩
  · obtain ⟨g1, o1, rfl, k1⟩ := h1.cells hl
    obtain ⟨g2, o2, rfl, k2⟩ := h2.cells hl
    have hnn : n2 = n1 := by omega
    subst hnn
    have HL : Hid (n2 = bs.length) := e2
    have HK1 : Hid (∀ j (h : j < bs.length), at3 w g1 (o1 + j * 3) bs[j]) := k1
    have HK2 : Hid (∀ j (h : j < bs.length), at3 w g2 (o2 + j * 3) bs[j]) := k2
    have hcp1 := h1.cap
    have hcp2 := h2.cap
    clear e1 e2 h1 h2 k1 k2
    go_enter Tryz.func92, Tryz.ntmps92
    go_wp2
    go_loopw [5] (fun i wr => ∃ k : Nat, k ≤ n2 ∧ i = .int .i64 k ∧ Below w.heap.size w wr) (fun i _ => n2 - (intOf i).toNat)
    case atStart => exact ⟨0, Nat.zero_le _, rfl, Below.refl _ _⟩
    case round =>
      obtain ⟨k, hk, rfl, hb⟩ := hrel
      by_cases hlt : k < n2
      · have hkl : k < bs.length := by have := HL.out; omega
        have y1 := HK1.out k hkl
        have y2 := HK2.out k hkl
        have z1 := World.block_lt_of_cell? w _ y1.c0
        have z2 := World.block_lt_of_cell? w _ y2.c0
        have hS0 : wr.cell? ⟨g1, o1 + k * 3, none⟩ = some (.bool bs[k].e) ∧ wr.cell? ⟨g1, o1 + k * 3 + 1, none⟩ = some (.int .u32 bs[k].m) ∧ wr.cell? ⟨g1, o1 + k * 3 + 2, none⟩ = some (.int .u32 bs[k].k) ∧ wr.cell? ⟨g2, o2 + k * 3, none⟩ = some (.bool bs[k].e) ∧ wr.cell? ⟨g2, o2 + k * 3 + 1, none⟩ = some (.int .u32 bs[k].m) ∧ wr.cell? ⟨g2, o2 + k * 3 + 2, none⟩ = some (.int .u32 bs[k].k) ∧ g1 < wr.heap.size ∧ g2 < wr.heap.size := ⟨(hb.cell (by exact z1)).trans y1.c0, (hb.cell (by exact z1)).trans y1.c1, (hb.cell (by exact z1)).trans y1.c2, (hb.cell (by exact z2)).trans y2.c0, (hb.cell (by exact z2)).trans y2.c1, (hb.cell (by exact z2)).trans y2.c2, Nat.lt_of_lt_of_le z1 hb.size, Nat.lt_of_lt_of_le z2 hb.size⟩
        have HB : Hid (Below w.heap.size w wr) := hb
        clear hb y1 y2 z1 z2
        generalize hBe : bs[k].e = ge at *
        generalize hBm : bs[k].m = gm at *
        generalize hBk : bs[k].k = gk at *
        clear hBe hBm hBk
        go_wp2
        go_region_held3 (fun W => W.cell? ⟨g1, o1 + k * 3, none⟩ = some (.bool ge) ∧ W.cell? ⟨g1, o1 + k * 3 + 1, none⟩ = some (.int .u32 gm) ∧ W.cell? ⟨g1, o1 + k * 3 + 2, none⟩ = some (.int .u32 gk) ∧ W.cell? ⟨g2, o2 + k * 3, none⟩ = some (.bool ge) ∧ W.cell? ⟨g2, o2 + k * 3 + 1, none⟩ = some (.int .u32 gm) ∧ W.cell? ⟨g2, o2 + k * 3 + 2, none⟩ = some (.int .u32 gk) ∧ g1 < W.heap.size ∧ g2 < W.heap.size) (first | exact invFilter_be _ _ _ _ _ _ _ _ _ hS0 (Below.refl _ _).drew | exact invFilter_be _ _ _ _ _ _ _ _ _ (by assumption) (by assumption)) (first | (go_at_call 149; refine (eqFilter_same _ ge gm gk).mono ?_; rintro o w5 ⟨rfl, hb5⟩))
        go_wp2
        go_roundw
        case rel => exact ⟨k + 1, by omega, by go_num, HB.out.trans (((Below.refl _ _).drew.trans hb5).mono HB.out.size)⟩
        case measure => simp [intOf]; omega
      · go_wp2
        go_ret
        exact ⟨rfl, hb⟩
end Go.Proofs.YtaamahohdnbpiaaGreat
