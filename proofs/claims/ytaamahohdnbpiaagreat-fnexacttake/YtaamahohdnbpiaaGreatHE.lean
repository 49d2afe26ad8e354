import Derived.Test.YtaamahohdnbpiaaGreatGA
import Derived.Test.YtaamahohdnbpiaaGreatHD
namespace Go.Proofs.YtaamahohdnbpiaaGreat
open Go.RowKit
/-- a record of 5 cells, the last one the slice of its bytes -/
structure R5 where
  e : Bool
  i : Nat
  r : Bool
  d : Int
  l : List Nat
structure at5 (w : World) (g o : Nat) (b : R5) (ao : Option Addr) (m c : Nat) : Prop where
  c0 : w.cell? ⟨g, o, none⟩ = some (.bool b.e)
  c1 : w.cell? ⟨g, o + 1, none⟩ = some (.int .u32 (b.i : Int))
  c2 : w.cell? ⟨g, o + 2, none⟩ = some (.bool b.r)
  c3 : w.cell? ⟨g, o + 3, none⟩ = some (.int .i64 b.d)
  cs : w.cell? ⟨g, o + 4, none⟩ = some (.slice ao m c)
  dat : isBytes w ao m c b.l
structure isR5s (w : World) (a : Option Addr) (n cap : Nat) (bs : List R5) : Prop where
  len : n = bs.length
  cap : n ≤ cap
  cells : bs ≠ [] → ∃ g off, a = some ⟨g, off, none⟩ ∧ ∀ j (h : j < bs.length), ∃ ao m c, at5 w g (off + j * 5) bs[j] ao m c
theorem at5.below {w w' : World} {g o : Nat} {b : R5} {ao : Option Addr} {m c : Nat} (h : at5 w g o b ao m c) (hb : Below w.heap.size w w') : at5 w' g o b ao m c := by
  have hg := World.block_lt_of_cell? w _ h.c0
  exact ⟨(hb.cell (by exact hg)).trans h.c0, (hb.cell (by exact hg)).trans h.c1, (hb.cell (by exact hg)).trans h.c2, (hb.cell (by exact hg)).trans h.c3, (hb.cell (by exact hg)).trans h.cs, h.dat.below hb⟩
theorem isR5s.below {w w' : World} {a : Option Addr} {n cap : Nat} {bs : List R5} (h : isR5s w a n cap bs) (hb : Below w.heap.size w w') : isR5s w' a n cap bs := by
  refine ⟨h.len, h.cap, fun hl => ?_⟩
  obtain ⟨g, off, ha, hc⟩ := h.cells hl
  exact ⟨g, off, ha, fun j hj => by obtain ⟨ao, m, c, hat⟩ := hc j hj; exact ⟨ao, m, c, hat.below hb⟩⟩
theorem at5.up {W w : World} {g o : Nat} {b : R5} {gd m c : Nat} (h : at5 w g o b (some ⟨gd, 0, none⟩) m c) (he : W.heap[g]? = w.heap[g]?) (hd : W.heap[gd]? = w.heap[gd]?) : at5 W g o b (some ⟨gd, 0, none⟩) m c :=
  ⟨cell_up h.c0 he, cell_up h.c1 he, cell_up h.c2 he, cell_up h.c3 he, cell_up h.cs he, h.dat.other hd⟩
theorem at5.keep {w : World} {g o : Nat} {b : R5} {gd m c : Nat} (h : at5 w g o b (some ⟨gd, 0, none⟩) m c) (hne : gd ≠ g) (vs : List Value) (p : Nat) (hp : o + 5 ≤ p ∨ p + vs.length ≤ o) : at5 (setRow w g p vs) g o b (some ⟨gd, 0, none⟩) m c :=
  ⟨(setRow_other g vs w p (o) (by omega)).trans h.c0, (setRow_other g vs w p (o + 1) (by omega)).trans h.c1, (setRow_other g vs w p (o + 2) (by omega)).trans h.c2, (setRow_other g vs w p (o + 3) (by omega)).trans h.c3, (setRow_other g vs w p (o + 4) (by omega)).trans h.cs, h.dat.other (setRow_block g gd hne vs w p)⟩
theorem at5.new {w : World} {g M : Nat} (h : rowZ w g M) (p : Nat) (hp : p + 5 ≤ M) (b : R5) (gd m : Nat) (hne : gd ≠ g) (hd : isBytes w (some ⟨gd, 0, none⟩) m m b.l) : at5 (setRow w g p [.bool b.e, .int .u32 (b.i : Int), .bool b.r, .int .i64 b.d, .slice (some ⟨gd, 0, none⟩) m m]) g p b (some ⟨gd, 0, none⟩) m m :=
  ⟨setRow_at g _ w p 0 (by simp) (h.cell (p + 0) (by omega)), setRow_at g _ w p 1 (by simp) (h.cell (p + 1) (by omega)), setRow_at g _ w p 2 (by simp) (h.cell (p + 2) (by omega)), setRow_at g _ w p 3 (by simp) (h.cell (p + 3) (by omega)), setRow_at g _ w p 4 (by simp) (h.cell (p + 4) (by omega)), hd.other (setRow_block g gd hne _ w p)⟩
/-- a record of 8 cells, the last one the slice of its bytes -/
structure R8 where
  x : Int
  y : Int
  z : Int
  e : Bool
  i : Nat
  r : Bool
  d : Int
  l : List Nat
structure at8 (w : World) (g o : Nat) (b : R8) (ao : Option Addr) (m c : Nat) : Prop where
  c0 : w.cell? ⟨g, o, none⟩ = some (.int .i64 b.x)
  c1 : w.cell? ⟨g, o + 1, none⟩ = some (.int .i64 b.y)
  c2 : w.cell? ⟨g, o + 2, none⟩ = some (.int .i64 b.z)
  c3 : w.cell? ⟨g, o + 3, none⟩ = some (.bool b.e)
  c4 : w.cell? ⟨g, o + 4, none⟩ = some (.int .u32 (b.i : Int))
  c5 : w.cell? ⟨g, o + 5, none⟩ = some (.bool b.r)
  c6 : w.cell? ⟨g, o + 6, none⟩ = some (.int .i64 b.d)
  cs : w.cell? ⟨g, o + 7, none⟩ = some (.slice ao m c)
  dat : isBytes w ao m c b.l
structure isR8s (w : World) (a : Option Addr) (n cap : Nat) (bs : List R8) : Prop where
  len : n = bs.length
  cap : n ≤ cap
  cells : bs ≠ [] → ∃ g off, a = some ⟨g, off, none⟩ ∧ ∀ j (h : j < bs.length), ∃ ao m c, at8 w g (off + j * 8) bs[j] ao m c
theorem at8.below {w w' : World} {g o : Nat} {b : R8} {ao : Option Addr} {m c : Nat} (h : at8 w g o b ao m c) (hb : Below w.heap.size w w') : at8 w' g o b ao m c := by
  have hg := World.block_lt_of_cell? w _ h.c0
  exact ⟨(hb.cell (by exact hg)).trans h.c0, (hb.cell (by exact hg)).trans h.c1, (hb.cell (by exact hg)).trans h.c2, (hb.cell (by exact hg)).trans h.c3, (hb.cell (by exact hg)).trans h.c4, (hb.cell (by exact hg)).trans h.c5, (hb.cell (by exact hg)).trans h.c6, (hb.cell (by exact hg)).trans h.cs, h.dat.below hb⟩
theorem isR8s.below {w w' : World} {a : Option Addr} {n cap : Nat} {bs : List R8} (h : isR8s w a n cap bs) (hb : Below w.heap.size w w') : isR8s w' a n cap bs := by
  refine ⟨h.len, h.cap, fun hl => ?_⟩
  obtain ⟨g, off, ha, hc⟩ := h.cells hl
  exact ⟨g, off, ha, fun j hj => by obtain ⟨ao, m, c, hat⟩ := hc j hj; exact ⟨ao, m, c, hat.below hb⟩⟩
theorem at8.up {W w : World} {g o : Nat} {b : R8} {gd m c : Nat} (h : at8 w g o b (some ⟨gd, 0, none⟩) m c) (he : W.heap[g]? = w.heap[g]?) (hd : W.heap[gd]? = w.heap[gd]?) : at8 W g o b (some ⟨gd, 0, none⟩) m c :=
  ⟨cell_up h.c0 he, cell_up h.c1 he, cell_up h.c2 he, cell_up h.c3 he, cell_up h.c4 he, cell_up h.c5 he, cell_up h.c6 he, cell_up h.cs he, h.dat.other hd⟩
theorem at8.keep {w : World} {g o : Nat} {b : R8} {gd m c : Nat} (h : at8 w g o b (some ⟨gd, 0, none⟩) m c) (hne : gd ≠ g) (vs : List Value) (p : Nat) (hp : o + 8 ≤ p ∨ p + vs.length ≤ o) : at8 (setRow w g p vs) g o b (some ⟨gd, 0, none⟩) m c :=
  ⟨(setRow_other g vs w p (o) (by omega)).trans h.c0, (setRow_other g vs w p (o + 1) (by omega)).trans h.c1, (setRow_other g vs w p (o + 2) (by omega)).trans h.c2, (setRow_other g vs w p (o + 3) (by omega)).trans h.c3, (setRow_other g vs w p (o + 4) (by omega)).trans h.c4, (setRow_other g vs w p (o + 5) (by omega)).trans h.c5, (setRow_other g vs w p (o + 6) (by omega)).trans h.c6, (setRow_other g vs w p (o + 7) (by omega)).trans h.cs, h.dat.other (setRow_block g gd hne vs w p)⟩
theorem at8.new {w : World} {g M : Nat} (h : rowZ w g M) (p : Nat) (hp : p + 8 ≤ M) (b : R8) (gd m : Nat) (hne : gd ≠ g) (hd : isBytes w (some ⟨gd, 0, none⟩) m m b.l) : at8 (setRow w g p [.int .i64 b.x, .int .i64 b.y, .int .i64 b.z, .bool b.e, .int .u32 (b.i : Int), .bool b.r, .int .i64 b.d, .slice (some ⟨gd, 0, none⟩) m m]) g p b (some ⟨gd, 0, none⟩) m m :=
  ⟨setRow_at g _ w p 0 (by simp) (h.cell (p + 0) (by omega)), setRow_at g _ w p 1 (by simp) (h.cell (p + 1) (by omega)), setRow_at g _ w p 2 (by simp) (h.cell (p + 2) (by omega)), setRow_at g _ w p 3 (by simp) (h.cell (p + 3) (by omega)), setRow_at g _ w p 4 (by simp) (h.cell (p + 4) (by omega)), setRow_at g _ w p 5 (by simp) (h.cell (p + 5) (by omega)), setRow_at g _ w p 6 (by simp) (h.cell (p + 6) (by omega)), setRow_at g _ w p 7 (by simp) (h.cell (p + 7) (by omega)), hd.other (setRow_block g gd hne _ w p)⟩
/-- n records of 5 cells that may be written, and their bytes too; all lie from B on and below T -/
structure wr5 (B T : Nat) (W : World) (g n : Nat) : Prop where
  row : rowF W g (n * 5)
  lo : B ≤ g
  hi : g < T
  dat : ∀ j, j < n → ∃ gd m, W.cell? ⟨g, j * 5 + 4, none⟩ = some (.slice (some ⟨gd, 0, none⟩) m m) ∧ rowF W gd m ∧ gd ≠ g ∧ B ≤ gd ∧ gd < T
theorem wr5.mono {B T B' T' : Nat} {W : World} {g n : Nat} (h : wr5 B T W g n) (hB : B' ≤ B) (hT : T ≤ T') : wr5 B' T' W g n :=
  ⟨h.row, by have := h.lo; omega, by have := h.hi; omega, fun j hj => by obtain ⟨gd, m, h1, h2, h3, h4, h5⟩ := h.dat j hj; exact ⟨gd, m, h1, h2, h3, by omega, by omega⟩⟩
theorem Tryz.info25 : (Tryz.prog.info? 25).map (fun i => (i.zero, i.size, i.bytes)) = some (some (.agg #[.bool false, .int .u32 0, .bool false, .int .i64 0, .slice none 0 0]), 5, 48) := by kernel_rfl
set_option maxHeartbeats 2000000 in
set_option maxRecDepth 20000 in
theorem toFrameS_any (w : World) (a : Option Addr) (n cap : Nat) (bs : List R5) (h : isR5s w a n cap bs) (hn : n ≤ 1048576) (hd : ∀ j (h : j < bs.length), bs[j].l.length ≤ 1048576) :
    Calls Tryz.prog 89 #[.slice a n cap] w fun e w' => ∃ g, e = .returned (.slice (some ⟨g, 0, none⟩) n n) ∧ St w.heap.size w' (fun W => isR5s W (some ⟨g, 0, none⟩) n n bs ∧ wr5 w.heap.size w'.heap.size W g n) ∧ Below w.heap.size w w' := by
  have hlen := h.len
  have hcp := h.cap
  by_cases hl : bs = []
  · subst hl
    have hn0 : n = 0 := hlen
    subst hn0
    clear hlen h hd
    go_enter Tryz.func89, Tryz.ntmps89
    go_wp2_with (first | (at_make; refine make_Z _ 32 25 _ 5 48 Tryz.info25 Tryz.underlying32 (by decide) rfl (.tmp 6) (.tmp 6) rfl _ 0 rfl rfl rfl (by omega) ?_; intro w1 hrow hg1 hz1))
    go_loopw [4] (fun i wr => i = .int .i64 0 ∧ Below w.heap.size w wr ∧ w.heap.size < wr.heap.size) (fun _ _ => 0)
    case atStart => exact ⟨rfl, (Below.refl _ _).grown hg1 (Nat.le_refl _) (by intro k e; cases e), hz1⟩
    case round =>
      obtain ⟨rfl, hb, hz⟩ := hrel
      go_wp2
      go_ret
      exact ⟨_, rfl, fun _ _ => ⟨⟨rfl, Nat.le_refl _, fun e => absurd rfl e⟩, ⟨fun t ht => absurd ht (by omega), Nat.le_refl _, hz, fun j hj => absurd hj (Nat.not_lt_zero _)⟩⟩, hb⟩
  · obtain ⟨g, off, rfl, hc⟩ := h.cells hl
    have HL : Hid (n = bs.length) := hlen
    have HC : Hid (∀ j (h : j < bs.length), ∃ ao m c, at5 w g (off + j * 5) bs[j] ao m c) := hc
    have HD0 : Hid (∀ j (h : j < bs.length), bs[j].l.length ≤ 1048576) := hd
    have hgz : g < w.heap.size := by obtain ⟨_, _, _, hat⟩ := hc 0 (List.length_pos_iff.2 hl); exact World.block_lt_of_cell? w _ hat.c0
    clear h hlen hc hd
    go_enter Tryz.func89, Tryz.ntmps89
    go_wp2_with (first | (at_make; refine make_Z _ 32 25 _ 5 48 Tryz.info25 Tryz.underlying32 (by decide) rfl (.tmp 6) (.tmp 6) rfl _ n rfl rfl rfl (by omega) ?_; intro w1 hrow hg1 hz1))
    go_loopw [4] (fun i wr => ∃ k : Nat, k ≤ n ∧ i = .int .i64 k ∧ rowZ wr w.heap.size (n * 5) ∧ (∀ j (hj : j < k) (h : j < bs.length), ∃ gd m, (w.heap.size < gd ∧ gd < wr.heap.size) ∧ at5 wr w.heap.size (j * 5) bs[j] (some ⟨gd, 0, none⟩) m m ∧ rowF wr gd m) ∧ Below w.heap.size w wr ∧ w.heap.size < wr.heap.size) (fun i _ => n - (intOf i).toNat)
    case atStart => exact ⟨0, Nat.zero_le _, rfl, hrow, fun j hj => absurd hj (Nat.not_lt_zero _), (Below.refl _ _).grown hg1 (Nat.le_refl _) (by intro k e; cases e), hz1⟩
    case round =>
      clear hrow hz1 hg1
      obtain ⟨k, hk, rfl, hrow, hdone, hb, hz⟩ := hrel
      by_cases hlt : k < n
      · have hkl : k < bs.length := by have := HL.out; omega
        obtain ⟨ao, m0, c0, hx⟩ := HC.out k hkl
        have cx0 := (hb.cell (by exact hgz)).trans hx.c0
        have cx1 := (hb.cell (by exact hgz)).trans hx.c1
        have cx2 := (hb.cell (by exact hgz)).trans hx.c2
        have cx3 := (hb.cell (by exact hgz)).trans hx.c3
        have cx4 := (hb.cell (by exact hgz)).trans hx.cs
        have hm0 : m0 ≤ 1048576 := by have := HD0.out k hkl; have := hx.dat.len; omega
        have HY : Hid (isBytes wr ao m0 c0 bs[k].l) := hx.dat.below hb
        have HD : Hid (∀ W, Below wr.heap.size wr W → rowZ W w.heap.size (n * 5) ∧ (∀ j (hj : j < k) (h : j < bs.length), ∃ gd m, (w.heap.size < gd ∧ gd < W.heap.size) ∧ at5 W w.heap.size (j * 5) bs[j] (some ⟨gd, 0, none⟩) m m ∧ rowF W gd m) ∧ Below w.heap.size w W ∧ w.heap.size < W.heap.size) := fun W hW => ⟨hrow.below hW hz, fun j hj hjl => by obtain ⟨gd, m, h1, h2, h3⟩ := hdone j hj hjl; exact ⟨gd, m, ⟨h1.1, Nat.lt_of_lt_of_le h1.2 hW.size⟩, h2.below hW, h3.up (hW.block _ h1.2)⟩, hb.trans (hW.mono (by omega)), Nat.lt_of_lt_of_le hz hW.size⟩
        clear hrow hdone hb hx
        have hkn : k * 5 + 5 ≤ n * 5 := by omega
        have HB : Hid (∀ W gd, gd ≠ w.heap.size → isBytes W (some ⟨gd, 0, none⟩) m0 m0 bs[k].l → rowZ W w.heap.size (n * 5) → at5 (setRow W w.heap.size (k * 5) [.bool bs[k].e, .int .u32 (bs[k].i : Int), .bool bs[k].r, .int .i64 bs[k].d, .slice (some ⟨gd, 0, none⟩) m0 m0]) w.heap.size (k * 5) bs[k] (some ⟨gd, 0, none⟩) m0 m0) := fun W gd h1 h2 hW => at5.new hW (k * 5) hkn bs[k] gd m0 h1 h2
        generalize hBe : bs[k].e = fe at *
        generalize hBi : bs[k].i = fi at *
        generalize hBr : bs[k].r = fr at *
        generalize hBd : bs[k].d = fd at *
        clear hBe hBi hBr hBd
        go_wp2_with (first | (go_at_call 47; refine (toFrame_any _ fe fi fr fd ao m0 c0 bs[k].l HY.out hm0).mono ?_; rintro o w5 ⟨gd, rfl, hby, hb5, hgd, hgz5, hrf5⟩; have HRF : Hid (rowF w5 gd m0) := hrf5; clear hrf5; obtain ⟨cv0, cz0⟩ := (HD.out w5 hb5).1.cell (k * 5) (by omega); have cf0 := (HD.out w5 hb5).1.free (k * 5); obtain ⟨cv1, cz1⟩ := (HD.out w5 hb5).1.cell (k * 5 + 1) (by omega); have cf1 := (HD.out w5 hb5).1.free (k * 5 + 1); obtain ⟨cv2, cz2⟩ := (HD.out w5 hb5).1.cell (k * 5 + 2) (by omega); have cf2 := (HD.out w5 hb5).1.free (k * 5 + 2); obtain ⟨cv3, cz3⟩ := (HD.out w5 hb5).1.cell (k * 5 + 3) (by omega); have cf3 := (HD.out w5 hb5).1.free (k * 5 + 3); obtain ⟨cv4, cz4⟩ := (HD.out w5 hb5).1.cell (k * 5 + 4) (by omega); have cf4 := (HD.out w5 hb5).1.free (k * 5 + 4)))
        go_roundw
        case rel =>
          skip
          skip
          skip
          obtain ⟨r1, r2, r3, r4⟩ := HD.out w5 hb5
          have hne : gd ≠ w.heap.size := by omega
          refine ⟨k + 1, by omega, by go_num, r1.put [.bool fe, .int .u32 (fi : Int), .bool fr, .int .i64 fd, .slice (some ⟨gd, 0, none⟩) m0 m0] (k * 5) hkn, fun j hj hjl => ?_, setRow_below _ _ (Nat.le_refl _) w [.bool fe, .int .u32 (fi : Int), .bool fr, .int .i64 fd, .slice (some ⟨gd, 0, none⟩) m0 m0] w5 (k * 5) r3, ?_⟩
          · by_cases e : j = k
            · subst e
              exact ⟨gd, m0, ⟨by omega, by first | (rw [setRow_size]; exact hgz5) | simpa using hgz5⟩, HB.out w5 gd hne hby r1, HRF.out.up (setRow_block w.heap.size gd hne [.bool fe, .int .u32 (fi : Int), .bool fr, .int .i64 fd, .slice (some ⟨gd, 0, none⟩) m0 m0] w5 (j * 5))⟩
            · obtain ⟨gd', m', h1, h2, h3⟩ := r2 j (by omega) hjl
              exact ⟨gd', m', ⟨h1.1, by first | (rw [setRow_size]; exact h1.2) | simpa using h1.2⟩, h2.keep (by omega) [.bool fe, .int .u32 (fi : Int), .bool fr, .int .i64 fd, .slice (some ⟨gd, 0, none⟩) m0 m0] (k * 5) (by simp; omega), h3.up (setRow_block w.heap.size gd' (by omega) [.bool fe, .int .u32 (fi : Int), .bool fr, .int .i64 fd, .slice (some ⟨gd, 0, none⟩) m0 m0] w5 (k * 5))⟩
          · first | (rw [setRow_size]; exact r4) | simpa using r4
        case measure => simp [intOf]; omega
      · go_wp2
        go_ret
        refine ⟨_, rfl, fun W hW => ⟨⟨HL.out, Nat.le_refl _, fun _ => ⟨_, 0, rfl, fun j hj => ?_⟩⟩, ⟨hrow.F.up (hW _ (Nat.le_refl _) hz), Nat.le_refl _, hz, fun j hj => ?_⟩⟩, hb⟩
        · obtain ⟨gd, m, hgd, hat, _⟩ := hdone j (by have := HL.out; omega) hj
          rw [Nat.zero_add]
          exact ⟨_, _, _, hat.up (hW _ (Nat.le_refl _) hz) (hW _ (by omega) hgd.2)⟩
        · obtain ⟨gd, m, hgd, hat, hrf⟩ := hdone j (by omega) (by have := HL.out; omega)
          exact ⟨gd, m, (hat.up (hW _ (Nat.le_refl _) hz) (hW _ (by omega) hgd.2)).cs, hrf.up (hW _ (by omega) hgd.2), by omega, by omega, hgd.2⟩
end Go.Proofs.YtaamahohdnbpiaaGreat
