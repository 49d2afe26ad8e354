import Derived.Test.YtaamahohdnbpiaaGreatHE
import Derived.Deep.MidRow
namespace Go.Proofs.YtaamahohdnbpiaaGreat
open Go.RowKit
theorem setCells_row (g : Nat) : ∀ (vs : List Value) (w : World) (p : Nat), w.setCells g p vs = setRow w g p vs := by
  intro vs
  induction vs with
  | nil => intro w p; rfl
  | cons v vs ih => intro w p; exact ih _ (p + 1)
theorem rowZ.there {w : World} {g N : Nat} (h : rowZ w g N) (p n : Nat) (hp : p + n ≤ N) : w.there g p n := fun j hj => by
  obtain ⟨v, hv⟩ := h.cell (p + j) (by omega)
  exact ⟨by rw [hv]; rfl, h.free _⟩
theorem one8 (x y z : Int) (e : Bool) (i : Int) (r : Bool) (d : Int) (a : Option Addr) (n c : Nat) : (#[.int .i64 x, .int .i64 y, .int .i64 z, .bool e, .int .u32 i, .bool r, .int .i64 d, .slice a n c] : Array Value).all (·.oneCell') = true :=
  all_oneCell_toArray (by simp [Value.oneCell'])
/-- n records of 8 cells that may be written, and their bytes too; all lie from B on and below T -/
structure wr8 (B T : Nat) (W : World) (g n : Nat) : Prop where
  row : rowF W g (n * 8)
  lo : B ≤ g
  hi : g < T
  dat : ∀ j, j < n → ∃ gd m, W.cell? ⟨g, j * 8 + 7, none⟩ = some (.slice (some ⟨gd, 0, none⟩) m m) ∧ rowF W gd m ∧ gd ≠ g ∧ B ≤ gd ∧ gd < T
theorem wr8.mono {B T B' T' : Nat} {W : World} {g n : Nat} (h : wr8 B T W g n) (hB : B' ≤ B) (hT : T ≤ T') : wr8 B' T' W g n :=
  ⟨h.row, by have := h.lo; omega, by have := h.hi; omega, fun j hj => by obtain ⟨gd, m, h1, h2, h3, h4, h5⟩ := h.dat j hj; exact ⟨gd, m, h1, h2, h3, by omega, by omega⟩⟩
theorem sz95 : (Tryz.prog.info? 97).map (·.size) = some 8 := by kernel_rfl
theorem sz129 : (Tryz.prog.info? 46).map (·.size) = some 8 := by kernel_rfl
theorem Tryz.info97 : (Tryz.prog.info? 97).map (fun i => (i.zero, i.size, i.bytes)) = some (some (.agg #[.int .i64 0, .int .i64 0, .int .i64 0, .bool false, .int .u32 0, .bool false, .int .i64 0, .slice none 0 0]), 8, 72) := by kernel_rfl
set_option maxHeartbeats 2000000 in
set_option maxRecDepth 20000 in
theorem toBoxS_any (w : World) (a : Option Addr) (n cap : Nat) (bs : List R8) (h : isR8s w a n cap bs) (hn : n ≤ 1048576) (hd : ∀ j (h : j < bs.length), bs[j].l.length ≤ 1048576) :
    Calls Tryz.prog 88 #[.slice a n cap] w fun e w' => ∃ g, e = .returned (.slice (some ⟨g, 0, none⟩) n n) ∧ St w.heap.size w' (fun W => isR8s W (some ⟨g, 0, none⟩) n n bs ∧ wr8 w.heap.size w'.heap.size W g n) ∧ Below w.heap.size w w' := by
  have hlen := h.len
  have hcp := h.cap
  by_cases hl : bs = []
  · subst hl
    have hn0 : n = 0 := hlen
    subst hn0
    clear hlen h hd
    go_enter Tryz.func88, Tryz.ntmps88
    go_wp2_with (first | (at_make; refine make_Z _ 31 97 _ 8 72 Tryz.info97 Tryz.underlying31 (by decide) rfl (.tmp 6) (.tmp 6) rfl _ 0 rfl rfl rfl (by omega) ?_; intro w1 hrow hg1 hz1))
    go_loopw [4] (fun i wr => i = .int .i64 0 ∧ Below w.heap.size w wr ∧ w.heap.size < wr.heap.size) (fun _ _ => 0)
    case atStart => exact ⟨rfl, (Below.refl _ _).grown hg1 (Nat.le_refl _) (by intro k e; cases e), hz1⟩
    case round =>
      obtain ⟨rfl, hb, hz⟩ := hrel
      go_wp2
      go_ret
      exact ⟨_, rfl, fun _ _ => ⟨⟨rfl, Nat.le_refl _, fun e => absurd rfl e⟩, ⟨fun t ht => absurd ht (by omega), Nat.le_refl _, hz, fun j hj => absurd hj (Nat.not_lt_zero _)⟩⟩, hb⟩
  · obtain ⟨g, off, rfl, hc⟩ := h.cells hl
    have HL : Hid (n = bs.length) := hlen
    have HC : Hid (∀ j (h : j < bs.length), ∃ ao m c, at8 w g (off + j * 8) bs[j] ao m c) := hc
    have HD0 : Hid (∀ j (h : j < bs.length), bs[j].l.length ≤ 1048576) := hd
    have hgz : g < w.heap.size := by obtain ⟨_, _, _, hat⟩ := hc 0 (List.length_pos_iff.2 hl); exact World.block_lt_of_cell? w _ hat.c0
    clear h hlen hc hd
    go_enter Tryz.func88, Tryz.ntmps88
    go_wp2_with (first | (at_make; refine make_Z _ 31 97 _ 8 72 Tryz.info97 Tryz.underlying31 (by decide) rfl (.tmp 6) (.tmp 6) rfl _ n rfl rfl rfl (by omega) ?_; intro w1 hrow hg1 hz1))
    go_loopw [4] (fun i wr => ∃ k : Nat, k ≤ n ∧ i = .int .i64 k ∧ rowZ wr w.heap.size (n * 8) ∧ (∀ j (hj : j < k) (h : j < bs.length), ∃ gd m, (w.heap.size < gd ∧ gd < wr.heap.size) ∧ at8 wr w.heap.size (j * 8) bs[j] (some ⟨gd, 0, none⟩) m m ∧ rowF wr gd m) ∧ Below w.heap.size w wr ∧ w.heap.size < wr.heap.size) (fun i _ => n - (intOf i).toNat)
    case atStart => exact ⟨0, Nat.zero_le _, rfl, hrow, fun j hj => absurd hj (Nat.not_lt_zero _), (Below.refl _ _).grown hg1 (Nat.le_refl _) (by intro k e; cases e), hz1⟩
    case round =>
      clear hrow hz1 hg1
      obtain ⟨k, hk, rfl, hrow, hdone, hb, hz⟩ := hrel
      by_cases hlt : k < n
      · have hkl : k < bs.length := by have := HL.out; omega
        obtain ⟨ao, m0, c0, hx⟩ := HC.out k hkl
        have cx0 := (hb.cell (by exact hgz)).trans hx.c0
        have cx1 := (hb.cell (by exact hgz)).trans hx.c1
        have cx2 := (hb.cell (by exact hgz)).trans hx.c2
        have cx3 := (hb.cell (by exact hgz)).trans hx.c3
        have cx4 := (hb.cell (by exact hgz)).trans hx.c4
        have cx5 := (hb.cell (by exact hgz)).trans hx.c5
        have cx6 := (hb.cell (by exact hgz)).trans hx.c6
        have cx7 := (hb.cell (by exact hgz)).trans hx.cs
        have hm0 : m0 ≤ 1048576 := by have := HD0.out k hkl; have := hx.dat.len; omega
        have HY : Hid (isBytes wr ao m0 c0 bs[k].l) := hx.dat.below hb
        have HD : Hid (∀ W, Below wr.heap.size wr W → rowZ W w.heap.size (n * 8) ∧ (∀ j (hj : j < k) (h : j < bs.length), ∃ gd m, (w.heap.size < gd ∧ gd < W.heap.size) ∧ at8 W w.heap.size (j * 8) bs[j] (some ⟨gd, 0, none⟩) m m ∧ rowF W gd m) ∧ Below w.heap.size w W ∧ w.heap.size < W.heap.size) := fun W hW => ⟨hrow.below hW hz, fun j hj hjl => by obtain ⟨gd, m, h1, h2, h3⟩ := hdone j hj hjl; exact ⟨gd, m, ⟨h1.1, Nat.lt_of_lt_of_le h1.2 hW.size⟩, h2.below hW, h3.up (hW.block _ h1.2)⟩, hb.trans (hW.mono (by omega)), Nat.lt_of_lt_of_le hz hW.size⟩
        clear hrow hdone hb hx
        have hkn : k * 8 + 8 ≤ n * 8 := by omega
        have HB : Hid (∀ W gd, gd ≠ w.heap.size → isBytes W (some ⟨gd, 0, none⟩) m0 m0 bs[k].l → rowZ W w.heap.size (n * 8) → at8 (setRow W w.heap.size (k * 8) [.int .i64 bs[k].x, .int .i64 bs[k].y, .int .i64 bs[k].z, .bool bs[k].e, .int .u32 (bs[k].i : Int), .bool bs[k].r, .int .i64 bs[k].d, .slice (some ⟨gd, 0, none⟩) m0 m0]) w.heap.size (k * 8) bs[k] (some ⟨gd, 0, none⟩) m0 m0) := fun W gd h1 h2 hW => at8.new hW (k * 8) hkn bs[k] gd m0 h1 h2
        generalize hBx : bs[k].x = fx at *
        generalize hBy : bs[k].y = fy at *
        generalize hBz : bs[k].z = fz at *
        generalize hBe : bs[k].e = fe at *
        generalize hBi : bs[k].i = fi at *
        generalize hBr : bs[k].r = fr at *
        generalize hBd : bs[k].d = fd at *
        clear hBx hBy hBz hBe hBi hBr hBd
        go_wp2_with (first | (go_at_call 147; refine (toBox_any _ fx fy fz fe fi fr fd ao m0 c0 bs[k].l HY.out hm0).mono ?_; rintro o w5 ⟨gd, rfl, hby, hb5, hgd, hgz5, hrf5⟩; have HRF : Hid (rowF w5 gd m0) := hrf5; clear hrf5; have r1 := (HD.out w5 hb5).1) | (refine wpList_store_mid (P := Tryz.prog) rfl 97 (.tmp 21) (.tmp 20) rfl w.heap.size (k * 8) #[.int .i64 fx, .int .i64 fy, .int .i64 fz, .bool fe, .int .u32 (fi : Int), .bool fr, .int .i64 fd, .slice (some ⟨gd, 0, none⟩) m0 m0] rfl rfl (r1.there (k * 8) 8 hkn) sz95 (one8 _ _ _ _ _ _ _ _ _ _) ?_; generalize hW6 : World.setCells w5 w.heap.size (k * 8) _ = w6; have HW6 : Hid (_ = w6) := hW6; clear hW6))
        go_roundw
        case rel =>
          have hw6 := HW6.out
          rw [setCells_row] at hw6
          subst hw6
          obtain ⟨r1, r2, r3, r4⟩ := HD.out w5 hb5
          have hne : gd ≠ w.heap.size := by omega
          refine ⟨k + 1, by omega, by go_num, r1.put [.int .i64 fx, .int .i64 fy, .int .i64 fz, .bool fe, .int .u32 (fi : Int), .bool fr, .int .i64 fd, .slice (some ⟨gd, 0, none⟩) m0 m0] (k * 8) hkn, fun j hj hjl => ?_, setRow_below _ _ (Nat.le_refl _) w [.int .i64 fx, .int .i64 fy, .int .i64 fz, .bool fe, .int .u32 (fi : Int), .bool fr, .int .i64 fd, .slice (some ⟨gd, 0, none⟩) m0 m0] w5 (k * 8) r3, ?_⟩
          · by_cases e : j = k
            · subst e
              exact ⟨gd, m0, ⟨by omega, by first | (rw [setRow_size]; exact hgz5) | simpa using hgz5⟩, HB.out w5 gd hne hby r1, HRF.out.up (setRow_block w.heap.size gd hne [.int .i64 fx, .int .i64 fy, .int .i64 fz, .bool fe, .int .u32 (fi : Int), .bool fr, .int .i64 fd, .slice (some ⟨gd, 0, none⟩) m0 m0] w5 (j * 8))⟩
            · obtain ⟨gd', m', h1, h2, h3⟩ := r2 j (by omega) hjl
              exact ⟨gd', m', ⟨h1.1, by first | (rw [setRow_size]; exact h1.2) | simpa using h1.2⟩, h2.keep (by omega) [.int .i64 fx, .int .i64 fy, .int .i64 fz, .bool fe, .int .u32 (fi : Int), .bool fr, .int .i64 fd, .slice (some ⟨gd, 0, none⟩) m0 m0] (k * 8) (by simp; omega), h3.up (setRow_block w.heap.size gd' (by omega) [.int .i64 fx, .int .i64 fy, .int .i64 fz, .bool fe, .int .u32 (fi : Int), .bool fr, .int .i64 fd, .slice (some ⟨gd, 0, none⟩) m0 m0] w5 (k * 8))⟩
          · first | (rw [setRow_size]; exact r4) | simpa using r4
        case measure => simp [intOf]; omega
      · go_wp2
        go_ret
        refine ⟨_, rfl, fun W hW => ⟨⟨HL.out, Nat.le_refl _, fun _ => ⟨_, 0, rfl, fun j hj => ?_⟩⟩, ⟨hrow.F.up (hW _ (Nat.le_refl _) hz), Nat.le_refl _, hz, fun j hj => ?_⟩⟩, hb⟩
        · obtain ⟨gd, m, hgd, hat, _⟩ := hdone j (by have := HL.out; omega) hj
          rw [Nat.zero_add]
          exact ⟨_, _, _, hat.up (hW _ (Nat.le_refl _) hz) (hW _ (by omega) hgd.2)⟩
        · obtain ⟨gd, m, hgd, hat, hrf⟩ := hdone j (by omega) (by have := HL.out; omega)
          exact ⟨gd, m, (hat.up (hW _ (Nat.le_refl _) hz) (hW _ (by omega) hgd.2)).cs, hrf.up (hW _ (by omega) hgd.2), by omega, by omega, hgd.2⟩
theorem Tryz.info46 : (Tryz.prog.info? 46).map (fun i => (i.zero, i.size, i.bytes)) = some (some (.agg #[.int .i64 0, .int .i64 0, .int .i64 0, .bool false, .int .u32 0, .bool false, .int .i64 0, .slice none 0 0]), 8, 72) := by kernel_rfl
set_option maxHeartbeats 2000000 in
set_option maxRecDepth 20000 in
theorem toEventS_any (w : World) (a : Option Addr) (n cap : Nat) (bs : List R8) (h : isR8s w a n cap bs) (hn : n ≤ 1048576) (hd : ∀ j (h : j < bs.length), bs[j].l.length ≤ 1048576) :
    Calls Tryz.prog 90 #[.slice a n cap] w fun e w' => ∃ g, e = .returned (.slice (some ⟨g, 0, none⟩) n n) ∧ St w.heap.size w' (fun W => isR8s W (some ⟨g, 0, none⟩) n n bs ∧ wr8 w.heap.size w'.heap.size W g n) ∧ Below w.heap.size w w' := by
  have hlen := h.len
  have hcp := h.cap
  by_cases hl : bs = []
  · subst hl
    have hn0 : n = 0 := hlen
    subst hn0
    clear hlen h hd
    go_enter Tryz.func90, Tryz.ntmps90
    go_wp2_with (first | (at_make; refine make_Z _ 33 46 _ 8 72 Tryz.info46 Tryz.underlying33 (by decide) rfl (.tmp 6) (.tmp 6) rfl _ 0 rfl rfl rfl (by omega) ?_; intro w1 hrow hg1 hz1))
    go_loopw [4] (fun i wr => i = .int .i64 0 ∧ Below w.heap.size w wr ∧ w.heap.size < wr.heap.size) (fun _ _ => 0)
    case atStart => exact ⟨rfl, (Below.refl _ _).grown hg1 (Nat.le_refl _) (by intro k e; cases e), hz1⟩
    case round =>
      obtain ⟨rfl, hb, hz⟩ := hrel
      go_wp2
      go_ret
      exact ⟨_, rfl, fun _ _ => ⟨⟨rfl, Nat.le_refl _, fun e => absurd rfl e⟩, ⟨fun t ht => absurd ht (by omega), Nat.le_refl _, hz, fun j hj => absurd hj (Nat.not_lt_zero _)⟩⟩, hb⟩
  · obtain ⟨g, off, rfl, hc⟩ := h.cells hl
    have HL : Hid (n = bs.length) := hlen
    have HC : Hid (∀ j (h : j < bs.length), ∃ ao m c, at8 w g (off + j * 8) bs[j] ao m c) := hc
    have HD0 : Hid (∀ j (h : j < bs.length), bs[j].l.length ≤ 1048576) := hd
    have hgz : g < w.heap.size := by obtain ⟨_, _, _, hat⟩ := hc 0 (List.length_pos_iff.2 hl); exact World.block_lt_of_cell? w _ hat.c0
    clear h hlen hc hd
    go_enter Tryz.func90, Tryz.ntmps90
    go_wp2_with (first | (at_make; refine make_Z _ 33 46 _ 8 72 Tryz.info46 Tryz.underlying33 (by decide) rfl (.tmp 6) (.tmp 6) rfl _ n rfl rfl rfl (by omega) ?_; intro w1 hrow hg1 hz1))
    go_loopw [4] (fun i wr => ∃ k : Nat, k ≤ n ∧ i = .int .i64 k ∧ rowZ wr w.heap.size (n * 8) ∧ (∀ j (hj : j < k) (h : j < bs.length), ∃ gd m, (w.heap.size < gd ∧ gd < wr.heap.size) ∧ at8 wr w.heap.size (j * 8) bs[j] (some ⟨gd, 0, none⟩) m m ∧ rowF wr gd m) ∧ Below w.heap.size w wr ∧ w.heap.size < wr.heap.size) (fun i _ => n - (intOf i).toNat)
    case atStart => exact ⟨0, Nat.zero_le _, rfl, hrow, fun j hj => absurd hj (Nat.not_lt_zero _), (Below.refl _ _).grown hg1 (Nat.le_refl _) (by intro k e; cases e), hz1⟩
    case round =>
      clear hrow hz1 hg1
      obtain ⟨k, hk, rfl, hrow, hdone, hb, hz⟩ := hrel
      by_cases hlt : k < n
      · have hkl : k < bs.length := by have := HL.out; omega
        obtain ⟨ao, m0, c0, hx⟩ := HC.out k hkl
        have cx0 := (hb.cell (by exact hgz)).trans hx.c0
        have cx1 := (hb.cell (by exact hgz)).trans hx.c1
        have cx2 := (hb.cell (by exact hgz)).trans hx.c2
        have cx3 := (hb.cell (by exact hgz)).trans hx.c3
        have cx4 := (hb.cell (by exact hgz)).trans hx.c4
        have cx5 := (hb.cell (by exact hgz)).trans hx.c5
        have cx6 := (hb.cell (by exact hgz)).trans hx.c6
        have cx7 := (hb.cell (by exact hgz)).trans hx.cs
        have hm0 : m0 ≤ 1048576 := by have := HD0.out k hkl; have := hx.dat.len; omega
        have HY : Hid (isBytes wr ao m0 c0 bs[k].l) := hx.dat.below hb
        have HD : Hid (∀ W, Below wr.heap.size wr W → rowZ W w.heap.size (n * 8) ∧ (∀ j (hj : j < k) (h : j < bs.length), ∃ gd m, (w.heap.size < gd ∧ gd < W.heap.size) ∧ at8 W w.heap.size (j * 8) bs[j] (some ⟨gd, 0, none⟩) m m ∧ rowF W gd m) ∧ Below w.heap.size w W ∧ w.heap.size < W.heap.size) := fun W hW => ⟨hrow.below hW hz, fun j hj hjl => by obtain ⟨gd, m, h1, h2, h3⟩ := hdone j hj hjl; exact ⟨gd, m, ⟨h1.1, Nat.lt_of_lt_of_le h1.2 hW.size⟩, h2.below hW, h3.up (hW.block _ h1.2)⟩, hb.trans (hW.mono (by omega)), Nat.lt_of_lt_of_le hz hW.size⟩
        clear hrow hdone hb hx
        have hkn : k * 8 + 8 ≤ n * 8 := by omega
        have HB : Hid (∀ W gd, gd ≠ w.heap.size → isBytes W (some ⟨gd, 0, none⟩) m0 m0 bs[k].l → rowZ W w.heap.size (n * 8) → at8 (setRow W w.heap.size (k * 8) [.int .i64 bs[k].x, .int .i64 bs[k].y, .int .i64 bs[k].z, .bool bs[k].e, .int .u32 (bs[k].i : Int), .bool bs[k].r, .int .i64 bs[k].d, .slice (some ⟨gd, 0, none⟩) m0 m0]) w.heap.size (k * 8) bs[k] (some ⟨gd, 0, none⟩) m0 m0) := fun W gd h1 h2 hW => at8.new hW (k * 8) hkn bs[k] gd m0 h1 h2
        generalize hBx : bs[k].x = fx at *
        generalize hBy : bs[k].y = fy at *
        generalize hBz : bs[k].z = fz at *
        generalize hBe : bs[k].e = fe at *
        generalize hBi : bs[k].i = fi at *
        generalize hBr : bs[k].r = fr at *
        generalize hBd : bs[k].d = fd at *
        clear hBx hBy hBz hBe hBi hBr hBd
        go_wp2_with (first | (go_at_call 148; refine (toEvent_any _ fx fy fz fe fi fr fd ao m0 c0 bs[k].l HY.out hm0).mono ?_; rintro o w5 ⟨gd, rfl, hby, hb5, hgd, hgz5, hrf5⟩; have HRF : Hid (rowF w5 gd m0) := hrf5; clear hrf5; have r1 := (HD.out w5 hb5).1) | (refine wpList_store_mid (P := Tryz.prog) rfl 46 (.tmp 21) (.tmp 20) rfl w.heap.size (k * 8) #[.int .i64 fx, .int .i64 fy, .int .i64 fz, .bool fe, .int .u32 (fi : Int), .bool fr, .int .i64 fd, .slice (some ⟨gd, 0, none⟩) m0 m0] rfl rfl (r1.there (k * 8) 8 hkn) sz129 (one8 _ _ _ _ _ _ _ _ _ _) ?_; generalize hW6 : World.setCells w5 w.heap.size (k * 8) _ = w6; have HW6 : Hid (_ = w6) := hW6; clear hW6))
        go_roundw
        case rel =>
          have hw6 := HW6.out
          rw [setCells_row] at hw6
          subst hw6
          obtain ⟨r1, r2, r3, r4⟩ := HD.out w5 hb5
          have hne : gd ≠ w.heap.size := by omega
          refine ⟨k + 1, by omega, by go_num, r1.put [.int .i64 fx, .int .i64 fy, .int .i64 fz, .bool fe, .int .u32 (fi : Int), .bool fr, .int .i64 fd, .slice (some ⟨gd, 0, none⟩) m0 m0] (k * 8) hkn, fun j hj hjl => ?_, setRow_below _ _ (Nat.le_refl _) w [.int .i64 fx, .int .i64 fy, .int .i64 fz, .bool fe, .int .u32 (fi : Int), .bool fr, .int .i64 fd, .slice (some ⟨gd, 0, none⟩) m0 m0] w5 (k * 8) r3, ?_⟩
          · by_cases e : j = k
            · subst e
              exact ⟨gd, m0, ⟨by omega, by first | (rw [setRow_size]; exact hgz5) | simpa using hgz5⟩, HB.out w5 gd hne hby r1, HRF.out.up (setRow_block w.heap.size gd hne [.int .i64 fx, .int .i64 fy, .int .i64 fz, .bool fe, .int .u32 (fi : Int), .bool fr, .int .i64 fd, .slice (some ⟨gd, 0, none⟩) m0 m0] w5 (j * 8))⟩
            · obtain ⟨gd', m', h1, h2, h3⟩ := r2 j (by omega) hjl
              exact ⟨gd', m', ⟨h1.1, by first | (rw [setRow_size]; exact h1.2) | simpa using h1.2⟩, h2.keep (by omega) [.int .i64 fx, .int .i64 fy, .int .i64 fz, .bool fe, .int .u32 (fi : Int), .bool fr, .int .i64 fd, .slice (some ⟨gd, 0, none⟩) m0 m0] (k * 8) (by simp; omega), h3.up (setRow_block w.heap.size gd' (by omega) [.int .i64 fx, .int .i64 fy, .int .i64 fz, .bool fe, .int .u32 (fi : Int), .bool fr, .int .i64 fd, .slice (some ⟨gd, 0, none⟩) m0 m0] w5 (k * 8))⟩
          · first | (rw [setRow_size]; exact r4) | simpa using r4
        case measure => simp [intOf]; omega
      · go_wp2
        go_ret
        refine ⟨_, rfl, fun W hW => ⟨⟨HL.out, Nat.le_refl _, fun _ => ⟨_, 0, rfl, fun j hj => ?_⟩⟩, ⟨hrow.F.up (hW _ (Nat.le_refl _) hz), Nat.le_refl _, hz, fun j hj => ?_⟩⟩, hb⟩
        · obtain ⟨gd, m, hgd, hat, _⟩ := hdone j (by have := HL.out; omega) hj
          rw [Nat.zero_add]
          exact ⟨_, _, _, hat.up (hW _ (Nat.le_refl _) hz) (hW _ (by omega) hgd.2)⟩
        · obtain ⟨gd, m, hgd, hat, hrf⟩ := hdone j (by omega) (by have := HL.out; omega)
          exact ⟨gd, m, (hat.up (hW _ (Nat.le_refl _) hz) (hW _ (by omega) hgd.2)).cs, hrf.up (hW _ (by omega) hgd.2), by omega, by omega, hgd.2⟩
end Go.Proofs.YtaamahohdnbpiaaGreat
