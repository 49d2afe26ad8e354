import Derived.Test.YtjmlalojfghkiaaDoorR08
import Derived.Deep.DeepCutAuto
namespace Go.Proofs.YtjmlalojfghkiaaDoor
open Go.RowKit
def hearT (S : Sc) (b : Nat) : Sc := if 11 ≤ S.f then { S with rn := 0, lv := 0 } else { S with rn := if 0 < S.rn ∧ (b : Int) = S.lv then S.rn + 1 else 1, lv := b }
def sumT (S : Sc) (b : Nat) : Sc := if S.f ≤ 9 then { S with cr := ((stepN S.cr.toNat b : Nat) : Int) } else S
def accT (S : Sc) (b : Nat) : Sc := if S.f = 10 then { S with ac := (2 * S.ac + b) % 32768 } else S
def nextT (T : Sc) : Sc := if T.lf = 1 then { T with f := afterZ T.f T.e T.r T.d, lf := sizeZ (afterZ T.f T.e T.r T.d) T.e T.d, l := if afterZ T.f T.e T.r T.d = 9 then [] else T.l } else { T with lf := T.lf - 1 }
def stepT (S : Sc) (b : Nat) : Sc := nextT (feedZ (accT (sumT (hearT S b) b) b) b)
/-- the variables of spec.ScanBit: s, the result, t -/
structure sS (w : World) (S : Sc) (a : Option Addr) (n cap P : Nat) (gv : List Value) (W : World) : Prop where
  p : blk W w.heap.size (scL S a n cap) 31
  r : blk W (w.heap.size + 1) ([] ++ z11 ++ []) 31
  q : blk W P gv 31
  b : Below w.heap.size w W
  z : w.heap.size + 2 ≤ P
theorem sS.below {w : World} {S : Sc} {a : Option Addr} {n cap P : Nat} {gv : List Value} {W W' : World} (h : sS w S a n cap P gv W) (hb : Below W.heap.size W W') : sS w S a n cap P gv W' := ⟨h.p.below hb, h.r.below hb, h.q.below hb, h.b.trans (hb.mono h.b.size), h.z⟩
theorem sS.belowB {w : World} {S : Sc} {a : Option Addr} {n cap P B : Nat} {gv : List Value} {W W' : World} (h : sS w S a n cap P gv W) (hB : w.heap.size + 2 ≤ B) (hq : W'.heap[P]? = W.heap[P]?) (hb : Below B W W') : sS w S a n cap P gv W' :=
  ⟨h.p.kept (hb.block _ (by omega)), h.r.kept (hb.block _ (by omega)), h.q.kept hq, h.b.trans (hb.mono (by omega)), h.z⟩
theorem sS.set {w : World} {S : Sc} {a : Option Addr} {n cap P : Nat} {gv : List Value} {W : World} (h : sS w S a n cap P gv W) (o : Nat) (v : Value) : sS w S a n cap P (gv.set o v) (W.setCell ⟨P, o, none⟩ v) := by
  have := h.z
  exact ⟨h.p.setOther (by omega) _ _, h.r.setOther (by omega) _ _, h.q.set _ _, h.b.setCell (by show _ ≤ P; omega) _, h.z⟩
/-- what t holds, and that its bytes are its own -/
structure tW (w : World) (S : Sc) (a : Option Addr) (n cap P : Nat) (T : Sc) (g n' k : Nat) (W : World) : Prop where
  s : sS w S a n cap P (scL T (some ⟨g, 0, none⟩) n' k) W
  o : ownsB W (w.heap.size + 2) (.slice (some ⟨g, 0, none⟩) n' k) T.l
  ne : g ≠ P
  l : n' = T.l.length
theorem tW.below {w : World} {S : Sc} {a : Option Addr} {n cap P : Nat} {T : Sc} {g n' k : Nat} {W W' : World} (h : tW w S a n cap P T g n' k W) (hb : Below W.heap.size W W') : tW w S a n cap P T g n' k W' := ⟨h.s.below hb, h.o.below hb, h.ne, h.l⟩
theorem tW.put {w : World} {S : Sc} {a : Option Addr} {n cap P : Nat} {T T' : Sc} {g n' k : Nat} {W : World} (h : tW w S a n cap P T g n' k W) (o : Nat) (v : Value) (hl : T'.l = T.l) (he : (scL T (some ⟨g, 0, none⟩) n' k).set o v = scL T' (some ⟨g, 0, none⟩) n' k) : tW w S a n cap P T' g n' k (W.setCell ⟨P, o, none⟩ v) := by
  refine ⟨he ▸ h.s.set o v, ?_, h.ne, by rw [hl]; exact h.l⟩
  rw [hl]
  exact h.o.keep h.l (heap_setCell_other _ _ _ _ (by exact h.ne))
theorem hearT_hi {f lf rn lv cr ac : Int} {e : Bool} {i : Nat} {r : Bool} {d : Int} {l : List Nat} {b : Nat} (h : 11 ≤ f) : hearT ⟨f, lf, rn, lv, cr, ac, e, i, r, d, l⟩ b = ⟨f, lf, 0, 0, cr, ac, e, i, r, d, l⟩ := if_pos h
theorem hearT_on {f lf rn lv cr ac : Int} {e : Bool} {i : Nat} {r : Bool} {d : Int} {l : List Nat} {b : Nat} (h : f < 11) (h1 : 0 < rn) (h2 : (b : Int) = lv) : hearT ⟨f, lf, rn, lv, cr, ac, e, i, r, d, l⟩ b = ⟨f, lf, rn + 1, b, cr, ac, e, i, r, d, l⟩ := by
  refine (if_neg (by show ¬ 11 ≤ f; omega)).trans ?_
  simp only []
  rw [if_pos ⟨h1, h2⟩]
theorem hearT_new {f lf rn lv cr ac : Int} {e : Bool} {i : Nat} {r : Bool} {d : Int} {l : List Nat} {b : Nat} (h : f < 11) (h1 : ¬ (0 < rn ∧ (b : Int) = lv)) : hearT ⟨f, lf, rn, lv, cr, ac, e, i, r, d, l⟩ b = ⟨f, lf, 1, b, cr, ac, e, i, r, d, l⟩ := by
  refine (if_neg (by show ¬ 11 ≤ f; omega)).trans ?_
  simp only []
  rw [if_neg h1]
/-- a scan with the frame of another -/
def withF (T U : Sc) : Sc := { T with e := U.e, i := U.i, r := U.r, d := U.d, l := U.l }
theorem feedZ_with (f lf rn lv cr ac rn' lv' cr' ac' : Int) (e : Bool) (i : Nat) (r : Bool) (d : Int) (l : List Nat) (b : Nat) : feedZ ⟨f, lf, rn', lv', cr', ac', e, i, r, d, l⟩ b = withF ⟨f, lf, rn', lv', cr', ac', e, i, r, d, l⟩ (feedZ ⟨f, lf, rn, lv, cr, ac, e, i, r, d, l⟩ b) := by
  unfold feedZ withF
  simp only []
  split
  · rfl
  split
  · rfl
  split
  · rfl
  split
  · rfl
  split <;> rfl
/-- what stays in the draw of spec.ScanBit -/
structure uS (w : World) (S : Sc) (a : Option Addr) (n cap : Nat) (W : World) : Prop where
  p : blk W w.heap.size (scL S a n cap) 31
  b : Below w.heap.size w W
theorem isBytes.setCells {w : World} {a : Option Addr} {n cap : Nat} {l : List Nat} (h : isBytes w a n cap l) {b : Nat} (hb : ∀ q, a = some q → q.block ≠ b) (o : Nat) (vs : List Value) : isBytes (w.setCells b o vs) a n cap l := by
  refine ⟨h.len, h.cap, h.small, fun hl => ?_⟩
  obtain ⟨g', off, ha, hc⟩ := h.cells hl
  refine ⟨g', off, ha, fun t ht => ?_⟩
  have hne := hb _ ha
  exact cell_up (hc t ht) (setCells_other b g' hne vs w o)
theorem feedZ_keeps (T : Sc) (b : Nat) (hb : b < 2) (hd0 : 0 ≤ T.d) (hd1 : T.d ≤ 15) (hs : ∀ x ∈ T.l, x < 256) : (feedZ T b).f = T.f ∧ (feedZ T b).lf = T.lf ∧ 0 ≤ (feedZ T b).d ∧ (feedZ T b).d ≤ 15 ∧ (∀ x ∈ (feedZ T b).l, x < 256) := by
  unfold feedZ
  split
  · exact ⟨rfl, rfl, hd0, hd1, hs⟩
  split
  · exact ⟨rfl, rfl, hd0, hd1, hs⟩
  split
  · exact ⟨rfl, rfl, hd0, hd1, hs⟩
  split
  · exact ⟨rfl, rfl, by show 0 ≤ (2 * T.d + b) % 16; omega, by show (2 * T.d + b) % 16 ≤ 15; omega, hs⟩
  split
  · refine ⟨rfl, rfl, hd0, hd1, ?_⟩
    show ∀ x ∈ dataZ T.l T.lf b, x < 256
    intro x hx
    unfold dataZ at hx
    split at hx
    · rcases List.mem_append.1 hx with h | h
      · exact hs x h
      · have : x = b := by simpa using h
        omega
    · rcases List.mem_or_eq_of_mem_set hx with h | h
      · exact hs x h
      · omega
  · exact ⟨rfl, rfl, hd0, hd1, hs⟩
set_option maxHeartbeats 8000000 in
set_option maxRecDepth 40000 in
theorem specScan_main (w : World) (S : Sc) (hS : okS S) (a : Option Addr) (n cap : Nat) (h : isBytes w a n cap S.l) (b : Nat) (hb : b < 2) (h5 : S.rn ≠ 5) (hc : verdZ S.f S.lf S.cr S.ac b = 0 ∨ verdZ S.f S.lf S.cr S.ac b = 1) :
    Calls Tryd.prog 6 #[scV S a n cap, .int .i64 (b : Int)] w fun o w' => ∃ ao n' k', o = .returned (.tuple #[scV (stepT S b) ao n' k', .int .i64 (verdZ S.f S.lf S.cr S.ac b)]) ∧ isBytes w' ao n' k' (stepT S b).l ∧ Below w.heap.size w w' := by
  have HS : Hid (okS S) := hS
  have HH : Hid (isBytes w a n cap S.l) := h
  have HN : Hid (n = S.l.length) := h.len
  have hn8 : n ≤ 8 := by have := hS.2.2.2.2.2.1; have := h.len; omega
  have HSO : Hid (∀ W, Calls Tryd.prog 19 #[scV S a n cap] W fun o w' => o = .returned (.bool true) ∧ Below W.heap.size W w') := fun W => (l2sound_any W S a n cap HN.out (by omega)).mono (by rintro o w' ⟨⟨bb, rfl, h1⟩, h2⟩; rw [h1.2 hS]; exact ⟨rfl, h2⟩)
  have HVE : Hid (∀ W, Calls Tryd.prog 21 #[scV S a n cap, .int .i64 (b : Int)] W fun o w' => o = .returned (.int .i64 (verdZ S.f S.lf S.cr S.ac b)) ∧ Below W.heap.size W w') := fun W => l2verdict_any W S a n cap b
  have hb' : b = 0 ∨ b = 1 := by omega
  have HB' : Hid (b = 0 ∨ b = 1) := hb'
  clear hS h hb'
  generalize hV : verdZ S.f S.lf S.cr S.ac b = c at *
  clear hV
  have HSUM : Hid (∀ W, Calls Tryd.prog 22 #[.int .i64 S.cr, .int .i64 (b : Int)] W fun o w' => o = .returned (.int .i64 ((stepN S.cr.toNat b : Nat) : Int)) ∧ W = w') := by
    intro W
    have h1 := HS.out.2.2.2.2.2.2.2.2.2.2.2.2.2.2.1
    have h2 := HS.out.2.2.2.2.2.2.2.2.2.2.2.2.2.2.2.1
    have := l2crc_any S.cr.toNat b W (by omega) hb
    rwa [Int.toNat_of_nonneg h1] at this
  have HLS : Hid (∀ W, Calls Tryd.prog 24 #[.int .i64 S.f, frV S.e S.i S.r S.d a n cap] W fun o w' => o = .returned (.int .i64 (sizeZ S.f S.e S.d)) ∧ Below W.heap.size W w') := fun W => l2size_any W S.f S.e S.i S.r S.d HS.out.2.2.2.1 HS.out.2.2.2.2.1 a n cap
  obtain ⟨f, lf, rn, lv, cr, ac, e, i, r, d, l⟩ := S
  simp only [] at h5 HN HH HSUM HLS
  go_enter Tryd.func6, Tryd.ntmps6
  go_upto_region 1 with fail
  go_cut [18] (fun s18 wx => s18 = .bool false ∧ blk wx w.heap.size (scL ⟨f, lf, rn, lv, cr, ac, e, i, r, d, l⟩ a n cap) 31 ∧ blk wx (w.heap.size + 1) ([] ++ z11 ++ []) 31 ∧ Below w.heap.size w wx)
  case first =>
    go_wp2_with fail
    refine (HSO.out _).mono ?_
    rintro o w1 ⟨rfl, hb1⟩
    have H1 : Hid (blk w1 w.heap.size (scL ⟨f, lf, rn, lv, cr, ac, e, i, r, d, l⟩ a n cap) 31 ∧ blk w1 (w.heap.size + 1) ([] ++ z11 ++ []) 31 ∧ Below w.heap.size w w1) := by
      refine ⟨((blk.new w _ 31).alloc _).below hb1, ?_, (((Below.refl _ _).alloc (Nat.le_refl _) _).alloc (by simp) _).trans (hb1.mono (by simp; try omega))⟩
      have := (blk.new (w.alloc (.cells (scL ⟨f, lf, rn, lv, cr, ac, e, i, r, d, l⟩ a n cap).toArray 31)) z11 31).below hb1
      simpa using this
    clear hb1
    rcases HB'.out with rfl | rfl
    · go_wp2_with fail
      go_meet
      exact ⟨rfl, H1.out⟩
    · go_wp2_with fail
      go_meet
      exact ⟨rfl, H1.out⟩
  case rest =>
    obtain ⟨rfl, h1⟩ := hcut
    have H1 : Hid (blk wc w.heap.size (scL ⟨f, lf, rn, lv, cr, ac, e, i, r, d, l⟩ a n cap) 31 ∧ blk wc (w.heap.size + 1) ([] ++ z11 ++ []) 31 ∧ Below w.heap.size w wc) := h1
    clear h1
    go_wp2_with (first | (refine wpList_load_mid (P := Tryd.prog) rfl 31 (.tmp 2) rfl w.heap.size 0 rfl _ _ H1.out.1.load Tryd.underlying31 rfl sz31 ?_))
    refine (l2copy_own wc ⟨f, lf, rn, lv, cr, ac, e, i, r, d, l⟩ a n cap (HH.out.below H1.out.2.2) (by omega)).mono ?_
    rintro o w2 ⟨g, k, rfl, ho2, hb2⟩
    have H2 : Hid (blk w2 w.heap.size (scL ⟨f, lf, rn, lv, cr, ac, e, i, r, d, l⟩ a n cap) 31 ∧ blk w2 (w.heap.size + 1) ([] ++ z11 ++ []) 31 ∧ Below w.heap.size w w2) := ⟨H1.out.1.below hb2, H1.out.2.1.below hb2, H1.out.2.2.trans (hb2.mono H1.out.2.2.size)⟩
    have HO2 : Hid (ownsB w2 (w.heap.size + 2) (.slice (some ⟨g, 0, none⟩) n k) l ∧ g < w2.heap.size) := ⟨ho2.mono (by have := H1.out.2.1.lt; omega), (World.ownsRow.lt ho2 g rfl).2⟩
    have HT2 : Hid (blk (w2.alloc (.cells z11.toArray 31)) w2.heap.size ([] ++ z11 ++ []) 31) := blk.new w2 _ 31
    clear ho2 hb2 H1
    go_wp2_with (first
      | (refine wpList_store_mid (P := Tryd.prog) rfl 31 (.tmp 6) (.tmp 21) rfl w2.heap.size 0 _ rfl rfl (HT2.out.there 0 11 (by simp)) sz31 (one11 _ _ _ _ _ _ _ _ _ _ _ _ _) ?_; generalize hW3 : World.setCells (World.alloc _ _) w2.heap.size 0 _ = w3; have N3 : tW w ⟨f, lf, rn, lv, cr, ac, e, i, r, d, l⟩ a n cap w2.heap.size ⟨f, lf, rn, lv, cr, ac, e, i, r, d, l⟩ g n k w3 := (hW3 ▸ ⟨⟨(H2.out.1.alloc _).other (by have := H2.out.2.1.lt; omega) _ _, (H2.out.2.1.alloc _).other (by have := H2.out.2.1.lt; omega) _ _, blk.put [] z11 [] _ HT2.out rfl, setCells_below H2.out.2.2.size _ _ (H2.out.2.2.alloc H2.out.2.2.size _), H2.out.2.1.lt⟩, (HO2.out.1.below ((Below.refl _ _).alloc (Nat.le_refl _) _)).keep HN.out ((setCells_other _ _ (by have := HO2.out.2; omega) _ _ _)), (by have := HO2.out.2; omega), HN.out⟩); have HN3 : Hid (tW w ⟨f, lf, rn, lv, cr, ac, e, i, r, d, l⟩ a n cap w2.heap.size ⟨f, lf, rn, lv, cr, ac, e, i, r, d, l⟩ g n k w3) := N3; have y2 := N3.s.p.cell 2 _ rfl; clear N3 hW3)
      | (refine wpList_load_mid (P := Tryd.prog) rfl 31 (.tmp 2) rfl w.heap.size 0 rfl _ _ HN3.out.s.p.load Tryd.underlying31 rfl sz31 ?_))
    clear y2 HT2 H2 HO2
    refine (HVE.out _).mono ?_
    rintro o w4 ⟨rfl, hb4⟩
    have HN4 : Hid (tW w ⟨f, lf, rn, lv, cr, ac, e, i, r, d, l⟩ a n cap w2.heap.size ⟨f, lf, rn, lv, cr, ac, e, i, r, d, l⟩ g n k w4) := HN3.out.below hb4
    clear hb4 HN3
    go_upto_region 11 with fail
    go_cut [42] (fun s42 wx => s42 = .bool false ∧ wx = w4)
    case first =>
      rcases hc with rfl | rfl
      · go_wp2_with fail
        go_meet
        exact ⟨rfl, rfl⟩
      · go_wp2_with fail
        go_meet
        exact ⟨rfl, rfl⟩
    case rest =>
      obtain ⟨rfl, rfl⟩ := hcut
      generalize w2.heap.size = P at *
      have y0 := HN4.out.s.p.cell 0 _ rfl
      go_upto_if 47 with fail
      go_cut [] (fun wx => tW w ⟨f, lf, rn, lv, cr, ac, e, i, r, d, l⟩ a n cap P (hearT ⟨f, lf, rn, lv, cr, ac, e, i, r, d, l⟩ b) g n k wx)
      case first =>
        have y2 := HN4.out.s.p.cell 2 _ rfl
        have y3 := HN4.out.s.p.cell 3 _ rfl
        have x2 := HN4.out.s.q.cell 2 _ rfl
        have x3 := HN4.out.s.q.cell 3 _ rfl
        have f2 := HN4.out.s.q.free 2
        have f3 := HN4.out.s.q.free 3
        have hzz := HN4.out.s.z
        have s9 := HS.out.2.2.2.2.2.2.2.2.1
        have s10 := HS.out.2.2.2.2.2.2.2.2.2.1
        simp only [] at s9 s10
        clear y0
        by_cases h11 : 11 ≤ f
        · go_wp2_with fail
          go_meet
          rw [hearT_hi (by omega)]
          exact (HN4.out.put (T' := ⟨f, lf, 0, lv, cr, ac, e, i, r, d, l⟩) 2 (.int .i64 0) rfl rfl).put 3 (.int .i64 0) rfl rfl
        · by_cases hr0 : 0 < rn
          · by_cases hr1 : (b : Int) = lv
            · have hq : ((b : Int) == lv) = true := by simpa using hr1
              have HR1 : Hid ((b : Int) = lv) := hr1
              clear hr1
              go_wp2_with fail
              go_meet
              rw [hearT_on (by omega) hr0 HR1.out]
              exact ((HN4.out.put (T' := ⟨f, lf, 1, lv, cr, ac, e, i, r, d, l⟩) 2 (.int .i64 1) rfl rfl).put (T' := ⟨f, lf, rn + 1, lv, cr, ac, e, i, r, d, l⟩) 2 (.int .i64 (rn + 1)) rfl rfl).put 3 (.int .i64 (b : Int)) rfl rfl
            · have hq : ((b : Int) == lv) = false := by simpa using hr1
              have HR1 : Hid (¬ (b : Int) = lv) := hr1
              clear hr1
              go_wp2_with fail
              go_meet
              rw [hearT_new (by omega) (fun h => HR1.out h.2)]
              exact (HN4.out.put (T' := ⟨f, lf, 1, lv, cr, ac, e, i, r, d, l⟩) 2 (.int .i64 1) rfl rfl).put 3 (.int .i64 (b : Int)) rfl rfl
          · go_wp2_with fail
            go_meet
            rw [hearT_new (by omega) (fun h => by have := h.1; omega)]
            exact (HN4.out.put (T' := ⟨f, lf, 1, lv, cr, ac, e, i, r, d, l⟩) 2 (.int .i64 1) rfl rfl).put 3 (.int .i64 (b : Int)) rfl rfl
      case rest =>
        clear HN4
        have HT1 : Hid (tW w ⟨f, lf, rn, lv, cr, ac, e, i, r, d, l⟩ a n cap P (hearT ⟨f, lf, rn, lv, cr, ac, e, i, r, d, l⟩ b) g n k wc) := hcut
        clear hcut
        have HE1 : Hid (hearT ⟨f, lf, rn, lv, cr, ac, e, i, r, d, l⟩ b = ⟨f, lf, (hearT ⟨f, lf, rn, lv, cr, ac, e, i, r, d, l⟩ b).rn, (hearT ⟨f, lf, rn, lv, cr, ac, e, i, r, d, l⟩ b).lv, cr, ac, e, i, r, d, l⟩) := by
          show _ = _
          unfold hearT
          split <;> rfl
        generalize hT1 : hearT ⟨f, lf, rn, lv, cr, ac, e, i, r, d, l⟩ b = T1 at *
        have y0 := HT1.out.s.p.cell 0 _ rfl
        go_upto_if 68 with fail
        go_cut [] (fun wx => tW w ⟨f, lf, rn, lv, cr, ac, e, i, r, d, l⟩ a n cap P (sumT T1 b) g n k wx)
        case first =>
          have ef : T1.f = f := by rw [HE1.out]
          have ec : T1.cr = cr := by rw [HE1.out]
          have y4 := HT1.out.s.p.cell 4 _ rfl
          have x4 := HT1.out.s.q.cell 4 _ rfl
          have f4 := HT1.out.s.q.free 4
          have HEF : Hid (T1.f = f ∧ T1.cr = cr) := ⟨ef, ec⟩
          clear ef ec y0
          by_cases h9 : f ≤ 9
          · go_wp2_with fail
            refine (HSUM.out _).mono ?_
            rintro o w5 ⟨rfl, rfl⟩
            go_wp2_with fail
            go_meet
            have e1 : sumT T1 b = { T1 with cr := ((stepN cr.toNat b : Nat) : Int) } := by
              unfold sumT
              rw [HEF.out.1, HEF.out.2, if_pos (show f ≤ 9 by omega)]
            rw [e1]
            exact HT1.out.put 4 _ rfl rfl
          · go_wp2_with fail
            go_meet
            have e1 : sumT T1 b = T1 := by
              unfold sumT
              rw [HEF.out.1, if_neg (show ¬ f ≤ 9 by omega)]
            rw [e1]
            exact HT1.out
        case rest =>
          have HT2 : Hid (tW w ⟨f, lf, rn, lv, cr, ac, e, i, r, d, l⟩ a n cap P (sumT T1 b) g n k wc) := hcut
          clear hcut HT1
          have HE2 : Hid (sumT T1 b = ⟨f, lf, T1.rn, T1.lv, (sumT T1 b).cr, ac, e, i, r, d, l⟩) := by
            show _ = _
            have e1 := HE1.out
            rw [e1]
            unfold sumT
            split <;> rfl
          generalize hT2 : sumT T1 b = T2 at *
          have y0 := HT2.out.s.p.cell 0 _ rfl
          go_upto_if 76 with fail
          go_cut [] (fun wx => tW w ⟨f, lf, rn, lv, cr, ac, e, i, r, d, l⟩ a n cap P (accT T2 b) g n k wx)
          case first =>
            have HEF : Hid (T2.f = f ∧ T2.ac = ac) := ⟨by rw [HE2.out], by rw [HE2.out]⟩
            have y5 := HT2.out.s.p.cell 5 _ rfl
            have x5 := HT2.out.s.q.cell 5 _ rfl
            have f5 := HT2.out.s.q.free 5
            have s17 := HS.out.2.2.2.2.2.2.2.2.2.2.2.2.2.2.2.2.1
            have s18 := HS.out.2.2.2.2.2.2.2.2.2.2.2.2.2.2.2.2.2.1
            simp only [] at s17 s18
            clear y0
            by_cases h10 : f = 10
            · have hq : (f == 10) = true := by simpa using h10
              have H10 : Hid (f = 10) := h10
              clear h10
              go_wp2_with fail
              go_meet
              have e1 : accT T2 b = { T2 with ac := (2 * ac + b) % 32768 } := by
                unfold accT
                rw [HEF.out.1, HEF.out.2, if_pos H10.out]
              rw [e1]
              exact HT2.out.put 5 _ rfl rfl
            · have hq : (f == 10) = false := by simpa using h10
              have H10 : Hid (¬ f = 10) := h10
              clear h10
              go_wp2_with fail
              go_meet
              have e1 : accT T2 b = T2 := by
                unfold accT
                rw [HEF.out.1, if_neg H10.out]
              rw [e1]
              exact HT2.out
          case rest =>
            have HT3 : Hid (tW w ⟨f, lf, rn, lv, cr, ac, e, i, r, d, l⟩ a n cap P (accT T2 b) g n k wc) := hcut
            clear hcut HT2
            have HE3 : Hid (accT T2 b = ⟨f, lf, T2.rn, T2.lv, T2.cr, (accT T2 b).ac, e, i, r, d, l⟩) := by
              show _ = _
              have e1 := HE2.out
              rw [e1]
              unfold accT
              split <;> rfl
            generalize hT3 : accT T2 b = T3 at *
            generalize hTr : T2.rn = rn3 at *
            generalize hTl : T2.lv = lv3 at *
            generalize hTc : T2.cr = cr3 at *
            generalize hTa : T3.ac = ac3 at *
            go_upto_region 24 with fail
            go_cut [] (fun wx => ∃ g' n' k', tW w ⟨f, lf, rn, lv, cr, ac, e, i, r, d, l⟩ a n cap P (feedZ T3 b) g' n' k' wx)
            case first =>
              have hT := HT3.out
              rw [HE3.out] at hT
              have HZ : Hid (0 ≤ sizeZ f e d ∧ sizeZ f e d ≤ 64 ∧ 1 ≤ lf ∧ lf ≤ sizeZ f e d) := ⟨(sizeZ_le f e d HS.out.2.2.2.1 HS.out.2.2.2.2.1).1, (sizeZ_le f e d HS.out.2.2.2.1 HS.out.2.2.2.2.1).2, HS.out.2.2.2.2.2.2.1, HS.out.2.2.2.2.2.2.2.1⟩
              have HTK : Hid (∀ (W : World) (t : Int), t = sizeZ f e d - lf → w.heap.size + 2 ≤ W.heap.size → ownsB W (w.heap.size + 2) (.slice (some ⟨g, 0, none⟩) n k) l → Calls Tryd.prog 23 #[frV e i r d (some ⟨g, 0, none⟩) n k, .int .i64 f, .int .i64 t, .int .i64 (b : Int)] W fun o w' => ∃ g' n' k', o = .returned (frV (feedZ ⟨f, lf, rn, lv, cr, ac, e, i, r, d, l⟩ b).e (feedZ ⟨f, lf, rn, lv, cr, ac, e, i, r, d, l⟩ b).i (feedZ ⟨f, lf, rn, lv, cr, ac, e, i, r, d, l⟩ b).r (feedZ ⟨f, lf, rn, lv, cr, ac, e, i, r, d, l⟩ b).d (some ⟨g', 0, none⟩) n' k') ∧ ownsB w' (w.heap.size + 2) (.slice (some ⟨g', 0, none⟩) n' k') (feedZ ⟨f, lf, rn, lv, cr, ac, e, i, r, d, l⟩ b).l ∧ n' = (feedZ ⟨f, lf, rn, lv, cr, ac, e, i, r, d, l⟩ b).l.length ∧ Below (w.heap.size + 2) W w' ∧ (∀ q, q ≠ g → q < W.heap.size → w'.heap[q]? = W.heap[q]?) ∧ (g' = g ∨ W.heap.size ≤ g')) := fun W t ht hz ho => l2take_any W (w.heap.size + 2) hz ⟨f, lf, rn, lv, cr, ac, e, i, r, d, l⟩ HS.out g n k ho HN.out t ht b hb
              have HFD : Hid (feedZ T3 b = withF ⟨f, lf, rn3, lv3, cr3, ac3, e, i, r, d, l⟩ (feedZ ⟨f, lf, rn, lv, cr, ac, e, i, r, d, l⟩ b)) := by
                show _ = _
                rw [HE3.out]
                exact feedZ_with f lf rn lv cr ac rn3 lv3 cr3 ac3 e i r d l b
              generalize feedZ ⟨f, lf, rn, lv, cr, ac, e, i, r, d, l⟩ b = FS at *
              generalize sizeZ f e d = z at *
              clear HE3 HT3
              refine wp_region_held (S := uS w ⟨f, lf, rn, lv, cr, ac, e, i, r, d, l⟩ a n cap) (by kernel_rfl) ?_
              obtain ⟨wd, hwd⟩ : ∃ wd, wd = wc.drew := ⟨_, rfl⟩
              change wpAnyH _ _ _ _ _ _ _ _ wc.drew
              rw [← hwd]
              have ht := hT.below (W' := wd) (hwd ▸ (Below.refl _ _).drew)
              have hs : uS w ⟨f, lf, rn, lv, cr, ac, e, i, r, d, l⟩ a n cap wd := ⟨ht.s.p, ht.s.b⟩
              clear hwd hT
              refine wpAnyH_take (i := 0) (v := .pointer (some ⟨P, 6, none⟩)) rfl (by kernel_rfl) (by kernel_rfl) (by kernel_rfl) (fun _ _ _ h => h) (Or.inl ⟨by rfl, ?_⟩) hs ?_
              · intro W hW
                clear hs
                go_simp
              simp only [Act.put, List.setIfInBounds_toArray, List.set_cons_zero, List.set_cons_succ, List.getElem_toArray, List.getElem_cons_zero]
              refine wpAnyH_take (i := 2) (v := .pointer (some ⟨w.heap.size, 0, none⟩)) rfl (by kernel_rfl) (by kernel_rfl) (by kernel_rfl) (fun _ _ _ h => h) (Or.inl ⟨by rfl, ?_⟩) hs ?_
              · intro W hW
                clear hs
                go_simp
              simp only [Act.put, List.setIfInBounds_toArray, List.set_cons_zero, List.set_cons_succ, List.getElem_toArray, List.getElem_cons_zero, List.getElem_cons_succ]
              refine wpAnyH_take (i := 3) (v := .int .i64 f) rfl (by kernel_rfl) (by kernel_rfl) (by kernel_rfl) (fun _ _ _ h => h) (Or.inl ⟨by rfl, ?_⟩) hs ?_
              · intro W hW
                clear hs
                have z0 := hW.p.cell 0 _ rfl
                go_simp
              simp only [Act.put, List.setIfInBounds_toArray, List.set_cons_zero, List.set_cons_succ, List.getElem_toArray, List.getElem_cons_zero, List.getElem_cons_succ]
              refine wpAnyH_take (i := 4) (v := .pointer (some ⟨w.heap.size, 0, none⟩)) rfl (by kernel_rfl) (by kernel_rfl) (by kernel_rfl) (fun _ _ _ h => h) (Or.inl ⟨by rfl, ?_⟩) hs ?_
              · intro W hW
                clear hs
                go_simp
              simp only [Act.put, List.setIfInBounds_toArray, List.set_cons_zero, List.set_cons_succ, List.getElem_toArray, List.getElem_cons_zero, List.getElem_cons_succ]
              refine wpAnyH_take (i := 5) (v := .int .i64 f) rfl (by kernel_rfl) (by kernel_rfl) (by kernel_rfl) (fun _ _ _ h => h) (Or.inl ⟨by rfl, ?_⟩) hs ?_
              · intro W hW
                clear hs
                have z0 := hW.p.cell 0 _ rfl
                go_simp
              simp only [Act.put, List.setIfInBounds_toArray, List.set_cons_zero, List.set_cons_succ, List.getElem_toArray, List.getElem_cons_zero, List.getElem_cons_succ]
              refine wpAnyH_take (i := 6) (v := .pointer (some ⟨w.heap.size, 6, none⟩)) rfl (by kernel_rfl) (by kernel_rfl) (by kernel_rfl) (fun _ _ _ h => h) (Or.inl ⟨by rfl, ?_⟩) hs ?_
              · intro W hW
                clear hs
                go_simp
              simp only [Act.put, List.setIfInBounds_toArray, List.set_cons_zero, List.set_cons_succ, List.getElem_toArray, List.getElem_cons_zero, List.getElem_cons_succ]
              refine wpAnyH_take (i := 7) (v := .agg [.bool e, .int .u32 (i : Int), .bool r, .int .i64 d, .slice a n cap].toArray) rfl (by kernel_rfl) (by kernel_rfl) (by kernel_rfl) (fun _ _ _ h => h) (yieldsIf_load_mid (by rfl) 29 (.tmp 90) rfl w.heap.size 6 rfl [.bool e, .int .u32 (i : Int), .bool r, .int .i64 d, .slice a n cap] _ (fun W h => blk.loadAt [.int .i64 f, .int .i64 lf, .int .i64 rn, .int .i64 lv, .int .i64 cr, .int .i64 ac] [.bool e, .int .u32 (i : Int), .bool r, .int .i64 d, .slice a n cap] [] h.p) Tryd.underlying29 rfl sz29) hs ?_
              simp only [Act.put, List.setIfInBounds_toArray, List.set_cons_zero, List.set_cons_succ, List.getElem_toArray, List.getElem_cons_zero, List.getElem_cons_succ]
              refine wpAnyH_take (i := 9) (v := .pointer (some ⟨w.heap.size, 1, none⟩)) rfl (by kernel_rfl) (by kernel_rfl) (by kernel_rfl) (fun _ _ _ h => h) (Or.inl ⟨by rfl, ?_⟩) hs ?_
              · intro W hW
                clear hs
                go_simp
              simp only [Act.put, List.setIfInBounds_toArray, List.set_cons_zero, List.set_cons_succ, List.getElem_toArray, List.getElem_cons_zero, List.getElem_cons_succ]
              refine wpAnyH_take (i := 10) (v := .int .i64 lf) rfl (by kernel_rfl) (by kernel_rfl) (by kernel_rfl) (fun _ _ _ h => h) (Or.inl ⟨by rfl, ?_⟩) hs ?_
              · intro W hW
                clear hs
                have z1 := hW.p.cell 1 _ rfl
                go_simp
              simp only [Act.put, List.setIfInBounds_toArray, List.set_cons_zero, List.set_cons_succ, List.getElem_toArray, List.getElem_cons_zero, List.getElem_cons_succ]
              refine wpAnyH_take (i := 12) (v := .int .i64 (b : Int)) rfl (by kernel_rfl) (by kernel_rfl) (by kernel_rfl) (fun _ _ _ h => h) (Or.inl ⟨by rfl, ?_⟩) hs ?_
              · intro W hW
                clear hs
                go_simp
              simp only [Act.put, List.setIfInBounds_toArray, List.set_cons_zero, List.set_cons_succ, List.getElem_toArray, List.getElem_cons_zero, List.getElem_cons_succ]
              refine wpAnyH_all (rs := [1, 8]) (by kernel_rfl) (by simp) ?_
              refine AllReadyH.cons rfl (fun K hK => ?_) (AllReadyH.cons rfl (fun K hK => ?_) AllReadyH.nil)
              · rw [if_pos (by rfl)]
                refine wp_load_mid (P := Tryd.prog) 29 (.tmp 84) rfl P 6 rfl [.bool e, .int .u32 (i : Int), .bool r, .int .i64 d, .slice (some ⟨g, 0, none⟩) n k] _ (blk.loadAt [.int .i64 f, .int .i64 lf, .int .i64 rn3, .int .i64 lv3, .int .i64 cr3, .int .i64 ac3] [.bool e, .int .u32 (i : Int), .bool r, .int .i64 d, .slice (some ⟨g, 0, none⟩) n k] [] ht.s.q) Tryd.underlying29 rfl sz29 ?_
                refine hK.out _ _ hs (fun hs2 => ?_)
                clear hK K hs2
                refine wpAnyH_all (rs := [8]) (by kernel_rfl) (by simp) ?_
                refine AllReadyH.cons rfl (fun K hK => ?_) AllReadyH.nil
                go_simp
                refine (HLS.out _).mono ?_
                rintro o we ⟨rfl, hbe⟩
                have hte := ht.below hbe
                have hse : uS w ⟨f, lf, rn, lv, cr, ac, e, i, r, d, l⟩ a n cap we := ⟨hte.s.p, hte.s.b⟩
                go_wp2_with fail
                refine hK.out _ _ hse (fun hs2 => ?_)
                clear hK K hs2
                have hs := hse
                refine wpAnyH_take (i := 11) (v := .int .i64 (z - lf)) rfl (by kernel_rfl) (by kernel_rfl) (by kernel_rfl) (fun _ _ _ h => h) (Or.inl ⟨by rfl, ?_⟩) hs ?_
                · intro W hW
                  clear hs
                  have hz := HZ.out
                  go_simp
                  rw [IntKind.wrap_i64]
                  omega
                simp only [Act.put, List.setIfInBounds_toArray, List.set_cons_zero, List.set_cons_succ, List.getElem_toArray, List.getElem_cons_zero, List.getElem_cons_succ]
                refine wpAnyH_all (rs := [13]) (by kernel_rfl) (by simp) ?_
                refine AllReadyH.cons rfl (fun K hK => ?_) AllReadyH.nil
                go_simp
                refine (HTK.out _ (z - lf) rfl (Nat.le_trans hte.s.z (Nat.le_of_lt hte.s.q.lt)) hte.o).mono ?_
                rintro o wf ⟨g', n', k', rfl, q1, q2, q3, q4, q5⟩
                have HQ2 : Hid (n' = FS.l.length) := q2
                clear q2
                have hqf : wf.heap[P]? = we.heap[P]? := q4 P (Ne.symm hte.ne) hte.s.q.lt
                have hsf := hte.s.belowB (Nat.le_refl _) hqf q3
                have hs6 : uS w ⟨f, lf, rn, lv, cr, ac, e, i, r, d, l⟩ a n cap wf := ⟨hsf.p, hsf.b⟩
                have hgne : g' ≠ P := by
                  have h1 := hte.ne
                  have h2 := hte.s.q.lt
                  omega
                go_wp2_with fail
                refine hK.out _ _ hs6 (fun hs2 => ?_)
                clear hK K hs2
                have hs := hs6
                refine wpAnyH_take (i := 14) (v := .pointer (some ⟨P, 6, none⟩)) rfl (by kernel_rfl) (by kernel_rfl) (by kernel_rfl) (fun _ _ _ h => h) (Or.inl ⟨by rfl, ?_⟩) hs ?_
                · intro W hW
                  clear hs
                  go_simp
                simp only [Act.put, List.setIfInBounds_toArray, List.set_cons_zero, List.set_cons_succ, List.getElem_toArray, List.getElem_cons_zero, List.getElem_cons_succ]
                refine wpAnyH_all (rs := [15]) (by kernel_rfl) (by simp) ?_
                refine AllReadyH.cons rfl (fun K hK => ?_) AllReadyH.nil
                rw [if_pos (by rfl)]
                refine wp_store_mid (P := Tryd.prog) 29 (.tmp 98) (.tmp 97) rfl P 6 #[.bool FS.e, .int .u32 (FS.i : Int), .bool FS.r, .int .i64 FS.d, .slice (some ⟨g', 0, none⟩) n' k'] rfl rfl (hsf.q.there 6 5 (by simp [scL])) sz29 (one5 _ _ _ _ _ _ _) ?_
                have hzz := hsf.z
                have hq8 : blk (World.setCells wf P 6 [.bool FS.e, .int .u32 (FS.i : Int), .bool FS.r, .int .i64 FS.d, .slice (some ⟨g', 0, none⟩) n' k']) P (scL (withF ⟨f, lf, rn3, lv3, cr3, ac3, e, i, r, d, l⟩ FS) (some ⟨g', 0, none⟩) n' k') 31 := blk.put [.int .i64 f, .int .i64 lf, .int .i64 rn3, .int .i64 lv3, .int .i64 cr3, .int .i64 ac3] [.bool e, .int .u32 (i : Int), .bool r, .int .i64 d, .slice (some ⟨g, 0, none⟩) n k] [] [.bool FS.e, .int .u32 (FS.i : Int), .bool FS.r, .int .i64 FS.d, .slice (some ⟨g', 0, none⟩) n' k'] hsf.q rfl
                have hsg : sS w ⟨f, lf, rn, lv, cr, ac, e, i, r, d, l⟩ a n cap P (scL (withF ⟨f, lf, rn3, lv3, cr3, ac3, e, i, r, d, l⟩ FS) (some ⟨g', 0, none⟩) n' k') (World.setCells wf P 6 [.bool FS.e, .int .u32 (FS.i : Int), .bool FS.r, .int .i64 FS.d, .slice (some ⟨g', 0, none⟩) n' k']) := ⟨hsf.p.other (by omega) _ _, hsf.r.other (by omega) _ _, hq8, setCells_below (by omega) _ _ hsf.b, hsf.z⟩
                have HR8 : Hid (tW w ⟨f, lf, rn, lv, cr, ac, e, i, r, d, l⟩ a n cap P (feedZ T3 b) g' n' k' (World.setCells wf P 6 [.bool FS.e, .int .u32 (FS.i : Int), .bool FS.r, .int .i64 FS.d, .slice (some ⟨g', 0, none⟩) n' k'])) := by
                  show tW _ _ _ _ _ _ _ _ _ _ _
                  rw [HFD.out]
                  exact ⟨hsg, q1.keep HQ2.out (setCells_other _ _ hgne _ _ _), hgne, HQ2.out⟩
                have hs8 : uS w ⟨f, lf, rn, lv, cr, ac, e, i, r, d, l⟩ a n cap _ := ⟨hsg.p, hsg.b⟩
                refine hK.out _ _ hs8 (fun hs2 => ?_)
                clear hK K hs2
                clear hs8 hsg hq8
                generalize World.setCells wf P 6 [.bool FS.e, .int .u32 (FS.i : Int), .bool FS.r, .int .i64 FS.d, .slice (some ⟨g', 0, none⟩) n' k'] = w8 at *
                refine wpAnyH_done (by kernel_rfl) ?_ _
                go_wp2_with fail
                go_meet
                exact ⟨g', n', k', HR8.out⟩
              · go_simp
                refine (HLS.out _).mono ?_
                rintro o we ⟨rfl, hbe⟩
                have hte := ht.below hbe
                have hse : uS w ⟨f, lf, rn, lv, cr, ac, e, i, r, d, l⟩ a n cap we := ⟨hte.s.p, hte.s.b⟩
                go_wp2_with fail
                refine hK.out _ _ hse (fun hs2 => ?_)
                clear hK K hs2
                have hs := hse
                refine wpAnyH_take (i := 11) (v := .int .i64 (z - lf)) rfl (by kernel_rfl) (by kernel_rfl) (by kernel_rfl) (fun _ _ _ h => h) (Or.inl ⟨by rfl, ?_⟩) hs ?_
                · intro W hW
                  clear hs
                  have hz := HZ.out
                  go_simp
                  rw [IntKind.wrap_i64]
                  omega
                simp only [Act.put, List.setIfInBounds_toArray, List.set_cons_zero, List.set_cons_succ, List.getElem_toArray, List.getElem_cons_zero, List.getElem_cons_succ]
                refine wpAnyH_all (rs := [1]) (by kernel_rfl) (by simp) ?_
                refine AllReadyH.cons rfl (fun K hK => ?_) AllReadyH.nil
                rw [if_pos (by rfl)]
                refine wp_load_mid (P := Tryd.prog) 29 (.tmp 84) rfl P 6 rfl [.bool e, .int .u32 (i : Int), .bool r, .int .i64 d, .slice (some ⟨g, 0, none⟩) n k] _ (blk.loadAt [.int .i64 f, .int .i64 lf, .int .i64 rn3, .int .i64 lv3, .int .i64 cr3, .int .i64 ac3] [.bool e, .int .u32 (i : Int), .bool r, .int .i64 d, .slice (some ⟨g, 0, none⟩) n k] [] hte.s.q) Tryd.underlying29 rfl sz29 ?_
                refine hK.out _ _ hse (fun hs2 => ?_)
                clear hK K hs2
                refine wpAnyH_all (rs := [13]) (by kernel_rfl) (by simp) ?_
                refine AllReadyH.cons rfl (fun K hK => ?_) AllReadyH.nil
                go_simp
                refine (HTK.out _ (z - lf) rfl (Nat.le_trans hte.s.z (Nat.le_of_lt hte.s.q.lt)) hte.o).mono ?_
                rintro o wf ⟨g', n', k', rfl, q1, q2, q3, q4, q5⟩
                have HQ2 : Hid (n' = FS.l.length) := q2
                clear q2
                have hqf : wf.heap[P]? = we.heap[P]? := q4 P (Ne.symm hte.ne) hte.s.q.lt
                have hsf := hte.s.belowB (Nat.le_refl _) hqf q3
                have hs6 : uS w ⟨f, lf, rn, lv, cr, ac, e, i, r, d, l⟩ a n cap wf := ⟨hsf.p, hsf.b⟩
                have hgne : g' ≠ P := by
                  have h1 := hte.ne
                  have h2 := hte.s.q.lt
                  omega
                go_wp2_with fail
                refine hK.out _ _ hs6 (fun hs2 => ?_)
                clear hK K hs2
                have hs := hs6
                refine wpAnyH_take (i := 14) (v := .pointer (some ⟨P, 6, none⟩)) rfl (by kernel_rfl) (by kernel_rfl) (by kernel_rfl) (fun _ _ _ h => h) (Or.inl ⟨by rfl, ?_⟩) hs ?_
                · intro W hW
                  clear hs
                  go_simp
                simp only [Act.put, List.setIfInBounds_toArray, List.set_cons_zero, List.set_cons_succ, List.getElem_toArray, List.getElem_cons_zero, List.getElem_cons_succ]
                refine wpAnyH_all (rs := [15]) (by kernel_rfl) (by simp) ?_
                refine AllReadyH.cons rfl (fun K hK => ?_) AllReadyH.nil
                rw [if_pos (by rfl)]
                refine wp_store_mid (P := Tryd.prog) 29 (.tmp 98) (.tmp 97) rfl P 6 #[.bool FS.e, .int .u32 (FS.i : Int), .bool FS.r, .int .i64 FS.d, .slice (some ⟨g', 0, none⟩) n' k'] rfl rfl (hsf.q.there 6 5 (by simp [scL])) sz29 (one5 _ _ _ _ _ _ _) ?_
                have hzz := hsf.z
                have hq8 : blk (World.setCells wf P 6 [.bool FS.e, .int .u32 (FS.i : Int), .bool FS.r, .int .i64 FS.d, .slice (some ⟨g', 0, none⟩) n' k']) P (scL (withF ⟨f, lf, rn3, lv3, cr3, ac3, e, i, r, d, l⟩ FS) (some ⟨g', 0, none⟩) n' k') 31 := blk.put [.int .i64 f, .int .i64 lf, .int .i64 rn3, .int .i64 lv3, .int .i64 cr3, .int .i64 ac3] [.bool e, .int .u32 (i : Int), .bool r, .int .i64 d, .slice (some ⟨g, 0, none⟩) n k] [] [.bool FS.e, .int .u32 (FS.i : Int), .bool FS.r, .int .i64 FS.d, .slice (some ⟨g', 0, none⟩) n' k'] hsf.q rfl
                have hsg : sS w ⟨f, lf, rn, lv, cr, ac, e, i, r, d, l⟩ a n cap P (scL (withF ⟨f, lf, rn3, lv3, cr3, ac3, e, i, r, d, l⟩ FS) (some ⟨g', 0, none⟩) n' k') (World.setCells wf P 6 [.bool FS.e, .int .u32 (FS.i : Int), .bool FS.r, .int .i64 FS.d, .slice (some ⟨g', 0, none⟩) n' k']) := ⟨hsf.p.other (by omega) _ _, hsf.r.other (by omega) _ _, hq8, setCells_below (by omega) _ _ hsf.b, hsf.z⟩
                have HR8 : Hid (tW w ⟨f, lf, rn, lv, cr, ac, e, i, r, d, l⟩ a n cap P (feedZ T3 b) g' n' k' (World.setCells wf P 6 [.bool FS.e, .int .u32 (FS.i : Int), .bool FS.r, .int .i64 FS.d, .slice (some ⟨g', 0, none⟩) n' k'])) := by
                  show tW _ _ _ _ _ _ _ _ _ _ _
                  rw [HFD.out]
                  exact ⟨hsg, q1.keep HQ2.out (setCells_other _ _ hgne _ _ _), hgne, HQ2.out⟩
                have hs8 : uS w ⟨f, lf, rn, lv, cr, ac, e, i, r, d, l⟩ a n cap _ := ⟨hsg.p, hsg.b⟩
                refine hK.out _ _ hs8 (fun hs2 => ?_)
                clear hK K hs2
                clear hs8 hsg hq8
                generalize World.setCells wf P 6 [.bool FS.e, .int .u32 (FS.i : Int), .bool FS.r, .int .i64 FS.d, .slice (some ⟨g', 0, none⟩) n' k'] = w8 at *
                refine wpAnyH_done (by kernel_rfl) ?_ _
                go_wp2_with fail
                go_meet
                exact ⟨g', n', k', HR8.out⟩
            case rest =>
              obtain ⟨g4, n4, k4, ht4⟩ := hcut
              have HE4 : Hid ((feedZ T3 b).f = f ∧ (feedZ T3 b).lf = lf ∧ 0 ≤ (feedZ T3 b).d ∧ (feedZ T3 b).d ≤ 15 ∧ (∀ x ∈ (feedZ T3 b).l, x < 256)) := by
                rw [HE3.out]
                exact feedZ_keeps _ b hb HS.out.2.2.2.1 HS.out.2.2.2.2.1 HH.out.small
              have HT4 : Hid (tW w ⟨f, lf, rn, lv, cr, ac, e, i, r, d, l⟩ a n cap P (feedZ T3 b) g4 n4 k4 wc) := ht4
              clear ht4 HT3
              generalize hT4 : feedZ T3 b = T4 at *
              obtain ⟨f4, lf4, rn4, lv4, cr4, ac4, e4, i4, r4, d4, l4⟩ := T4
              obtain ⟨e41, e42, hd0, hd1, hsm⟩ := HE4.out
              simp only [] at e41 e42 hd0 hd1 hsm
              subst e41
              subst e42
              have HSM : Hid (∀ x ∈ l4, x < 256) := hsm
              have s1 := HS.out.1
              have s2 := HS.out.2.1
              have s7 := HS.out.2.2.2.2.2.2.1
              have s8 := HS.out.2.2.2.2.2.2.2.1
              have s9 := (sizeZ_le f4 e d HS.out.2.2.2.1 HS.out.2.2.2.2.1).2
              simp only [] at s1 s2 s7 s8 s9
              have hlf : lf4 ≤ 64 := by omega
              have HAF : Hid (∀ W, Calls Tryd.prog 25 #[.int .i64 f4, frV e4 i4 r4 d4 (some ⟨g4, 0, none⟩) n4 k4] W fun o w' => o = .returned (.int .i64 (afterZ f4 e4 r4 d4)) ∧ Below W.heap.size W w') := fun W => l2after_any W f4 (by omega) (by omega) e4 i4 r4 d4 _ n4 k4
              have HSZ : Hid (∀ W, Calls Tryd.prog 24 #[.int .i64 (afterZ f4 e4 r4 d4), frV e4 i4 r4 d4 (some ⟨g4, 0, none⟩) n4 k4] W fun o w' => o = .returned (.int .i64 (sizeZ (afterZ f4 e4 r4 d4) e4 d4)) ∧ Below W.heap.size W w') := fun W => l2size_any W _ e4 i4 r4 d4 hd0 hd1 _ n4 k4
              clear hsm s8 s9
              have y1 := HT4.out.s.p.cell 1 _ rfl
              have x1 := HT4.out.s.q.cell 1 _ rfl
              have f1 := HT4.out.s.q.free 1
              go_upto_if 105 with fail
              clear y1 x1 f1
              go_cut [] (fun wx => ∃ ao n2 k2, sS w ⟨f4, lf4, rn, lv, cr, ac, e, i, r, d, l⟩ a n cap P (scL (nextT ⟨f4, lf4, rn4, lv4, cr4, ac4, e4, i4, r4, d4, l4⟩) ao n2 k2) wx ∧ isBytes wx ao n2 k2 (nextT ⟨f4, lf4, rn4, lv4, cr4, ac4, e4, i4, r4, d4, l4⟩).l ∧ (∀ q, ao = some q → q.block ≠ w.heap.size + 1))
              case first =>
                by_cases h1 : lf4 = 1
                · subst h1
                  have HT5 : Hid (tW w ⟨f4, 1, rn, lv, cr, ac, e, i, r, d, l⟩ a n cap P ⟨f4, 0, rn4, lv4, cr4, ac4, e4, i4, r4, d4, l4⟩ g4 n4 k4 (wc.setCell ⟨P, 1, none⟩ (.int .i64 (1 - 1)))) := HT4.out.put 1 (.int .i64 (1 - 1)) rfl rfl
                  have y0 := HT5.out.s.p.cell 0 _ rfl
                  generalize hW5 : wc.setCell ⟨P, 1, none⟩ (.int .i64 (1 - 1)) = w5 at *
                  clear hW5 HT4
                  go_wp2_with (first
                    | (refine wpList_load_mid (P := Tryd.prog) rfl 29 (.tmp 108) rfl P 6 rfl [.bool e4, .int .u32 (i4 : Int), .bool r4, .int .i64 d4, .slice (some ⟨g4, 0, none⟩) n4 k4] _ (blk.loadAt [.int .i64 f4, .int .i64 0, .int .i64 rn4, .int .i64 lv4, .int .i64 cr4, .int .i64 ac4] [.bool e4, .int .u32 (i4 : Int), .bool r4, .int .i64 d4, .slice (some ⟨g4, 0, none⟩) n4 k4] [] HT5.out.s.q) Tryd.underlying29 rfl sz29 ?_))
                  refine (HAF.out _).mono ?_
                  rintro o w6 ⟨rfl, hb6⟩
                  have HT6 : Hid (tW w ⟨f4, 1, rn, lv, cr, ac, e, i, r, d, l⟩ a n cap P ⟨f4, 0, rn4, lv4, cr4, ac4, e4, i4, r4, d4, l4⟩ g4 n4 k4 w6) := HT5.out.below hb6
                  have x0 := HT6.out.s.q.cell 0 _ rfl
                  have f0 := HT6.out.s.q.free 0
                  have HT7 : Hid (tW w ⟨f4, 1, rn, lv, cr, ac, e, i, r, d, l⟩ a n cap P ⟨(afterZ f4 e4 r4 d4), 0, rn4, lv4, cr4, ac4, e4, i4, r4, d4, l4⟩ g4 n4 k4 (w6.setCell ⟨P, 0, none⟩ (.int .i64 (afterZ f4 e4 r4 d4)))) := HT6.out.put 0 (.int .i64 (afterZ f4 e4 r4 d4)) rfl rfl
                  clear hb6 HT5 y0
                  go_wp2_with (first
                    | (refine wpList_load_mid (P := Tryd.prog) rfl 29 (.tmp 114) rfl P 6 rfl [.bool e4, .int .u32 (i4 : Int), .bool r4, .int .i64 d4, .slice (some ⟨g4, 0, none⟩) n4 k4] _ (blk.loadAt [.int .i64 (afterZ f4 e4 r4 d4), .int .i64 0, .int .i64 rn4, .int .i64 lv4, .int .i64 cr4, .int .i64 ac4] [.bool e4, .int .u32 (i4 : Int), .bool r4, .int .i64 d4, .slice (some ⟨g4, 0, none⟩) n4 k4] [] HT7.out.s.q) Tryd.underlying29 rfl sz29 ?_))
                  refine (HSZ.out _).mono ?_
                  rintro o w8 ⟨rfl, hb8⟩
                  have HT8 : Hid (tW w ⟨f4, 1, rn, lv, cr, ac, e, i, r, d, l⟩ a n cap P ⟨(afterZ f4 e4 r4 d4), 0, rn4, lv4, cr4, ac4, e4, i4, r4, d4, l4⟩ g4 n4 k4 w8) := HT7.out.below hb8
                  clear hb8 HT6 HT7 x0 f0
                  have x1 := HT8.out.s.q.cell 1 _ rfl
                  have f1 := HT8.out.s.q.free 1
                  have x0 := HT8.out.s.q.cell 0 _ rfl
                  have HT9 : Hid (tW w ⟨f4, 1, rn, lv, cr, ac, e, i, r, d, l⟩ a n cap P ⟨(afterZ f4 e4 r4 d4), (sizeZ (afterZ f4 e4 r4 d4) e4 d4), rn4, lv4, cr4, ac4, e4, i4, r4, d4, l4⟩ g4 n4 k4 (w8.setCell ⟨P, 1, none⟩ (.int .i64 (sizeZ (afterZ f4 e4 r4 d4) e4 d4)))) := HT8.out.put 1 (.int .i64 (sizeZ (afterZ f4 e4 r4 d4) e4 d4)) rfl rfl
                  have e1 : nextT ⟨f4, 1, rn4, lv4, cr4, ac4, e4, i4, r4, d4, l4⟩ = ⟨(afterZ f4 e4 r4 d4), (sizeZ (afterZ f4 e4 r4 d4) e4 d4), rn4, lv4, cr4, ac4, e4, i4, r4, d4, if (afterZ f4 e4 r4 d4) = 9 then [] else l4⟩ := if_pos rfl
                  have HE1' : Hid (nextT ⟨f4, 1, rn4, lv4, cr4, ac4, e4, i4, r4, d4, l4⟩ = ⟨(afterZ f4 e4 r4 d4), (sizeZ (afterZ f4 e4 r4 d4) e4 d4), rn4, lv4, cr4, ac4, e4, i4, r4, d4, if (afterZ f4 e4 r4 d4) = 9 then [] else l4⟩) := e1
                  clear e1
                  generalize (sizeZ (afterZ f4 e4 r4 d4) e4 d4) = sz4 at *
                  by_cases h9 : (afterZ f4 e4 r4 d4) = 9
                  · have H9 : Hid ((afterZ f4 e4 r4 d4) = 9) := h9
                    have hq9 : ((afterZ f4 e4 r4 d4) == 9) = true := by simpa using h9
                    clear h9
                    generalize (afterZ f4 e4 r4 d4) = af4 at *
                    have x10 := (HT9.out.s.q.alloc (.cells #[] 5)).cell 10 _ rfl
                    have f10 := (HT9.out.s.q.alloc (.cells #[] 5)).free 10
                    go_wp2_with fail
                    go_meet
                    rw [HE1'.out, if_pos H9.out]
                    have hsx := (HT9.out.s.below ((Below.refl _ _).alloc (Nat.le_refl _) (.cells #[] 5))).set 10 (.slice (some ⟨w8.heap.size, 0, none⟩) 0 0)
                    exact ⟨some ⟨w8.heap.size, 0, none⟩, 0, 0, hsx, ⟨rfl, Nat.le_refl _, fun _ hx => (by cases hx), fun hne => absurd rfl hne⟩, fun q hq2 => by cases hq2; have := HT8.out.s.r.lt; show w8.heap.size ≠ _; omega⟩
                  · have H9 : Hid (¬ (afterZ f4 e4 r4 d4) = 9) := h9
                    have hq9 : ((afterZ f4 e4 r4 d4) == 9) = false := by simpa using h9
                    clear h9
                    generalize (afterZ f4 e4 r4 d4) = af4 at *
                    go_wp2_with fail
                    go_meet
                    rw [HE1'.out, if_neg H9.out]
                    refine ⟨_, n4, k4, HT9.out.s, ?_, fun q hq2 => by cases hq2; have := (World.ownsRow.lt HT9.out.o g4 rfl).1; show g4 ≠ _; omega⟩
                    obtain ⟨gg, kk, ee, q1, q2, q3⟩ := ownsB_bytes HT9.out.o (by intro e; cases e) HSM.out
                    cases ee
                    have := q3.now
                    rw [← HT9.out.l] at this
                    exact this
                · have hq : (lf4 - 1 == 0) = false := by
                    rw [beq_eq_false_iff_ne]
                    omega
                  have H1 : Hid (¬ lf4 = 1) := h1
                  clear h1
                  go_wp2_with fail
                  go_meet
                  have e1 : nextT ⟨f4, lf4, rn4, lv4, cr4, ac4, e4, i4, r4, d4, l4⟩ = ⟨f4, lf4 - 1, rn4, lv4, cr4, ac4, e4, i4, r4, d4, l4⟩ := if_neg H1.out
                  rw [e1]
                  have ht5 := HT4.out.put (T' := ⟨f4, lf4 - 1, rn4, lv4, cr4, ac4, e4, i4, r4, d4, l4⟩) 1 (.int .i64 (lf4 - 1)) rfl rfl
                  refine ⟨_, n4, k4, ht5.s, ?_, fun q hq2 => by cases hq2; have := (World.ownsRow.lt ht5.o g4 rfl).1; show g4 ≠ _; omega⟩
                  obtain ⟨gg, kk, ee, q1, q2, q3⟩ := ownsB_bytes ht5.o (by intro e; cases e) HSM.out
                  cases ee
                  have := q3.now
                  rw [← ht5.l] at this
                  exact this
              case rest =>
                obtain ⟨ao, n2, k2, hsx, hbx, hnx⟩ := hcut
                have HSX : Hid (sS w ⟨f4, lf4, rn, lv, cr, ac, e, i, r, d, l⟩ a n cap P (scL (nextT ⟨f4, lf4, rn4, lv4, cr4, ac4, e4, i4, r4, d4, l4⟩) ao n2 k2) wc) := hsx
                have HBX : Hid (isBytes wc ao n2 k2 (nextT ⟨f4, lf4, rn4, lv4, cr4, ac4, e4, i4, r4, d4, l4⟩).l ∧ (∀ q, ao = some q → q.block ≠ w.heap.size + 1)) := ⟨hbx, hnx⟩
                have HFIN : Hid (stepT ⟨f4, lf4, rn, lv, cr, ac, e, i, r, d, l⟩ b = nextT ⟨f4, lf4, rn4, lv4, cr4, ac4, e4, i4, r4, d4, l4⟩) := by
                  show _ = _
                  unfold stepT
                  rw [hT1, hT2, hT3, hT4]
                clear hsx hbx hnx HT4
                generalize nextT ⟨f4, lf4, rn4, lv4, cr4, ac4, e4, i4, r4, d4, l4⟩ = TF at *
                go_wp2_with (first
                  | (refine wpList_load_mid (P := Tryd.prog) rfl 31 (.tmp 6) rfl P 0 rfl _ _ HSX.out.q.load Tryd.underlying31 rfl sz31 ?_)
                  | (refine wpList_store_mid (P := Tryd.prog) rfl 31 (.tmp 4) (.tmp 124) rfl (w.heap.size + 1) 0 _ rfl rfl (HSX.out.r.there 0 11 (by simp)) sz31 (one11 _ _ _ _ _ _ _ _ _ _ _ _ _) ?_; generalize hW9 : World.setCells wc (w.heap.size + 1) 0 _ = w9; have HW9 : Hid (World.setCells wc (w.heap.size + 1) 0 (scL TF ao n2 k2) = w9) := hW9; clear hW9))
                have e9 := HW9.out
                have hF : blk w9 (w.heap.size + 1) (scL TF ao n2 k2) 31 := e9 ▸ blk.put [] z11 [] _ HSX.out.r rfl
                have hL := run_loadVar_mid (P := Tryd.prog) w9 (w.heap.size + 1) 0 31 _ _ hF.load Tryd.underlying31 rfl sz31
                refine bodyPost_ret (results_cell_tmp Tryd.results6 _ w9 (w.heap.size + 1) _ rfl hL) rfl ?_
                rw [HFIN.out]
                refine ⟨ao, n2, k2, rfl, ?_, ?_⟩
                · rw [← e9]
                  exact HBX.out.1.setCells HBX.out.2 _ _
                · rw [← e9]
                  exact setCells_below (by omega) _ _ HSX.out.b
end Go.Proofs.YtjmlalojfghkiaaDoor
