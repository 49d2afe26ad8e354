import Derived.Test.YtaamahohdnbpiaaGreatG24
namespace Go.Proofs.YtaamahohdnbpiaaGreat
open Go.RowKit
set_option linter.unusedVariables false
def onWb (b : R8) : Bool := b.x == 2 || b.x == 3
def wireIx (bx : List R8) : Nat := bx.findIdx onWb
theorem bsy.ix {bx : List R8} {r : Int} (h : bsy bx r) : (r = -1 ∧ ¬ wireIx bx < bx.length) ∨ (r = (wireIx bx : Int) ∧ wireIx bx < bx.length) := by
  have e : ∀ b, onWb b = true ↔ onW b := fun b => by simp [onWb, onW]
  rcases h with ⟨k, hk, h1, h2, rfl⟩ | ⟨h1, rfl⟩
  · right
    have e : wireIx bx = k := by
      unfold wireIx
      rw [List.findIdx_eq hk]
      refine ⟨(e _).2 h1, fun j hj => ?_⟩
      have := h2 j (by omega) hj
      rw [← e] at this
      simpa using this
    rw [e]
    exact ⟨rfl, hk⟩
  · left
    refine ⟨rfl, ?_⟩
    have : wireIx bx = bx.length := List.findIdx_eq_length.2 fun b hb => by
      obtain ⟨j, hj, rfl⟩ := List.getElem_of_mem hb
      have := h1 j hj
      rw [← e] at this
      simpa using this
    omega
theorem wireIx_on {bx : List R8} (h : wireIx bx < bx.length) : bx[wireIx bx].x = 2 ∨ bx[wireIx bx].x = 3 := by
  have e : onWb (bx[wireIx bx]) = true := List.findIdx_getElem (xs := bx) (p := onWb) (w := h)
  generalize bx[wireIx bx] = b at *
  simpa [onWb] using e
/-- a box is made free -/
def freeHo (H : Ho) (k : Nat) : Ho := { H with bx := H.bx.set k z8 }
def stHo (H : Ho) (k : Nat) (v : Int) : Ho := if h : k < H.bx.length then { H with bx := H.bx.set k { H.bx[k] with x := v } } else H
/-- what Release makes of a host -/
def relHo (H : Ho) (sent : Bool) : Ho :=
  if h : wireIx H.bx < H.bx.length then
    (if sent = true then postHo (freeHo H (wireIx H.bx)) ⟨1, H.bx[wireIx H.bx].y, 0, H.bx[wireIx H.bx].e, H.bx[wireIx H.bx].i, H.bx[wireIx H.bx].r, H.bx[wireIx H.bx].d, H.bx[wireIx H.bx].l⟩
     else if H.bx[wireIx H.bx].x = 3 then postHo (freeHo H (wireIx H.bx)) (ev3 6 H.bx[wireIx H.bx].y 0)
     else stHo H (wireIx H.bx) 1)
  else H
theorem relHo_none {H : Ho} {sent : Bool} (h : ¬ wireIx H.bx < H.bx.length) : relHo H sent = H := by unfold relHo; rw [dif_neg h]
structure reS (w : World) (L : List Value) (W : World) : Prop where
  p : blk W w.heap.size L 35
  r : blk W (w.heap.size + 1) Z10 35
theorem reS.new (w : World) (L : List Value) : reS w L ((w.alloc (.cells L.toArray 35)).alloc (.cells Z10.toArray 35)) := by
  refine ⟨(blk.new w _ 35).alloc _, ?_⟩
  have := blk.new (w.alloc (.cells L.toArray 35)) Z10 35
  simpa using this
theorem reS.below {w : World} {L : List Value} {W W' : World} (h : reS w L W) (hb : Below W.heap.size W W') : reS w L W' := ⟨h.p.below hb, h.r.below hb⟩
theorem reS.kept {w : World} {L : List Value} {W W' : World} (h : reS w L W) (hp : W'.heap[w.heap.size]? = W.heap[w.heap.size]?) (hr : W'.heap[w.heap.size + 1]? = W.heap[w.heap.size + 1]?) : reS w L W' := ⟨h.p.kept hp, h.r.kept hr⟩
theorem new_box {w : World} (L : List Value) (hL : L.length = 8) : blk (World.setCells (w.alloc (.cells [.int .i64 0, .int .i64 0, .int .i64 0, .bool false, .int .u32 0, .bool false, .int .i64 0, .slice none 0 0].toArray 97)) w.heap.size 0 L) w.heap.size L 97 ∧ Below w.heap.size w (World.setCells (w.alloc (.cells [.int .i64 0, .int .i64 0, .int .i64 0, .bool false, .int .u32 0, .bool false, .int .i64 0, .slice none 0 0].toArray 97)) w.heap.size 0 L) := by
  refine ⟨?_, setCells_below (Nat.le_refl _) _ _ ((Below.refl _ _).alloc (Nat.le_refl _) _)⟩
  have := blk.put [] [.int .i64 0, .int .i64 0, .int .i64 0, .bool false, .int .u32 0, .bool false, .int .i64 0, .slice none 0 0] [] L (w := w.alloc (.cells [.int .i64 0, .int .i64 0, .int .i64 0, .bool false, .int .u32 0, .bool false, .int .i64 0, .slice none 0 0].toArray 97)) (b := w.heap.size) (T := 97) (blk.new w _ 97) hL.symm
  simpa using this
abbrev Z8 : List Value := [.int .i64 0, .int .i64 0, .int .i64 0, .bool false, .int .u32 0, .bool false, .int .i64 0, .slice none 0 0]
theorem sp_end {B T0 T1 T2 g4 : Nat} {w w7 w8 : World} {H : Ho} {s : Sl} {ev : R8} {g' n' k' : Nat} (hS : spS B T0 T1 T2 H s w7) (hT2 : T2 ≤ w.heap.size) (hg4 : T2 ≤ g4) (hz : w.heap.size + 1 < w7.heap.size)
    (hV : ∀ V : World, (∀ x, T2 ≤ x → x < w.heap.size ∨ w7.heap.size ≤ x → x < w8.heap.size → V.heap[x]? = w8.heap[x]?) → w8.heap.size ≤ V.heap.size → rowQ8 T2 V.heap.size 46 g' n' k' (quP H.c3 H.qu ev) V)
    (he : ∀ q, q ≠ g4 → q < w7.heap.size → w8.heap[q]? = w7.heap[q]?) (hb : w7.heap.size ≤ w8.heap.size) (L : List Value) : spS B T0 T1 T2 (postHo H ev) (qSl s g' n' k') (w8.setCells (w.heap.size + 1) 0 L) := by
  have oth : ∀ x, x ≠ w.heap.size + 1 → (w8.setCells (w.heap.size + 1) 0 L).heap[x]? = w8.heap[x]? := fun x hx => setCells_other _ x hx _ _ _
  have hsz : (w8.setCells (w.heap.size + 1) 0 L).heap.size = w8.heap.size := setCells_size ..
  have ho := hS.o
  refine hS.post (hV _ (fun x h1 h2 h3 => oth x (by omega)) (by omega)) (fun q h1 h2 => ?_) (by omega)
  rw [oth q (by omega)]
  exact he q (by omega) (by omega)
theorem rowQ8.glt {B T E g n k : Nat} {bs : List R8} {W : World} (h : rowQ8 B T E g n k bs W) : B ≤ g := by
  obtain ⟨rs, h1, _⟩ := h
  exact h1.lt.1
theorem none8 (W : World) : isBytes W none 0 0 [] := ⟨rfl, Nat.le_refl _, fun q hq => (by cases hq), fun h => absurd rfl h⟩
/-- behind the store of an empty box -/
theorem sp_free {B T0 T1 T2 gb : Nat} {w w6 w7 : World} {H : Ho} {s : Sl} {k : Nat} {hs : Nat → Hd} (hS : spS B T0 T1 T2 H s w6) (e2 : s.a2 = some ⟨gb, 0, none⟩) (hx : bxR T0 T1 gb s.n2 s.k2 H.bx hs w6) (hk : k < H.bx.length) (e7 : w6.setCells gb (k * 8) Z8 = w7) (hb : Below B w w6) : spS B T0 T1 T2 (freeHo H k) s w7 ∧ Below B w w7 := by
  have e : w6.setCells gb (k * 8) Z8 = setRow w6 gb (k * 8) (x8 (z8, (none, 0, 0))) := setCells_row ..
  have hput := hx.put k hk z8 (none, 0, 0) (none8 _) (Or.inl ⟨rfl, rfl⟩)
  rw [← e, e7] at hput
  refine ⟨hS.box e2 hput (fun q hq => ?_) ?_, ?_⟩
  · rw [← e7]; exact setCells_other _ q hq _ _ _
  · rw [← e7]; exact setCells_size ..
  · rw [← e7]; exact setCells_below (by have := hx.lo; have := hS.o; omega) _ _ hb
theorem rowQ8.ghi {B T E g n k : Nat} {bs : List R8} {W : World} (h : rowQ8 B T E g n k bs W) : g < T := by
  obtain ⟨rs, h1, _, _, h2, _⟩ := h
  exact h2
theorem sp_free2 {B T0 T1 T2 gb g4 : Nat} {w w5 w6 w7 : World} {H : Ho} {s : Sl} {k : Nat} {hs : Nat → Hd} {ao : Option Addr} {m c : Nat} {l : List Nat} (h0 : spS B T0 T1 T2 H s w) (h5 : spS B T0 T1 T2 H s w5) (b5 : Below w.heap.size w w5) (b6 : Below w5.heap.size w5 w6) (e2 : s.a2 = some ⟨gb, 0, none⟩ ∧ s.a4 = some ⟨g4, 0, none⟩) (hx : bxR T0 T1 gb s.n2 s.k2 H.bx hs w6) (hk : k < H.bx.length) (e7 : w6.setCells gb (k * 8) Z8 = w7) (hq : rowQ8 T2 w.heap.size 46 g4 s.n4 s.k4 H.qu w) (hd : isBytes w5 ao m c l) (hw : (ao = none ∧ m = 0) ∨ ∃ b, ao = some ⟨b, 0, none⟩ ∧ T0 ≤ b ∧ b < T1 ∧ b ≠ gb) (hz : w.heap.size < w5.heap.size ∧ w.heap.size + 1 < w5.heap.size) : spS B T0 T1 T2 (freeHo H k) s w7 ∧ isBytes w7 ao m c l ∧ Below B w w7 ∧ rowQ8 T2 w.heap.size 46 g4 s.n4 s.k4 H.qu w7 ∧ w.heap.size + 1 < w7.heap.size ∧ g4 < w.heap.size := by
  have ho := h0.o
  have hf := sp_free (h5.below b6) e2.1 hx hk e7 ((b5.mono (by omega)).trans (b6.mono (by omega)))
  have hxl := hx.lo
  have hxh := hx.hi
  have oth : ∀ x, x ≠ gb → w7.heap[x]? = w6.heap[x]? := fun x hx => by rw [← e7]; exact setCells_other _ x hx _ _ _
  have hs7 : w7.heap.size = w6.heap.size := by rw [← e7]; exact setCells_size ..
  have := b6.size
  refine ⟨hf.1, ?_, hf.2, hq.keep fun x h1 h2 => (oth x (by omega)).trans ((b6.block x (by omega)).trans (b5.block x h2)), by omega, hq.ghi⟩
  rcases hw with ⟨d1, d2⟩ | ⟨d, d1, d2, d3, d4⟩
  · exact hd.none0 d2
  · subst d1
    exact hd.other ((oth d d4).trans (b6.block d (by omega)))
theorem stHo_L (H : Ho) (k : Nat) (v : Int) (s : Sl) : hoL (stHo H k v) s = hoL H s := by
  unfold stHo
  split <;> rfl
theorem stHo_yes {H : Ho} {k : Nat} (hk : k < H.bx.length) (v : Int) : stHo H k v = { H with bx := H.bx.set k { H.bx[k] with x := v } } := by
  unfold stHo
  rw [dif_pos hk]
/-- the state of a box is written, and then the answer -/
theorem sp_state {B T0 T1 T2 gb : Nat} {w w5 w6 w9 : World} {H : Ho} {s : Sl} {k : Nat} {hs : Nat → Hd} (h0 : spS B T0 T1 T2 H s w) (h5 : spS B T0 T1 T2 H s w5) (b5 : Below w.heap.size w w5) (b6 : Below w5.heap.size w5 w6) (e2 : s.a2 = some ⟨gb, 0, none⟩) (hx : bxR T0 T1 gb s.n2 s.k2 H.bx hs w6) (hk : k < H.bx.length) (v : Int) (hz : w.heap.size < w5.heap.size ∧ w.heap.size + 1 < w5.heap.size) {L : List Value} (e9 : (w6.setCell ⟨gb, k * 8, none⟩ (.int .i64 v)).setCells (w.heap.size + 1) 0 L = w9) : spS B T0 T1 T2 (stHo H k v) s w9 := by
  have ho := h0.o
  have hxl := hx.lo
  have hxh := hx.hi
  have hz9 : w9.heap.size = w6.heap.size := by rw [← e9, setCells_size]; simp
  have hz6 := b6.size
  have o9 : ∀ x, x ≠ w.heap.size + 1 → w9.heap[x]? = (w6.setCell ⟨gb, k * 8, none⟩ (.int .i64 v)).heap[x]? := fun x hx => by rw [← e9]; exact setCells_other _ x hx _ _ _
  have o7 : ∀ x, x ≠ gb → (w6.setCell ⟨gb, k * 8, none⟩ (.int .i64 v)).heap[x]? = w6.heap[x]? := fun x hx => heap_setCell_other w6 ⟨gb, k * 8, none⟩ x _ hx
  have k9 : ∀ x, x ≠ gb → x < w.heap.size → w9.heap[x]? = w.heap[x]? := fun x h1 h2 => (o9 x (by omega)).trans ((o7 x h1).trans ((b6.block x (by omega)).trans (b5.block x h2)))
  rw [stHo_yes hk]
  obtain ⟨gf, e1, h1a, h1b, h1⟩ := h0.f
  obtain ⟨gq, e3, h3⟩ := h0.r
  obtain ⟨g4, e4, h4⟩ := h0.q
  refine ⟨⟨gf, e1, h1a, h1b, h1.same (k9 gf (by omega) (by omega))⟩, ⟨gb, hs, e2, (hx.setX k hk v).st fun x h1 h2 => o9 x (by omega)⟩, ⟨gq, e3, h3.keep fun x h1 h2 => k9 x (by omega) (by omega)⟩, ⟨g4, e4, ?_⟩, ⟨ho.1, ho.2.1, ho.2.2.1, by omega⟩⟩
  exact (h4.keep fun x h1 h2 => k9 x (by omega) h2).mono (by omega)
set_option maxHeartbeats 8000000 in
set_option maxRecDepth 20000 in
/-- spec.l3doRelease -/
theorem l3doRelease_any (B T0 T1 T2 : Nat) (w : World) (H : Ho) (s : Sl) (sent : Bool) (h : spS B T0 T1 T2 H s w) (hn2 : s.n2 ≤ 1000) (hn4 : s.n4 ≤ 1000) (hlo : 0 ≤ H.lo ∧ H.lo ≤ 100000) (hsm : ∀ j (h : j < H.bx.length), H.bx[j].l.length ≤ 1048576) :
    Calls Tryz.prog 79 #[.agg (hoL H s).toArray, .bool sent] w fun o w' => ∃ s', o = .returned (.agg (hoL (relHo H sent) s').toArray) ∧ spS B T0 T1 T2 (relHo H sent) s' w' ∧ Below B w w' := by
  have H0 : Hid (reS w (hoL H s) ((w.alloc (.cells (hoL H s).toArray 35)).alloc (.cells [.int .i64 0, .int .i64 0, .int .i64 0, .int .i64 0, .slice none 0 0, .slice none 0 0, .slice none 0 0, .slice none 0 0, .int .i64 0, .int .i64 0].toArray 35))) := reS.new w _
  have HB0 : Hid (Below w.heap.size w ((w.alloc (.cells (hoL H s).toArray 35)).alloc (.cells [.int .i64 0, .int .i64 0, .int .i64 0, .int .i64 0, .slice none 0 0, .slice none 0 0, .slice none 0 0, .slice none 0 0, .int .i64 0, .int .i64 0].toArray 35))) := ((Below.refl _ _).alloc (Nat.le_refl _) _).alloc (by simp) _
  have HBS : Hid (∀ W, Below w.heap.size w W → Calls Tryz.prog 142 #[.agg (hoL H s).toArray] W fun o w' => ∃ r : Int, o = .returned (.int .i64 r) ∧ bsy H.bx r ∧ Below W.heap.size W w') := fun W hW => l3busy_any W H s (h.below hW).is.bx hn2
  have HS0 : Hid (spS B T0 T1 T2 H s w) := h
  have HSM : Hid (∀ j (h : j < H.bx.length), H.bx[j].l.length ≤ 1048576) := hsm
  clear h hsm
  go_enter Tryz.func79, Tryz.ntmps79
  go_wp2_with (first
    | (refine wpList_load_mid (P := Tryz.prog) rfl 35 (.tmp 2) rfl w.heap.size 0 rfl (hoL H s) _ H0.out.p.load Tryz.underlying35 rfl (sz41L H s) ?_))
  refine (HBS.out _ HB0.out).mono ?_
  rintro o w5 ⟨r, rfl, hr, hb5⟩
  have H5 : Hid (reS w (hoL H s) w5) := H0.out.below hb5
  have HB5 : Hid (Below w.heap.size w w5) := HB0.out.trans (hb5.mono HB0.out.size)
  have HS5 : Hid (spS B T0 T1 T2 H s w5) := HS0.out.below HB5.out
  have hR := hr.ix
  clear hr hb5 H0 HB0
  have HZ0 : Hid (B ≤ w.heap.size) := by have := HS0.out.o; show _ ≤ _; omega
  rcases hR with ⟨rfl, hno⟩ | ⟨rfl, hk⟩
  · have HT : Hid (relHo H sent = H) := relHo_none hno
    go_wp2_with (first
    | (refine wpList_load_mid (P := Tryz.prog) rfl 35 (.tmp 2) rfl w.heap.size 0 rfl (hoL H s) _ H5.out.p.load Tryz.underlying35 rfl (sz41L H s) ?_)
    | (refine wpList_store_mid (P := Tryz.prog) rfl 35 (.tmp 4) _ rfl (w.heap.size + 1) 0 (hoL H s).toArray rfl rfl (H5.out.r.there 0 _ (by rw [List.size_toArray, hoL_len]; decide)) (sz41A H s) (hoL_one H s) ?_; generalize hW8 : World.setCells _ (w.heap.size + 1) 0 _ = w8; have HW8 : Hid (_ = w8) := hW8; clear hW8))
    have e8 := HW8.out
    have hF : blk w8 (w.heap.size + 1) (hoL H s) 35 := by
      rw [← e8]
      have := blk.put [] Z10 [] (hoL H s) (w := w5) (b := w.heap.size + 1) (T := 35) (by simpa using H5.out.r) (by rw [hoL_len]; rfl)
      simpa using this
    have hL := run_loadVar_mid (P := Tryz.prog) w8 (w.heap.size + 1) 0 35 _ _ hF.load Tryz.underlying35 rfl (sz41L H s)
    refine bodyPost_ret (v := .agg (hoL H s).toArray) (results_cell Tryz.results79 _ w8 (w.heap.size + 1) _ rfl hL) rfl ?_
    rw [HT.out]
    have b8 : Below w.heap.size w w8 := by
      rw [← e8]
      exact setCells_below (by omega) 0 _ HB5.out
    exact ⟨s, rfl, HS0.out.below b8, b8.mono HZ0.out⟩
  · obtain ⟨gb, hs0, e2, hx⟩ := HS5.out.x
    obtain ⟨g4, e4, hq4⟩ := HS5.out.q
    have hw5 : (H.bx[wireIx H.bx]'hk).x = 2 ∨ (H.bx[wireIx H.bx]'hk).x = 3 := wireIx_on hk
    have HRL : Hid (relHo H sent = if sent = true then postHo (freeHo H (wireIx H.bx)) ⟨1, H.bx[wireIx H.bx].y, 0, H.bx[wireIx H.bx].e, H.bx[wireIx H.bx].i, H.bx[wireIx H.bx].r, H.bx[wireIx H.bx].d, H.bx[wireIx H.bx].l⟩ else if H.bx[wireIx H.bx].x = 3 then postHo (freeHo H (wireIx H.bx)) (ev3 6 H.bx[wireIx H.bx].y 0) else stHo H (wireIx H.bx) 1) := by
      show relHo H sent = _
      unfold relHo
      rw [dif_pos hk]
    generalize wireIx H.bx = k at *
    have x5 : w5.cell? ⟨w.heap.size, 5, none⟩ = some (.slice (some ⟨gb, 0, none⟩) s.n2 s.k2) := by
      rw [← e2]
      exact H5.out.p.cell 5 _ (by unfold hoL; rfl)
    have hcp := hx.cap
    have hkn : k < s.n2 := by have := hx.len; omega
    have HX : Hid (bxR T0 T1 gb s.n2 s.k2 H.bx hs0 w5) := hx
    have HE : Hid (s.a2 = some ⟨gb, 0, none⟩ ∧ s.a4 = some ⟨g4, 0, none⟩) := ⟨e2, e4⟩
    have HRG : Hid (w5.rangeAt gb (k * 8) (x8 (H.bx[k], hs0 k))) := hx.rng k hk
    have HDT : Hid (isBytes w5 (hs0 k).1 (hs0 k).2.1 (hs0 k).2.2 H.bx[k].l) := (hx.dat k hk).1
    have HDW : Hid (((hs0 k).1 = none ∧ (hs0 k).2.1 = 0) ∨ ∃ b, (hs0 k).1 = some ⟨b, 0, none⟩ ∧ T0 ≤ b ∧ b < T1 ∧ b ≠ gb) := (hx.dat k hk).2
    have HMM : Hid ((hs0 k).2.1 ≤ 1048576) := by
      have := (hx.dat k hk).1.len
      have := HSM.out k hk
      show _ ≤ _
      omega
    have HGL : Hid (gb < w.heap.size) := by
      obtain ⟨gb', hs', e2', hx'⟩ := HS0.out.x
      have : gb' = gb := by rw [e2] at e2'; cases e2'; rfl
      subst this
      have := hx'.hi
      have := HS0.out.o
      show _ < _
      omega
    have HQ0 : Hid (rowQ8 T2 w.heap.size 46 g4 s.n4 s.k4 H.qu w) := by
      obtain ⟨g4', e4', hq'⟩ := HS0.out.q
      have : g4' = g4 := by rw [e4] at e4'; cases e4'; rfl
      subst this
      exact hq'
    clear hx hq4 e2 e4
    have HKK : Hid (k < H.bx.length) := hk
    generalize H.bx[k] = bk at *
    generalize hs0 k = hk' at *
    obtain ⟨bX, bY, bZ, bE, bI, bR, bD, bL⟩ := bk
    obtain ⟨ao, m, c⟩ := hk'
    simp only [] at HRG HDT HMM HDW HRL hw5
    have HAL : Hid (blk (w5.alloc (.cells [.int .i64 0, .int .i64 0, .int .i64 0, .bool false, .int .u32 0, .bool false, .int .i64 0, .slice none 0 0].toArray 97)) w5.heap.size ([] ++ [.int .i64 0, .int .i64 0, .int .i64 0, .bool false, .int .u32 0, .bool false, .int .i64 0, .slice none 0 0] ++ []) 97) := blk.new w5 _ 97
    have HN6 : Hid (blk (World.setCells (w5.alloc (.cells [.int .i64 0, .int .i64 0, .int .i64 0, .bool false, .int .u32 0, .bool false, .int .i64 0, .slice none 0 0].toArray 97)) w5.heap.size 0 [.int .i64 bX, .int .i64 bY, .int .i64 bZ, .bool bE, .int .u32 (bI : Int), .bool bR, .int .i64 bD, .slice ao m c]) w5.heap.size [.int .i64 bX, .int .i64 bY, .int .i64 bZ, .bool bE, .int .u32 (bI : Int), .bool bR, .int .i64 bD, .slice ao m c] 97 ∧ Below w5.heap.size w5 (World.setCells (w5.alloc (.cells [.int .i64 0, .int .i64 0, .int .i64 0, .bool false, .int .u32 0, .bool false, .int .i64 0, .slice none 0 0].toArray 97)) w5.heap.size 0 [.int .i64 bX, .int .i64 bY, .int .i64 bZ, .bool bE, .int .u32 (bI : Int), .bool bR, .int .i64 bD, .slice ao m c])) := new_box _ rfl
    have HPL : Hid (w.heap.size < w5.heap.size ∧ w.heap.size + 1 < w5.heap.size) := ⟨H5.out.p.lt, H5.out.r.lt⟩
    by_cases hs : sent = true
    · subst hs
      go_wp2_with (first
      | (refine wpList_load_mid (P := Tryz.prog) rfl 97 _ rfl gb (k * 8) rfl [.int .i64 bX, .int .i64 bY, .int .i64 bZ, .bool bE, .int .u32 (bI : Int), .bool bR, .int .i64 bD, .slice ao m c] _ HRG.out Tryz.underlying97 rfl sz95 ?_)
      | (refine wpList_store_mid (P := Tryz.prog) rfl 97 _ _ rfl w5.heap.size 0 _ rfl rfl (HAL.out.there 0 8 (by simp)) sz95 (one8 _ _ _ _ _ _ _ _ _ _) ?_; generalize hW6 : World.setCells (w5.alloc _) w5.heap.size 0 _ = w6; have HP6 : Hid (blk w6 w5.heap.size [.int .i64 bX, .int .i64 bY, .int .i64 bZ, .bool bE, .int .u32 (bI : Int), .bool bR, .int .i64 bD, .slice ao m c] 97 ∧ Below w5.heap.size w5 w6) := (by rw [← hW6]; exact HN6.out); clear hW6 HN6 HAL; have x6 : w6.cell? ⟨w.heap.size, 5, none⟩ = some (.slice (some ⟨gb, 0, none⟩) s.n2 s.k2) := (HP6.out.2.cell (by exact HPL.out.1)).trans x5; have HX6 : Hid (bxR T0 T1 gb s.n2 s.k2 H.bx hs0 w6) := HX.out.st (fun x _ hx => HP6.out.2.block x (by have := HS5.out.o; omega)))
      | (refine wpList_store_mid (P := Tryz.prog) rfl 97 _ _ rfl gb (k * 8) [.int .i64 0, .int .i64 0, .int .i64 0, .bool false, .int .u32 0, .bool false, .int .i64 0, .slice none 0 0].toArray rfl rfl (HX6.out.there k HKK.out) sz95 (one8 _ _ _ _ _ _ _ _ _ _) ?_; generalize hW7 : World.setCells w6 gb (k * 8) _ = w7; have HW7 : Hid (_ = w7) := hW7; clear hW7; have oth : ∀ x, x ≠ gb → w7.heap[x]? = w6.heap[x]? := (fun x hx => by rw [← HW7.out]; exact setCells_other _ x hx _ _ _); have HL7 : Hid (reS w (hoL H s) w7 ∧ blk w7 w5.heap.size [.int .i64 bX, .int .i64 bY, .int .i64 bZ, .bool bE, .int .u32 (bI : Int), .bool bR, .int .i64 bD, .slice ao m c] 97) := ⟨(H5.out.below HP6.out.2).kept (oth _ (by have := HGL.out; omega)) (oth _ (by have := HGL.out; omega)), HP6.out.1.kept (oth _ (by have := HGL.out; have := HPL.out; omega))⟩; have HS7 : Hid (spS B T0 T1 T2 (freeHo H k) s w7 ∧ isBytes w7 ao m c bL ∧ Below B w w7 ∧ rowQ8 T2 w.heap.size 46 g4 s.n4 s.k4 H.qu w7 ∧ w.heap.size + 1 < w7.heap.size ∧ g4 < w.heap.size) := sp_free2 HS0.out HS5.out HB5.out HP6.out.2 HE.out HX6.out HKK.out HW7.out HQ0.out HDT.out HDW.out HPL.out; clear oth; have y1 : w7.cell? ⟨w5.heap.size, 1, none⟩ = some (.int .i64 bY) := HL7.out.2.cell 1 _ rfl)
      | (refine wpList_load_mid (P := Tryz.prog) rfl 35 _ rfl w.heap.size 0 rfl (hoL H s) _ HL7.out.1.p.load Tryz.underlying35 rfl (sz41L H s) ?_)
      | (refine wpList_load_mid (P := Tryz.prog) rfl 25 _ rfl w5.heap.size 3 rfl [.bool bE, .int .u32 (bI : Int), .bool bR, .int .i64 bD, .slice ao m c] _ (blk.loadAt [.int .i64 bX, .int .i64 bY, .int .i64 bZ] [.bool bE, .int .u32 (bI : Int), .bool bR, .int .i64 bD, .slice ao m c] [] HL7.out.2) Tryz.underlying25 rfl sz93 ?_))
      refine (l3post_q w7 (freeHo H k) s T2 w.heap.size g4 ⟨1, bY, 0, bE, bI, bR, bD, bL⟩ ao m c HE.out.2 HS7.out.2.2.2.1 HS7.out.1.o.2.2.2 hn4 hlo HS7.out.2.1 HMM.out).mono ?_
      rintro o w8 ⟨g', n', k', rfl, hV, ho8, hb8⟩
      have HR8 : Hid (blk w8 (w.heap.size + 1) Z10 35) := HL7.out.1.r.kept (ho8 _ (by have := HS7.out.2.2.2.2.2; omega) HS7.out.2.2.2.2.1)
      have HE8 : Hid (∀ L : List Value, spS B T0 T1 T2 (postHo (freeHo H k) ⟨1, bY, 0, bE, bI, bR, bD, bL⟩) (qSl s g' n' k') (w8.setCells (w.heap.size + 1) 0 L)) := fun L => sp_end HS7.out.1 HS0.out.o.2.2.2 HS7.out.2.2.2.1.glt HS7.out.2.2.2.2.1 hV ho8 hb8.size L
      have HB8 : Hid (Below B w w8) := HS7.out.2.2.1.trans (hb8.mono (by have := HS0.out.o; omega))
      clear hV ho8 hb8
      go_wp2_with (first
        | (refine wpList_store_mid (P := Tryz.prog) rfl 35 (.tmp 4) _ rfl (w.heap.size + 1) 0 (hoL (postHo (freeHo H k) ⟨1, bY, 0, bE, bI, bR, bD, bL⟩) (qSl s g' n' k')).toArray rfl rfl (HR8.out.there 0 _ (by rw [List.size_toArray, hoL_len]; decide)) (sz41A _ _) (hoL_one _ _) ?_; generalize hW9 : World.setCells _ (w.heap.size + 1) 0 _ = w9; have HW9 : Hid (_ = w9) := hW9; clear hW9))
      have e9 := HW9.out
      have hF : blk w9 (w.heap.size + 1) (hoL (postHo (freeHo H k) ⟨1, bY, 0, bE, bI, bR, bD, bL⟩) (qSl s g' n' k')) 35 := by
        rw [← e9]
        have := blk.put [] Z10 [] (hoL (postHo (freeHo H k) ⟨1, bY, 0, bE, bI, bR, bD, bL⟩) (qSl s g' n' k')) (w := w8) (b := w.heap.size + 1) (T := 35) (by simpa using HR8.out) (by rw [hoL_len]; rfl)
        simpa using this
      have hL := run_loadVar_mid (P := Tryz.prog) w9 (w.heap.size + 1) 0 35 _ _ hF.load Tryz.underlying35 rfl (sz41L _ _)
      refine bodyPost_ret (v := .agg (hoL (postHo (freeHo H k) ⟨1, bY, 0, bE, bI, bR, bD, bL⟩) (qSl s g' n' k')).toArray) (results_cell Tryz.results79 _ w9 (w.heap.size + 1) _ rfl hL) rfl ?_
      have hrl : relHo H true = postHo (freeHo H k) ⟨1, bY, 0, bE, bI, bR, bD, bL⟩ := by simpa using HRL.out
      rw [hrl]
      refine ⟨_, rfl, ?_, ?_⟩
      · rw [← e9]; exact HE8.out _
      · rw [← e9]; exact setCells_below (by have := HZ0.out; omega) 0 _ HB8.out
    · have hs' : sent = false := by simpa using hs
      subst hs'
      rcases hw5 with e0 | e0
      · subst e0
        have H7 : Hid (∀ {w6 : World}, Below w5.heap.size w5 w6 → reS w (hoL H s) (w6.setCell ⟨gb, k * 8, none⟩ (.int .i64 1))) := fun {w6} hb => ⟨(H5.out.below hb).p.setOther (by have := HGL.out; omega) _ _, (H5.out.below hb).r.setOther (by have := HGL.out; omega) _ _⟩
        go_wp2_with (first
        | (refine wpList_load_mid (P := Tryz.prog) rfl 97 _ rfl gb (k * 8) rfl [.int .i64 2, .int .i64 bY, .int .i64 bZ, .bool bE, .int .u32 (bI : Int), .bool bR, .int .i64 bD, .slice ao m c] _ HRG.out Tryz.underlying97 rfl sz95 ?_)
        | (refine wpList_store_mid (P := Tryz.prog) rfl 97 _ _ rfl w5.heap.size 0 _ rfl rfl (HAL.out.there 0 8 (by simp)) sz95 (one8 _ _ _ _ _ _ _ _ _ _) ?_; generalize hW6 : World.setCells (w5.alloc _) w5.heap.size 0 _ = w6; have HP6 : Hid (blk w6 w5.heap.size [.int .i64 2, .int .i64 bY, .int .i64 bZ, .bool bE, .int .u32 (bI : Int), .bool bR, .int .i64 bD, .slice ao m c] 97 ∧ Below w5.heap.size w5 w6) := (by rw [← hW6]; exact HN6.out); clear hW6 HN6 HAL; have y60 : w6.cell? ⟨w5.heap.size, 0, none⟩ = some (.int .i64 2) := HP6.out.1.cell 0 _ rfl; have z60 : w6.cell? ⟨gb, k * 8, none⟩ = some (.int .i64 2) := (HP6.out.2.cell (by exact Nat.lt_trans HGL.out HPL.out.1)).trans (HRG.out 0 _ rfl); have f60 : w6.frozen? ⟨gb, k * 8, none⟩ = false := (by rw [World.frozen?_of_block (HP6.out.2.block gb (Nat.lt_trans HGL.out HPL.out.1))]; exact (HX.out.row (k * 8) (by omega)).2); have x6 : w6.cell? ⟨w.heap.size, 5, none⟩ = some (.slice (some ⟨gb, 0, none⟩) s.n2 s.k2) := (HP6.out.2.cell (by exact HPL.out.1)).trans x5; have HX6 : Hid (bxR T0 T1 gb s.n2 s.k2 H.bx hs0 w6) := HX.out.st (fun x _ hx => HP6.out.2.block x (by have := HS5.out.o; omega)))
        | (refine wpList_load_mid (P := Tryz.prog) rfl 35 _ rfl w.heap.size 0 rfl (hoL H s) _ (H7.out HP6.out.2).p.load Tryz.underlying35 rfl (sz41L H s) ?_)
        | (refine wpList_store_mid (P := Tryz.prog) rfl 35 (.tmp 4) _ rfl (w.heap.size + 1) 0 (hoL H s).toArray rfl rfl ((H7.out HP6.out.2).r.there 0 _ (by rw [List.size_toArray, hoL_len]; decide)) (sz41A H s) (hoL_one H s) ?_; generalize hW9 : World.setCells _ (w.heap.size + 1) 0 _ = w9; have HW9 : Hid (_ = w9) := hW9; clear hW9))
        have e9 := HW9.out
        have hF : blk w9 (w.heap.size + 1) (hoL H s) 35 := by
          rw [← e9]
          have := blk.put [] Z10 [] (hoL H s) (w := w6.setCell ⟨gb, k * 8, none⟩ (.int .i64 1)) (b := w.heap.size + 1) (T := 35) (by simpa using (H7.out HP6.out.2).r) (by rw [hoL_len]; rfl)
          simpa using this
        have hL := run_loadVar_mid (P := Tryz.prog) w9 (w.heap.size + 1) 0 35 _ _ hF.load Tryz.underlying35 rfl (sz41L _ _)
        refine bodyPost_ret (v := .agg (hoL H s).toArray) (results_cell Tryz.results79 _ w9 (w.heap.size + 1) _ rfl hL) rfl ?_
        have hrl : relHo H false = stHo H k 1 := by simpa using HRL.out
        rw [hrl]
        refine ⟨s, by rw [stHo_L], ?_, ?_⟩
        · exact sp_state HS0.out HS5.out HB5.out HP6.out.2 HE.out.1 HX6.out HKK.out 1 HPL.out e9
        · rw [← e9]; exact setCells_below (by have := HZ0.out; omega) 0 _ (((HB5.out.mono HZ0.out).trans (HP6.out.2.mono (Nat.le_trans HZ0.out HB5.out.size))).setCell (by have h1 := HX6.out.lo; have h2 := HS0.out.o; show B ≤ gb; omega) _)
      · subst e0
        go_wp2_with (first
        | (refine wpList_load_mid (P := Tryz.prog) rfl 97 _ rfl gb (k * 8) rfl [.int .i64 3, .int .i64 bY, .int .i64 bZ, .bool bE, .int .u32 (bI : Int), .bool bR, .int .i64 bD, .slice ao m c] _ HRG.out Tryz.underlying97 rfl sz95 ?_)
        | (refine wpList_store_mid (P := Tryz.prog) rfl 97 _ _ rfl w5.heap.size 0 _ rfl rfl (HAL.out.there 0 8 (by simp)) sz95 (one8 _ _ _ _ _ _ _ _ _ _) ?_; generalize hW6 : World.setCells (w5.alloc _) w5.heap.size 0 _ = w6; have HP6 : Hid (blk w6 w5.heap.size [.int .i64 3, .int .i64 bY, .int .i64 bZ, .bool bE, .int .u32 (bI : Int), .bool bR, .int .i64 bD, .slice ao m c] 97 ∧ Below w5.heap.size w5 w6) := (by rw [← hW6]; exact HN6.out); clear hW6 HN6 HAL; have y60 : w6.cell? ⟨w5.heap.size, 0, none⟩ = some (.int .i64 3) := HP6.out.1.cell 0 _ rfl; have x6 : w6.cell? ⟨w.heap.size, 5, none⟩ = some (.slice (some ⟨gb, 0, none⟩) s.n2 s.k2) := (HP6.out.2.cell (by exact HPL.out.1)).trans x5; have HX6 : Hid (bxR T0 T1 gb s.n2 s.k2 H.bx hs0 w6) := HX.out.st (fun x _ hx => HP6.out.2.block x (by have := HS5.out.o; omega)))
        | (refine wpList_store_mid (P := Tryz.prog) rfl 97 _ _ rfl gb (k * 8) [.int .i64 0, .int .i64 0, .int .i64 0, .bool false, .int .u32 0, .bool false, .int .i64 0, .slice none 0 0].toArray rfl rfl (HX6.out.there k HKK.out) sz95 (one8 _ _ _ _ _ _ _ _ _ _) ?_; generalize hW7 : World.setCells w6 gb (k * 8) _ = w7; have HW7 : Hid (_ = w7) := hW7; clear hW7; have oth : ∀ x, x ≠ gb → w7.heap[x]? = w6.heap[x]? := (fun x hx => by rw [← HW7.out]; exact setCells_other _ x hx _ _ _); have HL7 : Hid (reS w (hoL H s) w7 ∧ blk w7 w5.heap.size [.int .i64 3, .int .i64 bY, .int .i64 bZ, .bool bE, .int .u32 (bI : Int), .bool bR, .int .i64 bD, .slice ao m c] 97) := ⟨(H5.out.below HP6.out.2).kept (oth _ (by have := HGL.out; omega)) (oth _ (by have := HGL.out; omega)), HP6.out.1.kept (oth _ (by have := HGL.out; have := HPL.out; omega))⟩; have HS7 : Hid (spS B T0 T1 T2 (freeHo H k) s w7 ∧ isBytes w7 ao m c bL ∧ Below B w w7 ∧ rowQ8 T2 w.heap.size 46 g4 s.n4 s.k4 H.qu w7 ∧ w.heap.size + 1 < w7.heap.size ∧ g4 < w.heap.size) := sp_free2 HS0.out HS5.out HB5.out HP6.out.2 HE.out HX6.out HKK.out HW7.out HQ0.out HDT.out HDW.out HPL.out; clear oth; have y1 : w7.cell? ⟨w5.heap.size, 1, none⟩ = some (.int .i64 bY) := HL7.out.2.cell 1 _ rfl)
        | (refine wpList_load_mid (P := Tryz.prog) rfl 35 _ rfl w.heap.size 0 rfl (hoL H s) _ HL7.out.1.p.load Tryz.underlying35 rfl (sz41L H s) ?_)
        | (refine wpList_load_mid (P := Tryz.prog) rfl 25 _ rfl w5.heap.size 3 rfl [.bool bE, .int .u32 (bI : Int), .bool bR, .int .i64 bD, .slice ao m c] _ (blk.loadAt [.int .i64 3, .int .i64 bY, .int .i64 bZ] [.bool bE, .int .u32 (bI : Int), .bool bR, .int .i64 bD, .slice ao m c] [] HL7.out.2) Tryz.underlying25 rfl sz93 ?_))
        refine (l3say_q w7 (freeHo H k) s T2 w.heap.size g4 6 bY 0 HE.out.2 HS7.out.2.2.2.1 HS7.out.1.o.2.2.2 hn4 hlo).mono ?_
        rintro o w8 ⟨g', n', k', rfl, hV, ho8, hb8⟩
        have HR8 : Hid (blk w8 (w.heap.size + 1) Z10 35) := HL7.out.1.r.kept (ho8 _ (by have := HS7.out.2.2.2.2.2; omega) HS7.out.2.2.2.2.1)
        have HE8 : Hid (∀ L : List Value, spS B T0 T1 T2 (postHo (freeHo H k) (ev3 6 bY 0)) (qSl s g' n' k') (w8.setCells (w.heap.size + 1) 0 L)) := fun L => sp_end HS7.out.1 HS0.out.o.2.2.2 HS7.out.2.2.2.1.glt HS7.out.2.2.2.2.1 hV ho8 hb8.size L
        have HB8 : Hid (Below B w w8) := HS7.out.2.2.1.trans (hb8.mono (by have := HS0.out.o; omega))
        clear hV ho8 hb8
        go_wp2_with (first
          | (refine wpList_store_mid (P := Tryz.prog) rfl 35 (.tmp 4) _ rfl (w.heap.size + 1) 0 (hoL (postHo (freeHo H k) (ev3 6 bY 0)) (qSl s g' n' k')).toArray rfl rfl (HR8.out.there 0 _ (by rw [List.size_toArray, hoL_len]; decide)) (sz41A _ _) (hoL_one _ _) ?_; generalize hW9 : World.setCells _ (w.heap.size + 1) 0 _ = w9; have HW9 : Hid (_ = w9) := hW9; clear hW9))
        have e9 := HW9.out
        have hF : blk w9 (w.heap.size + 1) (hoL (postHo (freeHo H k) (ev3 6 bY 0)) (qSl s g' n' k')) 35 := by
          rw [← e9]
          have := blk.put [] Z10 [] (hoL (postHo (freeHo H k) (ev3 6 bY 0)) (qSl s g' n' k')) (w := w8) (b := w.heap.size + 1) (T := 35) (by simpa using HR8.out) (by rw [hoL_len]; rfl)
          simpa using this
        have hL := run_loadVar_mid (P := Tryz.prog) w9 (w.heap.size + 1) 0 35 _ _ hF.load Tryz.underlying35 rfl (sz41L _ _)
        refine bodyPost_ret (v := .agg (hoL (postHo (freeHo H k) (ev3 6 bY 0)) (qSl s g' n' k')).toArray) (results_cell Tryz.results79 _ w9 (w.heap.size + 1) _ rfl hL) rfl ?_
        have hrl : relHo H false = postHo (freeHo H k) (ev3 6 bY 0) := by simpa using HRL.out
        rw [hrl]
        refine ⟨_, rfl, ?_, ?_⟩
        · rw [← e9]; exact HE8.out _
        · rw [← e9]; exact setCells_below (by have := HZ0.out; omega) 0 _ HB8.out
end Go.Proofs.YtaamahohdnbpiaaGreat
