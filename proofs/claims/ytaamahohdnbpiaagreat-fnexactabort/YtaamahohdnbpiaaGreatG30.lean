import Derived.Test.YtaamahohdnbpiaaGreatG29
import Derived.Test.YtaamahohdnbpiaaGreatNN
import Derived.Maps.OwnSet
import Derived.Test.YtaamahohdnbpiaaGreatG26
import Derived.StillTailTactics
import Derived.Test.YtaamahohdnbpiaaGreatG24
import Derived.Test.YtaamahohdnbpiaaGreatG23
import Derived.Deep.RegionHeld3
import Derived.Test.YtaamahohdnbpiaaGreatG04
namespace Go.Proofs.YtaamahohdnbpiaaGreat
open Go.RowKit
set_option linter.unusedVariables false
/-- where a live host lies -/
structure Lg where
  P : Nat
  mb : Nat
  r1 : Nat
  r3 : Nat
  gf : Nat
  n1 : Nat
  kf : Nat
  gb : Nat
  n2 : Nat
  kb : Nat
  gr : Nat
  gq : Nat
/-- the cells of a live host -/
abbrev lhL (G : Lg) (H : Ho) (f1 f3 : Nat) : List Value := liL H.c0 G.r1 H.c2 G.r3 G.gf G.n1 G.kf G.gb G.n2 G.kb G.mb G.gr f1 H.ff.length G.gq f3 H.qu.length H.lo H.st
/-- the bounds of a live host -/
structure lhB (G : Lg) (H : Ho) (f1 f3 : Nat) : Prop where
  e1 : H.c1 = (G.r1 : Int)
  e3 : H.c3 = (G.r3 : Int)
  m1 : G.n1 ≤ 1000
  m2 : G.n2 ≤ 8
  nk : G.n2 ≤ G.kb
  b1 : f1 < G.r1 ∧ G.r1 ≤ 1000 ∧ H.ff.length ≤ G.r1
  b3 : f3 < G.r3 ∧ G.r3 ≤ 1000 ∧ H.qu.length ≤ G.r3
  lo : 0 ≤ H.lo ∧ H.lo ≤ 100000
  s3 : ∀ j (h : j < H.ff.length), H.ff[j].l.length ≤ 1048576
  s4 : ∀ j (h : j < H.qu.length), H.qu[j].l.length ≤ 1048576
/-- the blocks of a live host are different -/
structure lhD (w0 : World) (G : Lg) : Prop where
  p : G.gf ≠ G.P ∧ G.gb ≠ G.P ∧ G.gr ≠ G.P ∧ G.gq ≠ G.P ∧ G.mb ≠ G.P
  m : G.gf ≠ G.mb ∧ G.gb ≠ G.mb ∧ G.gr ≠ G.mb ∧ G.gq ≠ G.mb
  g : G.gf < G.gb ∧ G.gb < G.gr ∧ G.gr < G.gq
  lo : w0.heap.size ≤ G.gf ∧ w0.heap.size ≤ G.P ∧ w0.heap.size ≤ G.mb
/-- a live host: its rows are its own, their bytes lie in w0 -/
structure lh (w0 : World) (G : Lg) (H : Ho) (f1 f3 : Nat) (hs : Nat → Hd) (nm : Nat) (D : DataW Unit) (W : World) : Prop where
  p : blk W G.P (lhL G H f1 f3) 134
  f : isR3s W (some ⟨G.gf, 0, none⟩) G.n1 G.kf H.fs
  x : dr8 w0 0 G.gb G.n2 H.bx hs 0 W
  r : ring5 w0 W G.gr G.r1 f1 H.ff
  rz : rowZ W G.gr (G.r1 * 5)
  q : ring8 w0 W G.gq G.r3 f3 H.qu
  qz : rowZ W G.gq (G.r3 * 8)
  m : W.ownsMap (H := Unit) Tryz.prog 3 (plainElem Tryz.prog 3) G.mb nm D
  b : Below w0.heap.size w0 W
  hi : G.gf < W.heap.size ∧ G.gr < W.heap.size ∧ G.gq < W.heap.size
  d : lhD w0 G
  bd : lhB G H f1 f3
theorem lh.below {w0 : World} {G : Lg} {H : Ho} {f1 f3 : Nat} {hs : Nat → Hd} {nm : Nat} {D : DataW Unit} {W W' : World} (h : lh w0 G H f1 f3 hs nm D W) (hb : Below W.heap.size W W') : lh w0 G H f1 f3 hs nm D W' :=
  ⟨h.p.below hb, h.f.below hb, h.x.below hb, h.r.keep (hb.block _ h.hi.2.1), h.rz.below hb h.hi.2.1, h.q.keep (hb.block _ h.hi.2.2), h.qz.below hb h.hi.2.2, h.m.kept (row := none) ⟨hb.os, hb.tape, hb.output, hb.size, fun k hk _ => hb.block k hk⟩ (by simp), h.b.trans (hb.mono h.b.size), ⟨Nat.lt_of_lt_of_le h.hi.1 hb.size, Nat.lt_of_lt_of_le h.hi.2.1 hb.size, Nat.lt_of_lt_of_le h.hi.2.2 hb.size⟩, h.d, h.bd⟩
/-- told of a live host -/
theorem lh.told {w0 : World} {G : Lg} {H : Ho} {f1 f3 : Nat} {hs : Nat → Hd} {nm : Nat} {D : DataW Unit} {W : World} (h : lh w0 G H f1 f3 hs nm D W) : Calls Tryz.prog 118 #[.pointer (some ⟨G.P, 0, none⟩)] W (toldQ W H) := by
  obtain ⟨c0, c1, c2, c3, fs, bx, ff, qu, lo, st⟩ := H
  have e1 := h.bd.e1
  have e3 := h.bd.e3
  simp only [] at e1 e3
  subst e1 e3
  have h2 := h.bd.m2
  exact told_any W G.P G.mb c0 c2 G.r1 G.r3 fs bx ff qu lo st G.gf G.n1 G.kf G.gb G.n2 G.kb G.gr f1 ff.length G.gq f3 qu.length h.p h.f (h.x.is h.bd.nk) (h.r.base h.b) (h.q.base h.b) rfl rfl h.bd.m1 (by omega) h.bd.b1 h.bd.b3 h.x.sm h.bd.s3 h.bd.s4
/-- another world that differs at the block of the boxes -/
theorem lh.box {w0 : World} {G : Lg} {H : Ho} {f1 f3 : Nat} {hs hs' : Nat → Hd} {nm : Nat} {D : DataW Unit} {W W' : World} {bx : List R8} (h : lh w0 G H f1 f3 hs nm D W) (hx : dr8 w0 0 G.gb G.n2 bx hs' 0 W') (he : ∀ q, q ≠ G.gb → W'.heap[q]? = W.heap[q]?) (hz : W'.heap.size = W.heap.size) : lh w0 G { H with bx := bx } f1 f3 hs' nm D W' := by
  have dp := h.d.p
  have dm := h.d.m
  have dg := h.d.g
  refine ⟨h.p.kept (he _ (by omega)), h.f.same (he _ (by omega)), hx, h.r.keep (he _ (by omega)), h.rz.up (he _ (by omega)), h.q.keep (he _ (by omega)), h.qz.up (he _ (by omega)), ?_, hx.bel, by rw [hz]; exact h.hi, h.d, ⟨h.bd.e1, h.bd.e3, h.bd.m1, h.bd.m2, h.bd.nk, h.bd.b1, h.bd.b3, h.bd.lo, h.bd.s3, h.bd.s4⟩⟩
  obtain ⟨es, clock, q1, q2⟩ := h.m
  exact ⟨es, clock, (he _ (by omega)).trans q1, q2⟩
/-- one box is written anew -/
theorem dr8.put {b0 W : World} {g n : Nat} {bx : List R8} {hs : Nat → Hd} (h : dr8 b0 0 g n bx hs 0 W) (i : Nat) (hi : i < bx.length) (b : R8) (hd : Hd) (hb : isBytes b0 hd.1 hd.2.1 hd.2.2 b.l) (hl : b.l.length ≤ 1048576) : dr8 b0 0 g n (bx.set i b) (fun j => if j = i then hd else hs j) 0 (setRow W g (i * 8) (x8 (b, hd))) := by
  have hln := h.len
  have hlo := h.lo
  refine ⟨by rw [List.length_set]; exact h.len, h.row.setRow _ _ _ _, fun j hj => ?_, fun j hj _ => ?_, fun j hj hk => absurd hk (Nat.not_lt_zero _), fun i j _ hj => absurd hj (Nat.not_lt_zero _), h.lo, ?_, ?_, fun j hj => ?_⟩
  · have hj' : j < bx.length := by simpa using hj
    by_cases e : j = i
    · subst e
      rw [List.getElem_set_self, if_pos rfl]
      intro t u hu
      have ht : t < (x8 (b, hd)).length := (List.getElem?_eq_some_iff.mp hu).1
      have ht8 : t < 8 := by simpa [x8] using ht
      rw [setRow_at g _ _ _ t ht ((h.row (j * 8 + t) (by omega)).1)]
      rw [List.getElem?_eq_getElem ht] at hu
      exact hu
    · rw [List.getElem_set_ne (fun x => e x.symm), if_neg e]
      intro t u hu
      have ht : t < 8 := by have := (List.getElem?_eq_some_iff.mp hu).1; simpa [x8] using this
      rw [setRow_other g _ _ _ _ (by simp [x8]; omega)]
      exact h.rng j hj' t u hu
  · have hj' : j < bx.length := by simpa using hj
    by_cases e : j = i
    · subst e
      rw [List.getElem_set_self, if_pos rfl]
      exact hb
    · rw [List.getElem_set_ne (fun x => e x.symm), if_neg e]
      exact h.old j hj' (Nat.zero_le _)
  · rw [← setCells_row, setCells_size]
    exact h.hi
  · rw [← setCells_row]
    exact setCells_below h.lo _ _ h.bel
  · have hj' : j < bx.length := by simpa using hj
    by_cases e : j = i
    · subst e
      rw [List.getElem_set_self]
      exact hl
    · rw [List.getElem_set_ne (fun x => e x.symm)]
      exact h.sm j hj'
/-- the state of one box is written -/
theorem dr8.setX {b0 W : World} {g n : Nat} {bx : List R8} {hs : Nat → Hd} (h : dr8 b0 0 g n bx hs 0 W) (i : Nat) (hi : i < bx.length) (v : Int) : dr8 b0 0 g n (bx.set i { bx[i] with x := v }) hs 0 (W.setCell ⟨g, i * 8, none⟩ (.int .i64 v)) := by
  have hln := h.len
  have el : ∀ j (hj : j < (bx.set i { bx[i] with x := v }).length) (hj' : j < bx.length), (bx.set i { bx[i] with x := v })[j].l = bx[j].l := by
    intro j hj hj'
    by_cases e : j = i
    · subst e
      rw [List.getElem_set_self]
    · rw [List.getElem_set_ne (fun x => e x.symm)]
  refine ⟨by rw [List.length_set]; exact h.len, h.row.setCell _ _, fun j hj => ?_, fun j hj _ => ?_, fun j hj hk => absurd hk (Nat.not_lt_zero _), fun i j _ hj => absurd hj (Nat.not_lt_zero _), h.lo, ?_, h.bel.setCell (by exact h.lo) _, fun j hj => ?_⟩
  · have hj' : j < bx.length := by simpa using hj
    have ot : ∀ t, j * 8 + t ≠ i * 8 → (W.setCell ⟨g, i * 8, none⟩ (.int .i64 v)).cell? ⟨g, j * 8 + t, none⟩ = W.cell? ⟨g, j * 8 + t, none⟩ := fun t ht => World.cell?_setCell_other _ _ _ _ (by intro e; simp at e <;> omega)
    intro t u hu
    have ht : t < 8 := by have := (List.getElem?_eq_some_iff.mp hu).1; simpa [x8] using this
    by_cases e : j = i
    · subst e
      rw [List.getElem_set_self] at hu
      by_cases et : t = 0
      · subst et
        have e0 : u = .int .i64 v := by simpa [x8] using hu.symm
        subst e0
        obtain ⟨⟨w0, hw0⟩, _⟩ := h.row (j * 8) (by omega)
        exact World.cell?_setCell_same _ _ _ hw0
      · rw [ot t (by omega)]
        refine h.rng j hj' t u ?_
        rw [← hu]
        match t, ht, et with
        | 1, _, _ | 2, _, _ | 3, _, _ | 4, _, _ | 5, _, _ | 6, _, _ | 7, _, _ => rfl
    · rw [List.getElem_set_ne (fun x => e x.symm)] at hu
      rw [ot t (by omega)]
      exact h.rng j hj' t u hu
  · have hj' : j < bx.length := by simpa using hj
    rw [el j hj hj']
    exact h.old j hj' (Nat.zero_le _)
  · exact Nat.lt_of_lt_of_le h.hi ((Below.refl 0 W).setCell (Nat.zero_le _) _).size
  · have hj' : j < bx.length := by simpa using hj
    rw [el j hj hj']
    exact h.sm j hj'
theorem lh.state {w0 : World} {G : Lg} {H : Ho} {f1 f3 : Nat} {hs : Nat → Hd} {nm : Nat} {D : DataW Unit} {W : World} (h : lh w0 G H f1 f3 hs nm D W) (i : Nat) (hi : i < H.bx.length) (v : Int) : lh w0 G (stHo H i v) f1 f3 hs nm D (W.setCell ⟨G.gb, i * 8, none⟩ (.int .i64 v)) := by
  unfold stHo
  rw [dif_pos hi]
  exact h.box (h.x.setX i hi v) (fun q hq => heap_setCell_other W ⟨G.gb, i * 8, none⟩ q _ hq) (by simp)
theorem lh.free {w0 : World} {G : Lg} {H : Ho} {f1 f3 : Nat} {hs : Nat → Hd} {nm : Nat} {D : DataW Unit} {W : World} (h : lh w0 G H f1 f3 hs nm D W) (i : Nat) (hi : i < H.bx.length) : lh w0 G (freeHo H i) f1 f3 (fun j => if j = i then (none, 0, 0) else hs j) nm D (W.setCells G.gb (i * 8) Z8) := by
  have e : W.setCells G.gb (i * 8) Z8 = setRow W G.gb (i * 8) (x8 (z8, (none, 0, 0))) := setCells_row ..
  have hx := h.x.put i hi z8 (none, 0, 0) (none8 _) (Nat.zero_le _)
  rw [← e] at hx
  exact h.box hx (fun q hq => setCells_other _ q hq _ _ _) (setCells_size ..)
/-- another world that differs at the block of the tags -/
theorem lh.tags {w0 : World} {G : Lg} {H : Ho} {f1 f3 : Nat} {hs : Nat → Hd} {nm nm' : Nat} {D D' : DataW Unit} {W W' : World} (h : lh w0 G H f1 f3 hs nm D W) (hg : W.grownBy W' (some G.mb)) (hm : W'.ownsMap (H := Unit) Tryz.prog 3 (plainElem Tryz.prog 3) G.mb nm' D') : lh w0 G H f1 f3 hs nm' D' W' := by
  have dp := h.d.p
  have dm := h.d.m
  have dg := h.d.g
  have he : ∀ q, q ≠ G.mb → q < W.heap.size → W'.heap[q]? = W.heap[q]? := fun q hq hl => hg.block q hl (by simpa using hq)
  have hb' : Below w0.heap.size w0 W' := h.b.grown hg h.b.size (fun k hk => by cases hk; exact h.d.lo.2.2)
  have hz := hg.size
  exact ⟨h.p.kept (he _ (by omega) h.p.lt), h.f.same (he _ (by omega) h.hi.1), h.x.at0 (he _ (by omega) h.x.hi) hb', h.r.keep (he _ (by omega) h.hi.2.1), h.rz.up (he _ (by omega) h.hi.2.1), h.q.keep (he _ (by omega) h.hi.2.2), h.qz.up (he _ (by omega) h.hi.2.2), hm, hb', ⟨by have := h.hi; omega, by have := h.hi; omega, by have := h.hi; omega⟩, h.d, h.bd⟩
/-- behind a post -/
theorem quP_take {r3 : Nat} {qu : List R8} {e : R8} {t : Nat} (ht : t = min (r3 - qu.length) 1) (hl : qu.length ≤ r3) : qu ++ [e].take t = quP (r3 : Int) qu e := by
  unfold quP
  by_cases h : (qu.length : Int) < (r3 : Int)
  · have e1 : t = 1 := by omega
    rw [if_pos h, e1]
    rfl
  · have e1 : t = 0 := by omega
    rw [if_neg h, e1]
    simp
theorem loP_take {r3 : Nat} {qu : List R8} {lo : Int} {t : Nat} (ht : t = min (r3 - qu.length) 1) (hl : qu.length ≤ r3) (h0 : 0 ≤ lo ∧ lo ≤ 100000) : min (lo + (1 - (t : Int))) 100000 = loP (r3 : Int) qu lo := by
  unfold loP
  by_cases h : (qu.length : Int) < (r3 : Int)
  · have e1 : t = 1 := by omega
    rw [if_pos h, e1]
    omega
  · have e1 : t = 0 := by omega
    rw [if_neg h, e1]
    split <;> omega
theorem quP_len {r3 : Nat} {qu : List R8} {e : R8} {t : Nat} (ht : t = min (r3 - qu.length) 1) (hl : qu.length ≤ r3) : (quP (r3 : Int) qu e).length = qu.length + t := by
  rw [← quP_take ht hl]
  by_cases h : t = 0
  · subst h; simp
  · have e1 : t = 1 := by omega
    subst e1; simp
theorem quP_small {c : Int} {qu : List R8} {e : R8} (h : ∀ j (h : j < qu.length), qu[j].l.length ≤ 1048576) (he : e.l.length ≤ 1048576) : ∀ j (h : j < (quP c qu e).length), (quP c qu e)[j].l.length ≤ 1048576 := by
  unfold quP
  split
  · intro j hj
    by_cases hj' : j < qu.length
    · rw [List.getElem_append_left hj']
      exact h j hj'
    · rw [List.getElem_append_right (by omega)]
      simpa using he
  · exact h
theorem lh.post {w0 : World} {G : Lg} {H : Ho} {f1 f3 : Nat} {hs : Nat → Hd} {nm : Nat} {D : DataW Unit} {W : World} (h : lh w0 G H f1 f3 hs nm D W) (ev : R8) (ao : Option Addr) (m c : Nat) (hby : isBytes w0 ao m c ev.l) (hl : ev.l.length ≤ 1048576) :
    Calls Tryz.prog 120 #[.pointer (some ⟨G.P, 0, none⟩), .agg #[.int .i64 ev.x, .int .i64 ev.y, .int .i64 ev.z, .bool ev.e, .int .u32 (ev.i : Int), .bool ev.r, .int .i64 ev.d, .slice ao m c]] W fun o w' => o = .returned (.tuple #[]) ∧ lh w0 G (postHo H ev) f1 f3 hs nm D w' ∧ (∀ b, b ≠ G.P → b ≠ G.gq → b < W.heap.size → w'.heap[b]? = W.heap[b]?) ∧ W.heap.size ≤ w'.heap.size := by
  have dp := h.d.p
  have dm := h.d.m
  have dg := h.d.g
  have dl := h.d.lo
  have hb3 := h.bd.b3
  refine (post_any H.c0 H.c2 G.r1 G.gf G.n1 G.kf G.gb G.n2 G.kb G.mb G.gr f1 H.ff.length H.lo H.st w0 W G.P G.gq G.r3 f3 H.qu ev.x ev.y ev.z ev.e ev.i ev.r ev.d ao m c ev.l h.p (by omega) h.qz h.hi.2.2 h.q hb3.1 hb3.2.2 hb3.2.1 hby h.bd.lo.1 h.bd.lo.2 _ rfl).mono ?_
  rintro o w' ⟨rfl, hq⟩
  have hb' : Below w0.heap.size w0 w' := by
    refine ⟨hq.o.1.trans h.b.os, hq.o.2.1.trans h.b.tape, hq.o.2.2.trans h.b.output, Nat.le_trans h.b.size hq.s, fun b hb => ?_⟩
    rw [hq.k b (by omega) (by omega) (Nat.lt_of_lt_of_le hb h.b.size)]
    exact h.b.block b hb
  have he : ∀ q, q ≠ G.P → q ≠ G.gq → q < W.heap.size → w'.heap[q]? = W.heap[q]? := hq.k
  have hz := hq.s
  have hi := h.hi
  refine ⟨rfl, ⟨?_, h.f.same (he _ (by omega) (by omega) hi.1), h.x.at0 (he _ (by omega) (by omega) h.x.hi) hb', h.r.keep (he _ (by omega) (by omega) hi.2.1), h.rz.up (he _ (by omega) (by omega) hi.2.1), ?_, hq.z, ?_, hb', ⟨by omega, by omega, by omega⟩, h.d, ⟨h.bd.e1, h.bd.e3, h.bd.m1, h.bd.m2, h.bd.nk, h.bd.b1, ⟨hb3.1, hb3.2.1, ?_⟩, ?_, h.bd.s3, ?_⟩⟩, he, hz⟩
  · have := hq.p
    rw [loP_take rfl hb3.2.2 h.bd.lo, ← h.bd.e3] at this
    have e2 : H.qu.length + min (G.r3 - H.qu.length) 1 = (postHo H ev).qu.length := by
      show _ = (quP H.c3 H.qu ev).length
      rw [h.bd.e3, quP_len rfl hb3.2.2]
    rw [e2] at this
    exact this
  · show ring8 w0 w' G.gq G.r3 f3 (quP H.c3 H.qu ev)
    rw [h.bd.e3, ← quP_take rfl hb3.2.2]
    exact hq.r
  · obtain ⟨es, clock, q1, q2⟩ := h.m
    exact ⟨es, clock, (he _ (by omega) (by omega) h.m.lt).trans q1, q2⟩
  · show (quP H.c3 H.qu ev).length ≤ _
    rw [h.bd.e3, quP_len rfl hb3.2.2]
    omega
  · show 0 ≤ loP H.c3 H.qu H.lo ∧ loP H.c3 H.qu H.lo ≤ 100000
    have := h.bd.lo
    unfold loP
    split
    · exact this
    · split <;> omega
  · exact quP_small h.bd.s4 hl
end Go.Proofs.YtaamahohdnbpiaaGreat
namespace Go.Proofs.YtaamahohdnbpiaaGreat
open Go.RowKit
set_option linter.unusedVariables false
set_option maxHeartbeats 1000000 in
/-- openHost: a live host -/
theorem open_lh (w : World) (H : Ho) (s : Sl) (h : isHo w H s) (hs : slSome s) (hok : okHo H) (hm : H.le 1048576) :
    Calls Tryz.prog 61 #[.agg (hoL H s).toArray] w fun o w' => ∃ (G : Lg) (hd : Nat → Hd), o = .returned (.pointer (some ⟨G.P, 0, none⟩)) ∧ lh w G H 0 0 hd G.n2 (tagsD Unit H.bx G.n2) w' ∧ G.n2 = H.bx.length := by
  obtain ⟨c0, c1, c2, c3, fs, bx, ff, qu, lo, st⟩ := H
  obtain ⟨a1, n1, k1, a2, n2, k2, a3, n3, k3, a4, n4, k4⟩ := s
  obtain ⟨⟨g1, e1⟩, ⟨g2, e2⟩⟩ := hs
  simp only [] at e1 e2
  subst e1 e2
  have hcf := of_decide_eq_true hok.cf
  have hnf := hok.nf
  have hnq := hok.nq
  have l1 := h.fs.len
  have l2 := h.bx.len
  have l3 := h.ff.len
  have l4 := h.qu.len
  have hf16 : fs.length ≤ 16 := by
    have := hok.fs
    unfold okFs at this
    simp at this
    exact this.1
  have hm2 := hm.bd
  have hm3 := hm.fd
  have hm4 := hm.qd
  have hm1 := hm.fs
  simp only [] at hcf hnf hnq l1 l2 l3 l4 hm1 hm2 hm3 hm4
  have hn2 := hok.n2
  simp only [] at hn2
  obtain ⟨r1, hr1⟩ : ∃ r1 : Nat, c1 = (r1 : Int) := ⟨c1.toNat, by omega⟩
  obtain ⟨r3, hr3⟩ : ∃ r3 : Nat, c3 = (r3 : Int) := ⟨c3.toNat, by omega⟩
  subst hr1 hr3
  subst l3 l4
  refine (openHost_any Unit w c0 c2 r1 r3 fs bx ff qu lo st g1 n1 k1 g2 0 n2 k2 a3 ff.length k3 a4 qu.length k4 h.fs h.bx h.ff h.qu (by omega) (by omega) (by omega) (by omega) hok.bx hm2).mono ?_
  rintro o w' ⟨P, mb, gf, kf, gb, kb, hs', gr, gq, rfl, hl⟩
  have hx := hl.x.k w' rfl hl.b
  have hr := hl.r.k w' rfl hl.b
  have hq := hl.q.k w' rfl hl.b
  exact ⟨⟨P, mb, r1, r3, gf, n1, kf, gb, n2, kb, gr, gq⟩, hs', rfl, ⟨hl.p, hl.f.k w' rfl hl.b, hx.1, hr.1, hr.2, hq.1, hq.2, hl.m, hl.b, ⟨hl.f.lt, hl.r.lt, hl.q.lt⟩, ⟨⟨hl.f.n1, hl.x.n1, hl.r.n1, hl.q.n1, hl.n1⟩, ⟨hl.f.n2, hl.x.n2, hl.r.n2, hl.q.n2⟩, hl.d, ⟨hl.lo.1, hl.lo.2, hl.n2⟩⟩, ⟨rfl, rfl, by show n1 ≤ 1000; omega, by show n2 ≤ 8; omega, hx.2, ⟨by show 0 < r1; omega, by show r1 ≤ 1000; omega, by show ff.length ≤ r1; omega⟩, ⟨by show 0 < r3; omega, by show r3 ≤ 1000; omega, by show qu.length ≤ r3; omega⟩, ⟨hok.l0, hok.l1⟩, hm3, hm4⟩⟩, l2⟩
/-- what the map of tags says -/
theorem tags_at (bx : List R8) : ∀ k : Nat, k ≤ bx.length → Maps.IsMap (tagsD Unit bx k) ∧ ∀ t : Int, (∃ (j : Nat) (hj : j < bx.length), j < k ∧ (bx[j].x ≠ 0 ∧ bx[j].y = t) ∧ Maps.has (tagsD Unit bx k) (.int .i64 t) = true ∧ ∀ z, (tagsD Unit bx k).atKey (.int .i64 t) z = .lit (.int .i64 (j : Int))) ∨ ((∀ (j : Nat) (hj : j < bx.length), j < k → ¬ (bx[j].x ≠ 0 ∧ bx[j].y = t)) ∧ Maps.has (tagsD Unit bx k) (.int .i64 t) = false)
  | 0, _ => ⟨⟨[], rfl⟩, fun t => Or.inr ⟨fun j _ h => absurd h (Nat.not_lt_zero _), rfl⟩⟩
  | k + 1, hk => by
    obtain ⟨hm, ih⟩ := tags_at bx k (by omega)
    have hkl : k < bx.length := by omega
    by_cases hx : bx[k].x = 0
    · rw [tagsD_skip hkl hx]
      refine ⟨hm, fun t => ?_⟩
      rcases ih t with ⟨j, hj, h1, h2⟩ | ⟨h1, h2⟩
      · exact Or.inl ⟨j, hj, by omega, h2⟩
      · refine Or.inr ⟨fun j hj hjk => ?_, h2⟩
        by_cases e : j = k
        · subst e
          exact fun h => h.1 hx
        · exact h1 j hj (by omega)
    · rw [tagsD_put hkl hx]
      refine ⟨hm.put _ _, fun t => ?_⟩
      by_cases ht : t = bx[k].y
      · subst ht
        exact Or.inl ⟨k, hkl, by omega, ⟨hx, rfl⟩, Maps.has_put_same hm (show WideAt.IsKeyLit (.int .i64 bx[k].y) from trivial) _, fun z => Maps.atKey_put_same hm (show WideAt.IsKeyLit (.int .i64 bx[k].y) from trivial) _ _⟩
      · have hne : Lit.int .i64 t ≠ Lit.int .i64 bx[k].y := by
          intro e
          injection e with _ e
          exact ht e
        rcases ih t with ⟨j, hj, h1, h2, h3, h4⟩ | ⟨h1, h2⟩
        · exact Or.inl ⟨j, hj, by omega, h2, by rw [Maps.has_put_other hne]; exact h3, fun z => by rw [Maps.atKey_put_other hne]; exact h4 z⟩
        · refine Or.inr ⟨fun j hj hjk => ?_, by rw [Maps.has_put_other hne]; exact h2⟩
          by_cases e : j = k
          · subst e
            exact fun h => ht h.2.symm
          · exact h1 j hj (by omega)
theorem tags_ix {bx : List R8} (hfar : ∀ i j (hi : i < bx.length) (hj : j < bx.length), i < j → far bx[i] bx[j]) (t : Int) : (tagIx bx t < bx.length ∧ Maps.has (tagsD Unit bx bx.length) (.int .i64 t) = true ∧ ∀ z, (tagsD Unit bx bx.length).atKey (.int .i64 t) z = .lit (.int .i64 (tagIx bx t : Int))) ∨ (¬ tagIx bx t < bx.length ∧ Maps.has (tagsD Unit bx bx.length) (.int .i64 t) = false) := by
  rcases (tags_at bx bx.length (Nat.le_refl _)).2 t with ⟨j, hj, _, h2, h3, h4⟩ | ⟨h1, h2⟩
  · left
    have e : tagIx bx t = j := by
      unfold tagIx
      rw [List.findIdx_eq hj]
      refine ⟨by simp [tagBb, h2.1, h2.2], fun i hi => ?_⟩
      have := hfar i j (by omega) hj hi
      unfold far at this
      simp only [tagBb, Bool.and_eq_false_iff, Bool.not_eq_false', beq_iff_eq, beq_eq_false_iff_ne]
      by_cases hx : bx[i].x = 0
      · exact Or.inl hx
      · exact Or.inr fun e => (this hx h2.1).1 (e.trans h2.2.symm)
    rw [e]
    exact ⟨hj, h3, h4⟩
  · right
    refine ⟨?_, h2⟩
    have : tagIx bx t = bx.length := List.findIdx_eq_length.2 fun b hb => by
      obtain ⟨j, hj, rfl⟩ := List.getElem_of_mem hb
      have := h1 j hj hj
      simp only [tagBb, Bool.and_eq_false_iff, Bool.not_eq_false', beq_iff_eq, beq_eq_false_iff_ne]
      by_cases hx : bx[j].x = 0
      · exact Or.inl hx
      · exact Or.inr fun e => this ⟨hx, e⟩
    omega
end Go.Proofs.YtaamahohdnbpiaaGreat
namespace Go.Proofs.YtaamahohdnbpiaaGreat
open Go.RowKit
set_option linter.unusedVariables false
/-- a live host's blocks lie below B -/
def lhU (G : Lg) (B : Nat) : Prop := G.P < B ∧ G.mb < B ∧ G.gf < B ∧ G.gb < B ∧ G.gr < B ∧ G.gq < B
theorem lh.lts {w0 : World} {G : Lg} {H : Ho} {f1 f3 : Nat} {hs : Nat → Hd} {nm : Nat} {D : DataW Unit} {W : World} (h : lh w0 G H f1 f3 hs nm D W) : lhU G W.heap.size := ⟨h.p.lt, h.m.lt, h.hi.1, h.x.hi, h.hi.2.1, h.hi.2.2⟩
/-- a store into a block of someone else's -/
theorem lh.put {w0 : World} {G : Lg} {H : Ho} {f1 f3 : Nat} {hs : Nat → Hd} {nm : Nat} {D : DataW Unit} {W : World} (h : lh w0 G H f1 f3 hs nm D W) {B x : Nat} (hB : lhU G B) (hx : B ≤ x) (o : Nat) (l : List Value) : lh w0 G H f1 f3 hs nm D (W.setCells x o l) := by
  obtain ⟨b1, b2, b3, b4, b5, b6⟩ := hB
  have hlo := h.d.lo
  have he : ∀ q, q < B → (W.setCells x o l).heap[q]? = W.heap[q]? := fun q hq => setCells_other _ q (by omega) _ _ _
  have hb : Below w0.heap.size w0 (W.setCells x o l) := setCells_below (by omega) o l h.b
  have hz : (W.setCells x o l).heap.size = W.heap.size := setCells_size ..
  refine ⟨h.p.kept (he _ b1), h.f.same (he _ b3), h.x.at0 (he _ b4) hb, h.r.keep (he _ b5), h.rz.up (he _ b5), h.q.keep (he _ b6), h.qz.up (he _ b6), ?_, hb, by rw [hz]; exact h.hi, h.d, h.bd⟩
  obtain ⟨es, clock, q1, q2⟩ := h.m
  exact ⟨es, clock, (he _ b2).trans q1, q2⟩
theorem key3 {a : Int} (hw : (Lit.int .i64 a).wf = true) : keyOf Tryz.prog 3 (.int .i64 a) = some (.int .i64 a) := Maps.keyOf_int_mk Tryz.underlying3 hw
theorem keyed3 : Maps.Keyed Tryz.prog 3 := Maps.int_keyed Tryz.underlying3
set_option maxHeartbeats 4000000 in
set_option maxRecDepth 20000 in
/-- impl's vacate -/
theorem vacate_any {w0 : World} {G : Lg} {H : Ho} {f1 f3 : Nat} {hs : Nat → Hd} {nm : Nat} {D : DataW Unit} {W : World} (h : lh w0 G H f1 f3 hs nm D W) (k : Nat) (hk : k < H.bx.length) (b : R8) (eb : H.bx[k] = b) (ao : Option Addr) (m c : Nat) (eh : hs k = (ao, m, c)) (hw : (Lit.int .i64 b.y).wf = true) :
    Calls Tryz.prog 132 #[.pointer (some ⟨G.P, 0, none⟩), .int .i64 (k : Int)] W fun o w' => o = .returned (.agg #[.int .i64 b.x, .int .i64 b.y, .int .i64 b.z, .bool b.e, .int .u32 (b.i : Int), .bool b.r, .int .i64 b.d, .slice ao m c]) ∧ lh w0 G (freeHo H k) f1 f3 (fun j => if j = k then (none, 0, 0) else hs j) nm (D.del (.int .i64 b.y)) w' ∧ (∀ q, q ≠ G.gb → q ≠ G.mb → q < W.heap.size → w'.heap[q]? = W.heap[q]?) ∧ W.heap.size ≤ w'.heap.size := by
  have y5 := h.p.cell 5 _ rfl
  have y6 := h.p.cell 6 _ rfl
  have hr := h.x.rng k hk
  rw [eb, eh] at hr
  have hln := h.x.len
  have hkn : k < G.n2 := by omega
  have hcp := h.bd.nk
  have hm2 := h.bd.m2
  have HU : Hid (lhU G W.heap.size) := h.lts
  have HL : Hid (lh w0 G H f1 f3 hs nm D W) := h
  have HKK : Hid (k < H.bx.length) := hk
  have HW : Hid (keyOf Tryz.prog 3 (.int .i64 b.y) = some (.int .i64 b.y)) := key3 hw
  clear h hk eb eh hw hln
  obtain ⟨bX, bY, bZ, bE, bI, bR, bD, bL⟩ := b
  simp only [] at HW
  have HRG : Hid (W.rangeAt G.gb (k * 8) [.int .i64 bX, .int .i64 bY, .int .i64 bZ, .bool bE, .int .u32 (bI : Int), .bool bR, .int .i64 bD, .slice ao m c]) := hr
  clear hr
  have HBA : Hid (Below W.heap.size W (W.alloc (.cells [.int .i64 0, .int .i64 0, .int .i64 0, .bool false, .int .u32 0, .bool false, .int .i64 0, .slice none 0 0].toArray 97))) := (Below.refl _ _).alloc (Nat.le_refl _) _
  have HLA : Hid (lh w0 G H f1 f3 hs nm D (W.alloc (.cells [.int .i64 0, .int .i64 0, .int .i64 0, .bool false, .int .u32 0, .bool false, .int .i64 0, .slice none 0 0].toArray 97))) := HL.out.below HBA.out
  have HRA : Hid (blk (W.alloc (.cells [.int .i64 0, .int .i64 0, .int .i64 0, .bool false, .int .u32 0, .bool false, .int .i64 0, .slice none 0 0].toArray 97)) W.heap.size [.int .i64 0, .int .i64 0, .int .i64 0, .bool false, .int .u32 0, .bool false, .int .i64 0, .slice none 0 0] 97) := blk.new W _ 97
  have y5 : (W.alloc (.cells [.int .i64 0, .int .i64 0, .int .i64 0, .bool false, .int .u32 0, .bool false, .int .i64 0, .slice none 0 0].toArray 97)).cell? ⟨G.P, 5, none⟩ = some (.slice (some ⟨G.gb, 0, none⟩) G.n2 G.kb) := HLA.out.p.cell 5 _ rfl
  have HRG : Hid ((W.alloc (.cells [.int .i64 0, .int .i64 0, .int .i64 0, .bool false, .int .u32 0, .bool false, .int .i64 0, .slice none 0 0].toArray 97)).rangeAt G.gb (k * 8) [.int .i64 bX, .int .i64 bY, .int .i64 bZ, .bool bE, .int .u32 (bI : Int), .bool bR, .int .i64 bD, .slice ao m c]) := range_below HRG.out HBA.out HU.out.2.2.2.1
  have HBB : Hid (Below (W.alloc (.cells [.int .i64 0, .int .i64 0, .int .i64 0, .bool false, .int .u32 0, .bool false, .int .i64 0, .slice none 0 0].toArray 97)).heap.size (W.alloc (.cells [.int .i64 0, .int .i64 0, .int .i64 0, .bool false, .int .u32 0, .bool false, .int .i64 0, .slice none 0 0].toArray 97)) ((W.alloc (.cells [.int .i64 0, .int .i64 0, .int .i64 0, .bool false, .int .u32 0, .bool false, .int .i64 0, .slice none 0 0].toArray 97)).alloc (.cells [.int .i64 bX, .int .i64 bY, .int .i64 bZ, .bool bE, .int .u32 (bI : Int), .bool bR, .int .i64 bD, .slice ao m c].toArray 97))) := (Below.refl _ _).alloc (Nat.le_refl _) _
  have HRB : Hid (blk ((W.alloc (.cells [.int .i64 0, .int .i64 0, .int .i64 0, .bool false, .int .u32 0, .bool false, .int .i64 0, .slice none 0 0].toArray 97)).alloc (.cells [.int .i64 bX, .int .i64 bY, .int .i64 bZ, .bool bE, .int .u32 (bI : Int), .bool bR, .int .i64 bD, .slice ao m c].toArray 97)) (W.heap.size + 1) [.int .i64 bX, .int .i64 bY, .int .i64 bZ, .bool bE, .int .u32 (bI : Int), .bool bR, .int .i64 bD, .slice ao m c] 97) := by
    have := blk.new (W.alloc (.cells [.int .i64 0, .int .i64 0, .int .i64 0, .bool false, .int .u32 0, .bool false, .int .i64 0, .slice none 0 0].toArray 97)) [.int .i64 bX, .int .i64 bY, .int .i64 bZ, .bool bE, .int .u32 (bI : Int), .bool bR, .int .i64 bD, .slice ao m c] 97
    have e : (W.alloc (.cells [.int .i64 0, .int .i64 0, .int .i64 0, .bool false, .int .u32 0, .bool false, .int .i64 0, .slice none 0 0].toArray 97)).heap.size = W.heap.size + 1 := by simp
    rw [e] at this
    exact this
  have HR2 : Hid (blk ((W.alloc (.cells [.int .i64 0, .int .i64 0, .int .i64 0, .bool false, .int .u32 0, .bool false, .int .i64 0, .slice none 0 0].toArray 97)).alloc (.cells [.int .i64 bX, .int .i64 bY, .int .i64 bZ, .bool bE, .int .u32 (bI : Int), .bool bR, .int .i64 bD, .slice ao m c].toArray 97)) W.heap.size [.int .i64 0, .int .i64 0, .int .i64 0, .bool false, .int .u32 0, .bool false, .int .i64 0, .slice none 0 0] 97) := HRA.out.below HBB.out
  have HL2 : Hid (lh w0 G H f1 f3 hs nm D ((W.alloc (.cells [.int .i64 0, .int .i64 0, .int .i64 0, .bool false, .int .u32 0, .bool false, .int .i64 0, .slice none 0 0].toArray 97)).alloc (.cells [.int .i64 bX, .int .i64 bY, .int .i64 bZ, .bool bE, .int .u32 (bI : Int), .bool bR, .int .i64 bD, .slice ao m c].toArray 97))) := HLA.out.below HBB.out
  have HB2 : Hid (Below W.heap.size W ((W.alloc (.cells [.int .i64 0, .int .i64 0, .int .i64 0, .bool false, .int .u32 0, .bool false, .int .i64 0, .slice none 0 0].toArray 97)).alloc (.cells [.int .i64 bX, .int .i64 bY, .int .i64 bZ, .bool bE, .int .u32 (bI : Int), .bool bR, .int .i64 bD, .slice ao m c].toArray 97))) := HBA.out.trans (HBB.out.mono HBA.out.size)
  clear y6
  go_enter Tryz.func132, Tryz.ntmps132
  go_wp2_with (first
    | (refine wpList_load_mid (P := Tryz.prog) rfl 97 _ rfl G.gb (k * 8) rfl [.int .i64 bX, .int .i64 bY, .int .i64 bZ, .bool bE, .int .u32 (bI : Int), .bool bR, .int .i64 bD, .slice ao m c] _ HRG.out Tryz.underlying97 rfl sz95 ?_))
  clear HRG HBB HLA HRA HBA
  clear y5
  refine wp_region_still_tail 6 (by kernel_rfl) (by kernel_rfl) ?_
  change wpStill Tryz.prog _ (World.drew ((W.alloc (.cells [.int .i64 0, .int .i64 0, .int .i64 0, .bool false, .int .u32 0, .bool false, .int .i64 0, .slice none 0 0].toArray 97)).alloc (.cells [.int .i64 bX, .int .i64 bY, .int .i64 bZ, .bool bE, .int .u32 (bI : Int), .bool bR, .int .i64 bD, .slice ao m c].toArray 97))) (fun a' => wpList Tryz.prog _ _ _ a' (World.drew ((W.alloc (.cells [.int .i64 0, .int .i64 0, .int .i64 0, .bool false, .int .u32 0, .bool false, .int .i64 0, .slice none 0 0].toArray 97)).alloc (.cells [.int .i64 bX, .int .i64 bY, .int .i64 bZ, .bool bE, .int .u32 (bI : Int), .bool bR, .int .i64 bD, .slice ao m c].toArray 97)))) _ _
  have HB2 : Hid (Below W.heap.size W (World.drew ((W.alloc (.cells [.int .i64 0, .int .i64 0, .int .i64 0, .bool false, .int .u32 0, .bool false, .int .i64 0, .slice none 0 0].toArray 97)).alloc (.cells [.int .i64 bX, .int .i64 bY, .int .i64 bZ, .bool bE, .int .u32 (bI : Int), .bool bR, .int .i64 bD, .slice ao m c].toArray 97)))) := HB2.out.drew
  have HR2 : Hid (blk (World.drew ((W.alloc (.cells [.int .i64 0, .int .i64 0, .int .i64 0, .bool false, .int .u32 0, .bool false, .int .i64 0, .slice none 0 0].toArray 97)).alloc (.cells [.int .i64 bX, .int .i64 bY, .int .i64 bZ, .bool bE, .int .u32 (bI : Int), .bool bR, .int .i64 bD, .slice ao m c].toArray 97))) W.heap.size [.int .i64 0, .int .i64 0, .int .i64 0, .bool false, .int .u32 0, .bool false, .int .i64 0, .slice none 0 0] 97) := HR2.out.below (Below.refl _ _).drew
  have HRB : Hid (blk (World.drew ((W.alloc (.cells [.int .i64 0, .int .i64 0, .int .i64 0, .bool false, .int .u32 0, .bool false, .int .i64 0, .slice none 0 0].toArray 97)).alloc (.cells [.int .i64 bX, .int .i64 bY, .int .i64 bZ, .bool bE, .int .u32 (bI : Int), .bool bR, .int .i64 bD, .slice ao m c].toArray 97))) (W.heap.size + 1) [.int .i64 bX, .int .i64 bY, .int .i64 bZ, .bool bE, .int .u32 (bI : Int), .bool bR, .int .i64 bD, .slice ao m c] 97) := HRB.out.below (Below.refl _ _).drew
  have HL2 : Hid (lh w0 G H f1 f3 hs nm D (World.drew ((W.alloc (.cells [.int .i64 0, .int .i64 0, .int .i64 0, .bool false, .int .u32 0, .bool false, .int .i64 0, .slice none 0 0].toArray 97)).alloc (.cells [.int .i64 bX, .int .i64 bY, .int .i64 bZ, .bool bE, .int .u32 (bI : Int), .bool bR, .int .i64 bD, .slice ao m c].toArray 97)))) := HL2.out.below (Below.refl _ _).drew
  generalize World.drew ((W.alloc (.cells [.int .i64 0, .int .i64 0, .int .i64 0, .bool false, .int .u32 0, .bool false, .int .i64 0, .slice none 0 0].toArray 97)).alloc (.cells [.int .i64 bX, .int .i64 bY, .int .i64 bZ, .bool bE, .int .u32 (bI : Int), .bool bR, .int .i64 bD, .slice ao m c].toArray 97)) = w2 at *
  have y6 := HL2.out.p.cell 6 _ rfl
  have y1 := HRB.out.cell 1 _ rfl
  simp only [List.take_succ_cons, List.take_zero, List.drop_succ_cons, List.drop_zero]
  repeat still_step
  refine wpStill_nil ?_
  refine wpList_delete_own _ rfl _ _ 128 3 rfl 3 keyed3 Tryz.underlying128 _ G.mb nm D rfl HL2.out.m _ _ rfl HW.out ?_
  intro w3 hm3 ht3
  have hg3 := ht3.grown
  have HL3 : Hid (lh w0 G H f1 f3 hs nm (D.del (.int .i64 bY)) w3) := HL2.out.tags hg3 hm3
  have HO3 : Hid (∀ q, q ≠ G.mb → q < W.heap.size → w3.heap[q]? = W.heap[q]?) := fun q h1 h2 => (hg3.block q (Nat.lt_of_lt_of_le h2 HB2.out.size) (by simpa using h1)).trans (HB2.out.block q h2)
  have HR3 : Hid (blk w3 W.heap.size [.int .i64 0, .int .i64 0, .int .i64 0, .bool false, .int .u32 0, .bool false, .int .i64 0, .slice none 0 0] 97) := HR2.out.kept (hg3.block _ HR2.out.lt (by have := HU.out.2.1; simp; omega))
  have HB3 : Hid (blk w3 (W.heap.size + 1) [.int .i64 bX, .int .i64 bY, .int .i64 bZ, .bool bE, .int .u32 (bI : Int), .bool bR, .int .i64 bD, .slice ao m c] 97) := HRB.out.kept (hg3.block _ HRB.out.lt (by have := HU.out.2.1; simp; omega))
  have HZ3 : Hid (W.heap.size ≤ w3.heap.size) := Nat.le_trans HB2.out.size hg3.size
  have y5 := HL3.out.p.cell 5 _ rfl
  have HT3 : Hid (w3.there G.gb (k * 8) 8) := fun j hj => by
    obtain ⟨⟨v, hv⟩, hf⟩ := HL3.out.x.row (k * 8 + j) (by omega)
    exact ⟨by rw [hv]; rfl, hf⟩
  clear hm3 ht3 hg3 HB2 HR2 HRB HL2 y6 y1 HW
  have HO4 : Hid (∀ w4, World.setCells w3 G.gb (k * 8) [.int .i64 0, .int .i64 0, .int .i64 0, .bool false, .int .u32 0, .bool false, .int .i64 0, .slice none 0 0] = w4 → lh w0 G (freeHo H k) f1 f3 (fun j => if j = k then (none, 0, 0) else hs j) nm (D.del (.int .i64 bY)) w4 ∧ blk w4 W.heap.size [.int .i64 0, .int .i64 0, .int .i64 0, .bool false, .int .u32 0, .bool false, .int .i64 0, .slice none 0 0] 97 ∧ blk w4 (W.heap.size + 1) [.int .i64 bX, .int .i64 bY, .int .i64 bZ, .bool bE, .int .u32 (bI : Int), .bool bR, .int .i64 bD, .slice ao m c] 97 ∧ (∀ q, q ≠ G.gb → w4.heap[q]? = w3.heap[q]?) ∧ w4.heap.size = w3.heap.size) := fun w4 e4 => by
    have oth : ∀ q, q ≠ G.gb → w4.heap[q]? = w3.heap[q]? := fun q hq => by rw [← e4]; exact setCells_other _ q hq _ _ _
    have hu := HU.out.2.2.2.1
    refine ⟨by rw [← e4]; exact HL3.out.free k HKK.out, HR3.out.kept (oth _ (by omega)), HB3.out.kept (oth _ (by omega)), oth, by rw [← e4]; exact setCells_size ..⟩
  go_wp2_with (first
    | (refine wpList_store_mid (P := Tryz.prog) rfl 97 _ _ rfl G.gb (k * 8) [.int .i64 0, .int .i64 0, .int .i64 0, .bool false, .int .u32 0, .bool false, .int .i64 0, .slice none 0 0].toArray rfl rfl HT3.out sz95 (one8 _ _ _ _ _ _ _ _ _ _) ?_; generalize hW4 : World.setCells w3 G.gb (k * 8) _ = w4; have HW4 : Hid (lh w0 G (freeHo H k) f1 f3 (fun j => if j = k then (none, 0, 0) else hs j) nm (D.del (.int .i64 bY)) w4 ∧ blk w4 W.heap.size [.int .i64 0, .int .i64 0, .int .i64 0, .bool false, .int .u32 0, .bool false, .int .i64 0, .slice none 0 0] 97 ∧ blk w4 (W.heap.size + 1) [.int .i64 bX, .int .i64 bY, .int .i64 bZ, .bool bE, .int .u32 (bI : Int), .bool bR, .int .i64 bD, .slice ao m c] 97 ∧ (∀ q, q ≠ G.gb → w4.heap[q]? = w3.heap[q]?) ∧ w4.heap.size = w3.heap.size) := HO4.out _ hW4; clear hW4)
    | (refine wpList_load_mid (P := Tryz.prog) rfl 97 _ rfl (W.heap.size + 1) 0 rfl [.int .i64 bX, .int .i64 bY, .int .i64 bZ, .bool bE, .int .u32 (bI : Int), .bool bR, .int .i64 bD, .slice ao m c] _ HW4.out.2.2.1.load Tryz.underlying97 rfl sz95 ?_)
    | (refine wpList_store_mid (P := Tryz.prog) rfl 97 _ _ rfl W.heap.size 0 [.int .i64 bX, .int .i64 bY, .int .i64 bZ, .bool bE, .int .u32 (bI : Int), .bool bR, .int .i64 bD, .slice ao m c].toArray rfl rfl (HW4.out.2.1.there 0 8 (by simp)) sz95 (one8 _ _ _ _ _ _ _ _ _ _) ?_; generalize hW9 : World.setCells w4 W.heap.size 0 _ = w9; have HW9 : Hid (_ = w9) := hW9; clear hW9))
  have e9 := HW9.out
  have hF : blk w9 W.heap.size [.int .i64 bX, .int .i64 bY, .int .i64 bZ, .bool bE, .int .u32 (bI : Int), .bool bR, .int .i64 bD, .slice ao m c] 97 := by
    rw [← e9]
    have := blk.put [] [.int .i64 0, .int .i64 0, .int .i64 0, .bool false, .int .u32 0, .bool false, .int .i64 0, .slice none 0 0] [] [.int .i64 bX, .int .i64 bY, .int .i64 bZ, .bool bE, .int .u32 (bI : Int), .bool bR, .int .i64 bD, .slice ao m c] (w := w4) (b := W.heap.size) (T := 97) (by simpa using HW4.out.2.1) rfl
    simpa using this
  have hL := run_loadVar_mid (P := Tryz.prog) w9 W.heap.size 0 97 _ _ hF.load Tryz.underlying97 rfl sz95
  refine bodyPost_ret (v := .agg [.int .i64 bX, .int .i64 bY, .int .i64 bZ, .bool bE, .int .u32 (bI : Int), .bool bR, .int .i64 bD, .slice ao m c].toArray) (results_cell Tryz.results132 _ w9 W.heap.size _ rfl hL) rfl ?_
  refine ⟨rfl, ?_, fun q h1 h2 h3 => ?_, ?_⟩
  · rw [← e9]
    exact HW4.out.1.put HU.out (Nat.le_refl _) 0 _
  · rw [← e9, setCells_other _ q (by omega) _ _ _, HW4.out.2.2.2.1 q h1]
    exact HO3.out q h2 h3
  · rw [← e9, setCells_size, HW4.out.2.2.2.2]
    exact HZ3.out
end Go.Proofs.YtaamahohdnbpiaaGreat
namespace Go.Proofs.YtaamahohdnbpiaaGreat
open Go.RowKit
set_option linter.unusedVariables false
theorem whS.mono {B T B' T' : Nat} {W : World} {s : Wh} (h : whS B T W s) (hB : B' ≤ B) (hT : T ≤ T') : whS B' T' W s :=
  ⟨h.f, h.fc, ⟨by have := h.fb.1; omega, by have := h.fb.2; omega⟩, h.x, h.xb.mono hB hT, h.r, h.rb.mono hB hT, h.q, h.qb.mono hB hT, h.m1, h.m2, h.m3, h.m4⟩
/-- told's answer, behind a store into another block -/
theorem toldQ.put {w w3 w4 w8 : World} {H : Ho} {s4 : Wh} {R : Nat} (hz : w.heap.size ≤ w3.heap.size) (hR : R < w3.heap.size) (q1 : St w3.heap.size w4 (fun W => isHo W H s4.sl)) (q2 : whS w3.heap.size w4.heap.size w4 s4) (oth : ∀ x, x ≠ R → w8.heap[x]? = w4.heap[x]?) (hs : w8.heap.size = w4.heap.size) : St w.heap.size w8 (fun W => isHo W H s4.sl) ∧ whS w.heap.size w8.heap.size w8 s4 := by
  refine ⟨fun W hW => q1 W (fun x h1 h2 => (hW x (by omega) (by omega)).trans (oth x (by omega))), ?_⟩
  rw [hs]
  exact (q2.same (fun x h1 h2 => oth x (by omega))).mono hz (Nat.le_refl _)
theorem vOk (W : World) (H : Ho) (s : Sl) (h : isHo W H s) (hn : H.le 1048576) (hok : okHo H) : Calls Tryz.prog 60 #[.agg (hoL H s).toArray] W fun o w' => o = .returned (.bool true) ∧ Below W.heap.size W w' := (validHost_any W H s h hn).mono (by rintro o w' ⟨⟨b, rfl, hb⟩, h2⟩; rw [hb.2 hok]; exact ⟨rfl, h2⟩)
theorem vBad (W : World) (H : Ho) (s : Sl) (h : isHo W H s) (hn : H.le 1048576) (hok : ¬ okHo H) : Calls Tryz.prog 60 #[.agg (hoL H s).toArray] W fun o w' => o = .returned (.bool false) ∧ Below W.heap.size W w' := (validHost_any W H s h hn).mono (by rintro o w' ⟨⟨b, rfl, hb⟩, h2⟩; cases b; exact ⟨rfl, h2⟩; exact absurd (hb.1 rfl) hok)
end Go.Proofs.YtaamahohdnbpiaaGreat
namespace Go.Proofs.YtaamahohdnbpiaaGreat
open Go.RowKit
set_option linter.unusedVariables false
structure itS (w : World) (H : Ho) (s : Sl) (i : Int) (W : World) : Prop where
  p : blk W w.heap.size (hoL H s) 35
  x : blk W (w.heap.size + 1) [.int .i64 i] 3
  r : blk W (w.heap.size + 1 + 1) Z10 35
  b : Below w.heap.size w W
theorem itS.below {w : World} {H : Ho} {s : Sl} {i : Int} {W W' : World} (h : itS w H s i W) (hb : Below W.heap.size W W') : itS w H s i W' := ⟨h.p.below hb, h.x.below hb, h.r.below hb, h.b.trans (hb.mono h.b.size)⟩
theorem itS.new (w : World) (H : Ho) (s : Sl) (i : Int) : itS w H s i (((w.alloc (.cells (hoL H s).toArray 35)).alloc (.cells #[.int .i64 i] 3)).alloc (.cells [.int .i64 0, .int .i64 0, .int .i64 0, .int .i64 0, .slice none 0 0, .slice none 0 0, .slice none 0 0, .slice none 0 0, .int .i64 0, .int .i64 0].toArray 35)) := by
  refine ⟨((blk.new w _ 35).alloc _).alloc _, ?_, ?_, (((Below.refl _ _).alloc (Nat.le_refl _) _).alloc (by simp) _).alloc (by simp; omega) _⟩
  · have := (blk.new (w.alloc (.cells (hoL H s).toArray 35)) [.int .i64 i] 3).alloc (.cells [.int .i64 0, .int .i64 0, .int .i64 0, .int .i64 0, .slice none 0 0, .slice none 0 0, .slice none 0 0, .slice none 0 0, .int .i64 0, .int .i64 0].toArray 35)
    simpa using this
  · have := blk.new ((w.alloc (.cells (hoL H s).toArray 35)).alloc (.cells #[.int .i64 i] 3)) Z10 35
    have e : ((w.alloc (.cells (hoL H s).toArray 35)).alloc (.cells #[.int .i64 i] 3)).heap.size = w.heap.size + 1 + 1 := by simp
    rw [e] at this
    exact this
end Go.Proofs.YtaamahohdnbpiaaGreat
namespace Go.Proofs.YtaamahohdnbpiaaGreat
open Go.RowKit
set_option linter.unusedVariables false
theorem sz61h : (Tryz.prog.info? 61).map (·.size) = some 10 := by kernel_rfl
theorem sz61L (H : Ho) (s : Sl) : (Tryz.prog.info? 61).map (·.size) = some (hoL H s).length := sz61h
theorem szL (X : World) (H : Ho) (s : Sl) (h : isHo X H s) (hn : H.le 9223372036854775807) : Calls Tryz.prog 35 #[.agg (hoL H s).toArray, .int .i64 1048576] X fun o w' => ∃ z : Int, o = .returned (.int .i64 z) ∧ Below X.heap.size X w' ∧ (z = -1 ∨ ∃ m' : Nat, z = (m' : Int) ∧ H.le 1048576) := by
  have := szHost_any X H s h hn 1048576 (Nat.le_refl _)
  exact this
theorem eqL (X : World) (H : Ho) (s1 s2 : Sl) (h1 : isHo X H s1) (h2 : isHo X H s2) (hm : H.le 1048576) : Calls Tryz.prog 37 #[.agg (hoL H s1).toArray, .agg (hoL H s2).toArray] X fun o w' => o = .returned (.bool true) ∧ Below X.heap.size X w' := by
  rw [← hoV_L, ← hoV_L]
  exact eqHost_same X H s1 s2 h1 h2 hm
end Go.Proofs.YtaamahohdnbpiaaGreat
namespace Go.Proofs.YtaamahohdnbpiaaGreat
open Go.RowKit
set_option linter.unusedVariables false
/-- the host's memory is its own: what is marked in it is held -/
def MKQ (B : Nat) (T : Ho) (sg : Sl) (w : World) : Prop := ∀ W, (∀ x, B ≤ x → x < w.heap.size → W.heap[x]? = w.heap[x]?) → w.heap.size ≤ W.heap.size → Calls Tryz.prog 39 #[.agg (hoL T sg).toArray, .int .i64 1] W fun o w1 => ∃ k : Nat, o = .returned (.int .i64 (k : Int)) ∧ Below B W w1 ∧ (∀ x, w.heap.size ≤ x → x < W.heap.size → w1.heap[x]? = W.heap[x]?) ∧ ∀ W2, Below w1.heap.size w1 W2 → Calls Tryz.prog 41 #[.agg (hoL T sg).toArray, .int .i64 1] W2 fun o w2 => o = .returned (.int .i64 (k : Int)) ∧ Below W2.heap.size W2 w2
theorem whS.mkq {B : Nat} {w : World} {s : Wh} {H : Ho} (h : whS B w.heap.size w s) (hd : whD s) (he : whE s) : MKQ B H s.sl w := by
  intro W hW hz
  have hs : whS B w.heap.size W s := h.same hW
  refine (markHost_gen B w.heap.size W H.c0 H.c1 H.c2 H.c3 H.lo H.st s 1 hs hd hz (by omega)).mono ?_
  rintro o w1 ⟨rfl, hm, hs1, ho, hb⟩
  refine ⟨s.c4 1, rfl, hb, fun x h1 h2 => ho x (Or.inr h1) h2, fun W2 hW2 => ?_⟩
  have hz1 : w.heap.size ≤ w1.heap.size := Nat.le_trans hz hb.size
  have hs2 : whS B w.heap.size W2 s := hs1.same fun x _ hx => hW2.block x (by omega)
  have hm2 : whM W2 s 1 := (hm he).same hs1 fun x _ hx => hW2.block x (by omega)
  exact heldHost_gen B w.heap.size W2 H.c0 H.c1 H.c2 H.c3 H.lo H.st s 1 hs2 hm2 (Nat.le_trans hz1 hW2.size) (by omega)
theorem zHo_mkq (B : Nat) (w : World) (hB : B ≤ w.heap.size) : MKQ B zHo zSl w := by
  intro W hW hz
  refine (markHost_nil W 0 0 0 0 0 0 1 (by omega)).mono ?_
  rintro o w1 ⟨rfl, hb⟩
  refine ⟨1, rfl, hb.mono (by omega), fun x _ h2 => hb.block x h2, fun W2 hW2 => ?_⟩
  refine (heldHost_nil W2 0 0 0 0 0 0 1 (by omega)).mono ?_
  rintro o w2 ⟨rfl, hb2⟩
  exact ⟨rfl, hb2⟩
/-- the copy of the argument, marked -/
theorem xMark2 {B T : Nat} {W : World} {sx : Wh} {H : Ho} (h : whS B T W sx) (hd : whD sx) (hT : T ≤ W.heap.size) : Calls Tryz.prog 39 #[.agg (hoL H sx.sl).toArray, .int .i64 1] W fun o w1 => ∃ k : Nat, o = .returned (.int .i64 (k : Int)) ∧ (∀ x, T ≤ x → x < W.heap.size → w1.heap[x]? = W.heap[x]?) ∧ Below B W w1 := by
  refine (markHost_gen B T W H.c0 H.c1 H.c2 H.c3 H.lo H.st sx 1 h hd hT (by omega)).mono ?_
  rintro o w1 ⟨rfl, _, _, q, hb⟩
  exact ⟨_, rfl, fun x h1 h2 => q x (Or.inr h1) h2, hb⟩
theorem toWh (X : World) (H : Ho) (s : Sl) (h : isHo X H s) (hm : H.le 1048576) : Calls Tryz.prog 36 #[.agg (hoL H s).toArray] X fun o w' => ∃ s' : Wh, o = .returned (.agg (hoL H s'.sl).toArray) ∧ St X.heap.size w' (fun W => isHo W H s'.sl) ∧ whS X.heap.size w'.heap.size w' s' ∧ whD s' ∧ slSome s'.sl ∧ Below X.heap.size X w' := by
  rw [← hoV_L]
  refine (toHost_iv X H s h hm).mono ?_
  rintro o w' ⟨s', rfl, h1, h2⟩
  have hs : slSome s' := by
    obtain ⟨g1, g2, _, _, _, _, _, e, _⟩ := h1.now.2.e
    rw [e]
    exact ⟨⟨g1, rfl⟩, ⟨g2, rfl⟩⟩
  obtain ⟨s2, rfl, h3, h4⟩ := h1.now.2.wh h1.now.1 hm
  exact ⟨s2, by rw [hoV_L], fun W hW => (h1 W hW).1, h3, h4, hs, h2⟩
end Go.Proofs.YtaamahohdnbpiaaGreat
