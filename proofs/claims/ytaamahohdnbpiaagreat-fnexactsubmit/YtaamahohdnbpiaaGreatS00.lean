import Derived.Test.YtaamahohdnbpiaaGreatG24
import Derived.Test.YtaamahohdnbpiaaGreatG29
import Derived.Maps.OwnSet
import Derived.StillTailTactics
namespace Go.Proofs.YtaamahohdnbpiaaGreat
open Go.RowKit
set_option linter.unusedVariables false
/-- a box is made free -/
def freeHo (H : Ho) (k : Nat) : Ho := { H with bx := H.bx.set k z8 }
structure reS (w : World) (L : List Value) (W : World) : Prop where
  p : blk W w.heap.size L 35
  r : blk W (w.heap.size + 1) Z10 35
theorem reS.new (w : World) (L : List Value) : reS w L ((w.alloc (.cells L.toArray 35)).alloc (.cells Z10.toArray 35)) := by
  refine ⟨(blk.new w _ 35).alloc _, ?_⟩
  have := blk.new (w.alloc (.cells L.toArray 35)) Z10 35
  simpa using this
theorem reS.below {w : World} {L : List Value} {W W' : World} (h : reS w L W) (hb : Below W.heap.size W W') : reS w L W' := ⟨h.p.below hb, h.r.below hb⟩
theorem reS.kept {w : World} {L : List Value} {W W' : World} (h : reS w L W) (hp : W'.heap[w.heap.size]? = W.heap[w.heap.size]?) (hr : W'.heap[w.heap.size + 1]? = W.heap[w.heap.size + 1]?) : reS w L W' := ⟨h.p.kept hp, h.r.kept hr⟩
abbrev Z8 : List Value := [.int .i64 0, .int .i64 0, .int .i64 0, .bool false, .int .u32 0, .bool false, .int .i64 0, .slice none 0 0]
theorem rowQ8.glt {B T E g n k : Nat} {bs : List R8} {W : World} (h : rowQ8 B T E g n k bs W) : B ≤ g := by
  obtain ⟨rs, h1, _⟩ := h
  exact h1.lt.1
theorem none8 (W : World) : isBytes W none 0 0 [] := ⟨rfl, Nat.le_refl _, fun q hq => (by cases hq), fun h => absurd rfl h⟩
theorem rowQ8.ghi {B T E g n k : Nat} {bs : List R8} {W : World} (h : rowQ8 B T E g n k bs W) : g < T := by
  obtain ⟨rs, h1, _, _, h2, _⟩ := h
  exact h2
end Go.Proofs.YtaamahohdnbpiaaGreat
namespace Go.Proofs.YtaamahohdnbpiaaGreat
open Go.RowKit
set_option linter.unusedVariables false
/-- where a live host lies -/
structure Lg where
  P : Nat
  mb : Nat
  r1 : Nat
  r3 : Nat
  gf : Nat
  n1 : Nat
  kf : Nat
  gb : Nat
  n2 : Nat
  kb : Nat
  gr : Nat
  gq : Nat
/-- the cells of a live host -/
abbrev lhL (G : Lg) (H : Ho) (f1 f3 : Nat) : List Value := liL H.c0 G.r1 H.c2 G.r3 G.gf G.n1 G.kf G.gb G.n2 G.kb G.mb G.gr f1 H.ff.length G.gq f3 H.qu.length H.lo H.st
/-- the bounds of a live host -/
structure lhB (G : Lg) (H : Ho) (f1 f3 : Nat) : Prop where
  e1 : H.c1 = (G.r1 : Int)
  e3 : H.c3 = (G.r3 : Int)
  m1 : G.n1 ≤ 1000
  m2 : G.n2 ≤ 8
  nk : G.n2 ≤ G.kb
  b1 : f1 < G.r1 ∧ G.r1 ≤ 1000 ∧ H.ff.length ≤ G.r1
  b3 : f3 < G.r3 ∧ G.r3 ≤ 1000 ∧ H.qu.length ≤ G.r3
  lo : 0 ≤ H.lo ∧ H.lo ≤ 100000
  s3 : ∀ j (h : j < H.ff.length), H.ff[j].l.length ≤ 1048576
  s4 : ∀ j (h : j < H.qu.length), H.qu[j].l.length ≤ 1048576
/-- the blocks of a live host are different -/
structure lhD (w0 : World) (G : Lg) : Prop where
  p : G.gf ≠ G.P ∧ G.gb ≠ G.P ∧ G.gr ≠ G.P ∧ G.gq ≠ G.P ∧ G.mb ≠ G.P
  m : G.gf ≠ G.mb ∧ G.gb ≠ G.mb ∧ G.gr ≠ G.mb ∧ G.gq ≠ G.mb
  g : G.gf < G.gb ∧ G.gb < G.gr ∧ G.gr < G.gq
  lo : w0.heap.size ≤ G.gf ∧ w0.heap.size ≤ G.P ∧ w0.heap.size ≤ G.mb
/-- a live host: its rows are its own, their bytes lie in w0 -/
structure lh (w0 : World) (G : Lg) (H : Ho) (f1 f3 : Nat) (hs : Nat → Hd) (nm : Nat) (D : DataW Unit) (W : World) : Prop where
  p : blk W G.P (lhL G H f1 f3) 134
  f : isR3s W (some ⟨G.gf, 0, none⟩) G.n1 G.kf H.fs
  x : dr8 w0 0 G.gb G.n2 H.bx hs 0 W
  r : ring5 w0 W G.gr G.r1 f1 H.ff
  rz : rowZ W G.gr (G.r1 * 5)
  q : ring8 w0 W G.gq G.r3 f3 H.qu
  qz : rowZ W G.gq (G.r3 * 8)
  m : W.ownsMap (H := Unit) Tryz.prog 3 (plainElem Tryz.prog 3) G.mb nm D
  b : Below w0.heap.size w0 W
  hi : G.gf < W.heap.size ∧ G.gr < W.heap.size ∧ G.gq < W.heap.size
  d : lhD w0 G
  bd : lhB G H f1 f3
theorem lh.below {w0 : World} {G : Lg} {H : Ho} {f1 f3 : Nat} {hs : Nat → Hd} {nm : Nat} {D : DataW Unit} {W W' : World} (h : lh w0 G H f1 f3 hs nm D W) (hb : Below W.heap.size W W') : lh w0 G H f1 f3 hs nm D W' :=
  ⟨h.p.below hb, h.f.below hb, h.x.below hb, h.r.keep (hb.block _ h.hi.2.1), h.rz.below hb h.hi.2.1, h.q.keep (hb.block _ h.hi.2.2), h.qz.below hb h.hi.2.2, h.m.kept (row := none) ⟨hb.os, hb.tape, hb.output, hb.size, fun k hk _ => hb.block k hk⟩ (by simp), h.b.trans (hb.mono h.b.size), ⟨Nat.lt_of_lt_of_le h.hi.1 hb.size, Nat.lt_of_lt_of_le h.hi.2.1 hb.size, Nat.lt_of_lt_of_le h.hi.2.2 hb.size⟩, h.d, h.bd⟩
/-- told of a live host -/
theorem lh.told {w0 : World} {G : Lg} {H : Ho} {f1 f3 : Nat} {hs : Nat → Hd} {nm : Nat} {D : DataW Unit} {W : World} (h : lh w0 G H f1 f3 hs nm D W) : Calls Tryz.prog 118 #[.pointer (some ⟨G.P, 0, none⟩)] W (toldQ W H) := by
  obtain ⟨c0, c1, c2, c3, fs, bx, ff, qu, lo, st⟩ := H
  have e1 := h.bd.e1
  have e3 := h.bd.e3
  simp only [] at e1 e3
  subst e1 e3
  have h2 := h.bd.m2
  exact told_any W G.P G.mb c0 c2 G.r1 G.r3 fs bx ff qu lo st G.gf G.n1 G.kf G.gb G.n2 G.kb G.gr f1 ff.length G.gq f3 qu.length h.p h.f (h.x.is h.bd.nk) (h.r.base h.b) (h.q.base h.b) rfl rfl h.bd.m1 (by omega) h.bd.b1 h.bd.b3 h.x.sm h.bd.s3 h.bd.s4
/-- another world that differs at the block of the boxes -/
theorem lh.box {w0 : World} {G : Lg} {H : Ho} {f1 f3 : Nat} {hs hs' : Nat → Hd} {nm : Nat} {D : DataW Unit} {W W' : World} {bx : List R8} (h : lh w0 G H f1 f3 hs nm D W) (hx : dr8 w0 0 G.gb G.n2 bx hs' 0 W') (he : ∀ q, q ≠ G.gb → W'.heap[q]? = W.heap[q]?) (hz : W'.heap.size = W.heap.size) : lh w0 G { H with bx := bx } f1 f3 hs' nm D W' := by
  have dp := h.d.p
  have dm := h.d.m
  have dg := h.d.g
  refine ⟨h.p.kept (he _ (by omega)), h.f.same (he _ (by omega)), hx, h.r.keep (he _ (by omega)), h.rz.up (he _ (by omega)), h.q.keep (he _ (by omega)), h.qz.up (he _ (by omega)), ?_, hx.bel, by rw [hz]; exact h.hi, h.d, ⟨h.bd.e1, h.bd.e3, h.bd.m1, h.bd.m2, h.bd.nk, h.bd.b1, h.bd.b3, h.bd.lo, h.bd.s3, h.bd.s4⟩⟩
  obtain ⟨es, clock, q1, q2⟩ := h.m
  exact ⟨es, clock, (he _ (by omega)).trans q1, q2⟩
/-- one box is written anew -/
theorem dr8.put {b0 W : World} {g n : Nat} {bx : List R8} {hs : Nat → Hd} (h : dr8 b0 0 g n bx hs 0 W) (i : Nat) (hi : i < bx.length) (b : R8) (hd : Hd) (hb : isBytes b0 hd.1 hd.2.1 hd.2.2 b.l) (hl : b.l.length ≤ 1048576) : dr8 b0 0 g n (bx.set i b) (fun j => if j = i then hd else hs j) 0 (setRow W g (i * 8) (x8 (b, hd))) := by
  have hln := h.len
  have hlo := h.lo
  refine ⟨by rw [List.length_set]; exact h.len, h.row.setRow _ _ _ _, fun j hj => ?_, fun j hj _ => ?_, fun j hj hk => absurd hk (Nat.not_lt_zero _), fun i j _ hj => absurd hj (Nat.not_lt_zero _), h.lo, ?_, ?_, fun j hj => ?_⟩
  · have hj' : j < bx.length := by simpa using hj
    by_cases e : j = i
    · subst e
      rw [List.getElem_set_self, if_pos rfl]
      intro t u hu
      have ht : t < (x8 (b, hd)).length := (List.getElem?_eq_some_iff.mp hu).1
      have ht8 : t < 8 := by simpa [x8] using ht
      rw [setRow_at g _ _ _ t ht ((h.row (j * 8 + t) (by omega)).1)]
      rw [List.getElem?_eq_getElem ht] at hu
      exact hu
    · rw [List.getElem_set_ne (fun x => e x.symm), if_neg e]
      intro t u hu
      have ht : t < 8 := by have := (List.getElem?_eq_some_iff.mp hu).1; simpa [x8] using this
      rw [setRow_other g _ _ _ _ (by simp [x8]; omega)]
      exact h.rng j hj' t u hu
  · have hj' : j < bx.length := by simpa using hj
    by_cases e : j = i
    · subst e
      rw [List.getElem_set_self, if_pos rfl]
      exact hb
    · rw [List.getElem_set_ne (fun x => e x.symm), if_neg e]
      exact h.old j hj' (Nat.zero_le _)
  · rw [← setCells_row, setCells_size]
    exact h.hi
  · rw [← setCells_row]
    exact setCells_below h.lo _ _ h.bel
  · have hj' : j < bx.length := by simpa using hj
    by_cases e : j = i
    · subst e
      rw [List.getElem_set_self]
      exact hl
    · rw [List.getElem_set_ne (fun x => e x.symm)]
      exact h.sm j hj'
theorem lh.free {w0 : World} {G : Lg} {H : Ho} {f1 f3 : Nat} {hs : Nat → Hd} {nm : Nat} {D : DataW Unit} {W : World} (h : lh w0 G H f1 f3 hs nm D W) (i : Nat) (hi : i < H.bx.length) : lh w0 G (freeHo H i) f1 f3 (fun j => if j = i then (none, 0, 0) else hs j) nm D (W.setCells G.gb (i * 8) Z8) := by
  have e : W.setCells G.gb (i * 8) Z8 = setRow W G.gb (i * 8) (x8 (z8, (none, 0, 0))) := setCells_row ..
  have hx := h.x.put i hi z8 (none, 0, 0) (none8 _) (Nat.zero_le _)
  rw [← e] at hx
  exact h.box hx (fun q hq => setCells_other _ q hq _ _ _) (setCells_size ..)
/-- another world that differs at the block of the tags -/
theorem lh.tags {w0 : World} {G : Lg} {H : Ho} {f1 f3 : Nat} {hs : Nat → Hd} {nm nm' : Nat} {D D' : DataW Unit} {W W' : World} (h : lh w0 G H f1 f3 hs nm D W) (hg : W.grownBy W' (some G.mb)) (hm : W'.ownsMap (H := Unit) Tryz.prog 3 (plainElem Tryz.prog 3) G.mb nm' D') : lh w0 G H f1 f3 hs nm' D' W' := by
  have dp := h.d.p
  have dm := h.d.m
  have dg := h.d.g
  have he : ∀ q, q ≠ G.mb → q < W.heap.size → W'.heap[q]? = W.heap[q]? := fun q hq hl => hg.block q hl (by simpa using hq)
  have hb' : Below w0.heap.size w0 W' := h.b.grown hg h.b.size (fun k hk => by cases hk; exact h.d.lo.2.2)
  have hz := hg.size
  exact ⟨h.p.kept (he _ (by omega) h.p.lt), h.f.same (he _ (by omega) h.hi.1), h.x.at0 (he _ (by omega) h.x.hi) hb', h.r.keep (he _ (by omega) h.hi.2.1), h.rz.up (he _ (by omega) h.hi.2.1), h.q.keep (he _ (by omega) h.hi.2.2), h.qz.up (he _ (by omega) h.hi.2.2), hm, hb', ⟨by have := h.hi; omega, by have := h.hi; omega, by have := h.hi; omega⟩, h.d, h.bd⟩
/-- behind a post -/
theorem quP_take {r3 : Nat} {qu : List R8} {e : R8} {t : Nat} (ht : t = min (r3 - qu.length) 1) (hl : qu.length ≤ r3) : qu ++ [e].take t = quP (r3 : Int) qu e := by
  unfold quP
  by_cases h : (qu.length : Int) < (r3 : Int)
  · have e1 : t = 1 := by omega
    rw [if_pos h, e1]
    rfl
  · have e1 : t = 0 := by omega
    rw [if_neg h, e1]
    simp
theorem loP_take {r3 : Nat} {qu : List R8} {lo : Int} {t : Nat} (ht : t = min (r3 - qu.length) 1) (hl : qu.length ≤ r3) (h0 : 0 ≤ lo ∧ lo ≤ 100000) : min (lo + (1 - (t : Int))) 100000 = loP (r3 : Int) qu lo := by
  unfold loP
  by_cases h : (qu.length : Int) < (r3 : Int)
  · have e1 : t = 1 := by omega
    rw [if_pos h, e1]
    omega
  · have e1 : t = 0 := by omega
    rw [if_neg h, e1]
    split <;> omega
theorem quP_len {r3 : Nat} {qu : List R8} {e : R8} {t : Nat} (ht : t = min (r3 - qu.length) 1) (hl : qu.length ≤ r3) : (quP (r3 : Int) qu e).length = qu.length + t := by
  rw [← quP_take ht hl]
  by_cases h : t = 0
  · subst h; simp
  · have e1 : t = 1 := by omega
    subst e1; simp
theorem quP_small {c : Int} {qu : List R8} {e : R8} (h : ∀ j (h : j < qu.length), qu[j].l.length ≤ 1048576) (he : e.l.length ≤ 1048576) : ∀ j (h : j < (quP c qu e).length), (quP c qu e)[j].l.length ≤ 1048576 := by
  unfold quP
  split
  · intro j hj
    by_cases hj' : j < qu.length
    · rw [List.getElem_append_left hj']
      exact h j hj'
    · rw [List.getElem_append_right (by omega)]
      simpa using he
  · exact h
theorem lh.post {w0 : World} {G : Lg} {H : Ho} {f1 f3 : Nat} {hs : Nat → Hd} {nm : Nat} {D : DataW Unit} {W : World} (h : lh w0 G H f1 f3 hs nm D W) (ev : R8) (ao : Option Addr) (m c : Nat) (hby : isBytes w0 ao m c ev.l) (hl : ev.l.length ≤ 1048576) :
    Calls Tryz.prog 120 #[.pointer (some ⟨G.P, 0, none⟩), .agg #[.int .i64 ev.x, .int .i64 ev.y, .int .i64 ev.z, .bool ev.e, .int .u32 (ev.i : Int), .bool ev.r, .int .i64 ev.d, .slice ao m c]] W fun o w' => o = .returned (.tuple #[]) ∧ lh w0 G (postHo H ev) f1 f3 hs nm D w' ∧ (∀ b, b ≠ G.P → b ≠ G.gq → b < W.heap.size → w'.heap[b]? = W.heap[b]?) ∧ W.heap.size ≤ w'.heap.size := by
  have dp := h.d.p
  have dm := h.d.m
  have dg := h.d.g
  have dl := h.d.lo
  have hb3 := h.bd.b3
  refine (post_any H.c0 H.c2 G.r1 G.gf G.n1 G.kf G.gb G.n2 G.kb G.mb G.gr f1 H.ff.length H.lo H.st w0 W G.P G.gq G.r3 f3 H.qu ev.x ev.y ev.z ev.e ev.i ev.r ev.d ao m c ev.l h.p (by omega) h.qz h.hi.2.2 h.q hb3.1 hb3.2.2 hb3.2.1 hby h.bd.lo.1 h.bd.lo.2 _ rfl).mono ?_
  rintro o w' ⟨rfl, hq⟩
  have hb' : Below w0.heap.size w0 w' := by
    refine ⟨hq.o.1.trans h.b.os, hq.o.2.1.trans h.b.tape, hq.o.2.2.trans h.b.output, Nat.le_trans h.b.size hq.s, fun b hb => ?_⟩
    rw [hq.k b (by omega) (by omega) (Nat.lt_of_lt_of_le hb h.b.size)]
    exact h.b.block b hb
  have he : ∀ q, q ≠ G.P → q ≠ G.gq → q < W.heap.size → w'.heap[q]? = W.heap[q]? := hq.k
  have hz := hq.s
  have hi := h.hi
  refine ⟨rfl, ⟨?_, h.f.same (he _ (by omega) (by omega) hi.1), h.x.at0 (he _ (by omega) (by omega) h.x.hi) hb', h.r.keep (he _ (by omega) (by omega) hi.2.1), h.rz.up (he _ (by omega) (by omega) hi.2.1), ?_, hq.z, ?_, hb', ⟨by omega, by omega, by omega⟩, h.d, ⟨h.bd.e1, h.bd.e3, h.bd.m1, h.bd.m2, h.bd.nk, h.bd.b1, ⟨hb3.1, hb3.2.1, ?_⟩, ?_, h.bd.s3, ?_⟩⟩, he, hz⟩
  · have := hq.p
    rw [loP_take rfl hb3.2.2 h.bd.lo, ← h.bd.e3] at this
    have e2 : H.qu.length + min (G.r3 - H.qu.length) 1 = (postHo H ev).qu.length := by
      show _ = (quP H.c3 H.qu ev).length
      rw [h.bd.e3, quP_len rfl hb3.2.2]
    rw [e2] at this
    exact this
  · show ring8 w0 w' G.gq G.r3 f3 (quP H.c3 H.qu ev)
    rw [h.bd.e3, ← quP_take rfl hb3.2.2]
    exact hq.r
  · obtain ⟨es, clock, q1, q2⟩ := h.m
    exact ⟨es, clock, (he _ (by omega) (by omega) h.m.lt).trans q1, q2⟩
  · show (quP H.c3 H.qu ev).length ≤ _
    rw [h.bd.e3, quP_len rfl hb3.2.2]
    omega
  · show 0 ≤ loP H.c3 H.qu H.lo ∧ loP H.c3 H.qu H.lo ≤ 100000
    have := h.bd.lo
    unfold loP
    split
    · exact this
    · split <;> omega
  · exact quP_small h.bd.s4 hl
end Go.Proofs.YtaamahohdnbpiaaGreat
namespace Go.Proofs.YtaamahohdnbpiaaGreat
open Go.RowKit
set_option linter.unusedVariables false
def tagBb (t : Int) (b : R8) : Bool := !(b.x == 0) && b.y == t
def tagIx (bx : List R8) (t : Int) : Nat := bx.findIdx (tagBb t)
theorem fstB.tag {bx : List R8} {t r : Int} (h : fstB (tagB t) bx r) : (r = -1 ∧ ¬ tagIx bx t < bx.length) ∨ (r = (tagIx bx t : Int) ∧ tagIx bx t < bx.length) := by
  have e : ∀ b, tagBb t b = true ↔ tagB t b := fun b => by simp [tagBb, tagB]
  rcases h with ⟨k, hk, h1, h2, rfl⟩ | ⟨h1, rfl⟩
  · right
    have e : tagIx bx t = k := by
      unfold tagIx
      rw [List.findIdx_eq hk]
      refine ⟨(e _).2 h1, fun j hj => ?_⟩
      have := h2 j (by omega) hj
      rw [← e] at this
      simpa using this
    rw [e]
    exact ⟨rfl, hk⟩
  · left
    refine ⟨rfl, ?_⟩
    have : tagIx bx t = bx.length := List.findIdx_eq_length.2 fun b hb => by
      obtain ⟨j, hj, rfl⟩ := List.getElem_of_mem hb
      have := h1 j hj
      rw [← e] at this
      simpa using this
    omega
end Go.Proofs.YtaamahohdnbpiaaGreat
namespace Go.Proofs.YtaamahohdnbpiaaGreat
open Go.RowKit
set_option linter.unusedVariables false
set_option maxHeartbeats 1000000 in
/-- openHost: a live host -/
theorem open_lh (w : World) (H : Ho) (s : Sl) (h : isHo w H s) (hs : slSome s) (hok : okHo H) (hm : H.le 1048576) :
    Calls Tryz.prog 61 #[.agg (hoL H s).toArray] w fun o w' => ∃ (G : Lg) (hd : Nat → Hd), o = .returned (.pointer (some ⟨G.P, 0, none⟩)) ∧ lh w G H 0 0 hd G.n2 (tagsD Unit H.bx G.n2) w' ∧ G.n2 = H.bx.length := by
  obtain ⟨c0, c1, c2, c3, fs, bx, ff, qu, lo, st⟩ := H
  obtain ⟨a1, n1, k1, a2, n2, k2, a3, n3, k3, a4, n4, k4⟩ := s
  obtain ⟨⟨g1, e1⟩, ⟨g2, e2⟩⟩ := hs
  simp only [] at e1 e2
  subst e1 e2
  have hcf := of_decide_eq_true hok.cf
  have hnf := hok.nf
  have hnq := hok.nq
  have l1 := h.fs.len
  have l2 := h.bx.len
  have l3 := h.ff.len
  have l4 := h.qu.len
  have hf16 : fs.length ≤ 16 := by
    have := hok.fs
    unfold okFs at this
    simp at this
    exact this.1
  have hm2 := hm.bd
  have hm3 := hm.fd
  have hm4 := hm.qd
  have hm1 := hm.fs
  simp only [] at hcf hnf hnq l1 l2 l3 l4 hm1 hm2 hm3 hm4
  have hn2 := hok.n2
  simp only [] at hn2
  obtain ⟨r1, hr1⟩ : ∃ r1 : Nat, c1 = (r1 : Int) := ⟨c1.toNat, by omega⟩
  obtain ⟨r3, hr3⟩ : ∃ r3 : Nat, c3 = (r3 : Int) := ⟨c3.toNat, by omega⟩
  subst hr1 hr3
  subst l3 l4
  refine (openHost_any Unit w c0 c2 r1 r3 fs bx ff qu lo st g1 n1 k1 g2 0 n2 k2 a3 ff.length k3 a4 qu.length k4 h.fs h.bx h.ff h.qu (by omega) (by omega) (by omega) (by omega) hok.bx hm2).mono ?_
  rintro o w' ⟨P, mb, gf, kf, gb, kb, hs', gr, gq, rfl, hl⟩
  have hx := hl.x.k w' rfl hl.b
  have hr := hl.r.k w' rfl hl.b
  have hq := hl.q.k w' rfl hl.b
  exact ⟨⟨P, mb, r1, r3, gf, n1, kf, gb, n2, kb, gr, gq⟩, hs', rfl, ⟨hl.p, hl.f.k w' rfl hl.b, hx.1, hr.1, hr.2, hq.1, hq.2, hl.m, hl.b, ⟨hl.f.lt, hl.r.lt, hl.q.lt⟩, ⟨⟨hl.f.n1, hl.x.n1, hl.r.n1, hl.q.n1, hl.n1⟩, ⟨hl.f.n2, hl.x.n2, hl.r.n2, hl.q.n2⟩, hl.d, ⟨hl.lo.1, hl.lo.2, hl.n2⟩⟩, ⟨rfl, rfl, by show n1 ≤ 1000; omega, by show n2 ≤ 8; omega, hx.2, ⟨by show 0 < r1; omega, by show r1 ≤ 1000; omega, by show ff.length ≤ r1; omega⟩, ⟨by show 0 < r3; omega, by show r3 ≤ 1000; omega, by show qu.length ≤ r3; omega⟩, ⟨hok.l0, hok.l1⟩, hm3, hm4⟩⟩, l2⟩
/-- what the map of tags says -/
theorem tags_at (bx : List R8) : ∀ k : Nat, k ≤ bx.length → Maps.IsMap (tagsD Unit bx k) ∧ ∀ t : Int, (∃ (j : Nat) (hj : j < bx.length), j < k ∧ (bx[j].x ≠ 0 ∧ bx[j].y = t) ∧ Maps.has (tagsD Unit bx k) (.int .i64 t) = true ∧ ∀ z, (tagsD Unit bx k).atKey (.int .i64 t) z = .lit (.int .i64 (j : Int))) ∨ ((∀ (j : Nat) (hj : j < bx.length), j < k → ¬ (bx[j].x ≠ 0 ∧ bx[j].y = t)) ∧ Maps.has (tagsD Unit bx k) (.int .i64 t) = false)
  | 0, _ => ⟨⟨[], rfl⟩, fun t => Or.inr ⟨fun j _ h => absurd h (Nat.not_lt_zero _), rfl⟩⟩
  | k + 1, hk => by
    obtain ⟨hm, ih⟩ := tags_at bx k (by omega)
    have hkl : k < bx.length := by omega
    by_cases hx : bx[k].x = 0
    · rw [tagsD_skip hkl hx]
      refine ⟨hm, fun t => ?_⟩
      rcases ih t with ⟨j, hj, h1, h2⟩ | ⟨h1, h2⟩
      · exact Or.inl ⟨j, hj, by omega, h2⟩
      · refine Or.inr ⟨fun j hj hjk => ?_, h2⟩
        by_cases e : j = k
        · subst e
          exact fun h => h.1 hx
        · exact h1 j hj (by omega)
    · rw [tagsD_put hkl hx]
      refine ⟨hm.put _ _, fun t => ?_⟩
      by_cases ht : t = bx[k].y
      · subst ht
        exact Or.inl ⟨k, hkl, by omega, ⟨hx, rfl⟩, Maps.has_put_same hm (show WideAt.IsKeyLit (.int .i64 bx[k].y) from trivial) _, fun z => Maps.atKey_put_same hm (show WideAt.IsKeyLit (.int .i64 bx[k].y) from trivial) _ _⟩
      · have hne : Lit.int .i64 t ≠ Lit.int .i64 bx[k].y := by
          intro e
          injection e with _ e
          exact ht e
        rcases ih t with ⟨j, hj, h1, h2, h3, h4⟩ | ⟨h1, h2⟩
        · exact Or.inl ⟨j, hj, by omega, h2, by rw [Maps.has_put_other hne]; exact h3, fun z => by rw [Maps.atKey_put_other hne]; exact h4 z⟩
        · refine Or.inr ⟨fun j hj hjk => ?_, by rw [Maps.has_put_other hne]; exact h2⟩
          by_cases e : j = k
          · subst e
            exact fun h => ht h.2.symm
          · exact h1 j hj (by omega)
theorem tags_ix {bx : List R8} (hfar : ∀ i j (hi : i < bx.length) (hj : j < bx.length), i < j → far bx[i] bx[j]) (t : Int) : (tagIx bx t < bx.length ∧ Maps.has (tagsD Unit bx bx.length) (.int .i64 t) = true ∧ ∀ z, (tagsD Unit bx bx.length).atKey (.int .i64 t) z = .lit (.int .i64 (tagIx bx t : Int))) ∨ (¬ tagIx bx t < bx.length ∧ Maps.has (tagsD Unit bx bx.length) (.int .i64 t) = false) := by
  rcases (tags_at bx bx.length (Nat.le_refl _)).2 t with ⟨j, hj, _, h2, h3, h4⟩ | ⟨h1, h2⟩
  · left
    have e : tagIx bx t = j := by
      unfold tagIx
      rw [List.findIdx_eq hj]
      refine ⟨by simp [tagBb, h2.1, h2.2], fun i hi => ?_⟩
      have := hfar i j (by omega) hj hi
      unfold far at this
      simp only [tagBb, Bool.and_eq_false_iff, Bool.not_eq_false', beq_iff_eq, beq_eq_false_iff_ne]
      by_cases hx : bx[i].x = 0
      · exact Or.inl hx
      · exact Or.inr fun e => (this hx h2.1).1 (e.trans h2.2.symm)
    rw [e]
    exact ⟨hj, h3, h4⟩
  · right
    refine ⟨?_, h2⟩
    have : tagIx bx t = bx.length := List.findIdx_eq_length.2 fun b hb => by
      obtain ⟨j, hj, rfl⟩ := List.getElem_of_mem hb
      have := h1 j hj hj
      simp only [tagBb, Bool.and_eq_false_iff, Bool.not_eq_false', beq_iff_eq, beq_eq_false_iff_ne]
      by_cases hx : bx[j].x = 0
      · exact Or.inl hx
      · exact Or.inr fun e => this ⟨hx, e⟩
    omega
end Go.Proofs.YtaamahohdnbpiaaGreat
namespace Go.Proofs.YtaamahohdnbpiaaGreat
open Go.RowKit
set_option linter.unusedVariables false
/-- a live host's blocks lie below B -/
def lhU (G : Lg) (B : Nat) : Prop := G.P < B ∧ G.mb < B ∧ G.gf < B ∧ G.gb < B ∧ G.gr < B ∧ G.gq < B
theorem lh.lts {w0 : World} {G : Lg} {H : Ho} {f1 f3 : Nat} {hs : Nat → Hd} {nm : Nat} {D : DataW Unit} {W : World} (h : lh w0 G H f1 f3 hs nm D W) : lhU G W.heap.size := ⟨h.p.lt, h.m.lt, h.hi.1, h.x.hi, h.hi.2.1, h.hi.2.2⟩
/-- a store into a block of someone else's -/
theorem lh.put {w0 : World} {G : Lg} {H : Ho} {f1 f3 : Nat} {hs : Nat → Hd} {nm : Nat} {D : DataW Unit} {W : World} (h : lh w0 G H f1 f3 hs nm D W) {B x : Nat} (hB : lhU G B) (hx : B ≤ x) (o : Nat) (l : List Value) : lh w0 G H f1 f3 hs nm D (W.setCells x o l) := by
  obtain ⟨b1, b2, b3, b4, b5, b6⟩ := hB
  have hlo := h.d.lo
  have he : ∀ q, q < B → (W.setCells x o l).heap[q]? = W.heap[q]? := fun q hq => setCells_other _ q (by omega) _ _ _
  have hb : Below w0.heap.size w0 (W.setCells x o l) := setCells_below (by omega) o l h.b
  have hz : (W.setCells x o l).heap.size = W.heap.size := setCells_size ..
  refine ⟨h.p.kept (he _ b1), h.f.same (he _ b3), h.x.at0 (he _ b4) hb, h.r.keep (he _ b5), h.rz.up (he _ b5), h.q.keep (he _ b6), h.qz.up (he _ b6), ?_, hb, by rw [hz]; exact h.hi, h.d, h.bd⟩
  obtain ⟨es, clock, q1, q2⟩ := h.m
  exact ⟨es, clock, (he _ b2).trans q1, q2⟩
theorem key3 {a : Int} (hw : (Lit.int .i64 a).wf = true) : keyOf Tryz.prog 3 (.int .i64 a) = some (.int .i64 a) := Maps.keyOf_int_mk Tryz.underlying3 hw
theorem keyed3 : Maps.Keyed Tryz.prog 3 := Maps.int_keyed Tryz.underlying3
end Go.Proofs.YtaamahohdnbpiaaGreat
namespace Go.Proofs.YtaamahohdnbpiaaGreat
open Go.RowKit
set_option linter.unusedVariables false
theorem okBxs.wf {st : Int} {bx : List R8} (h : okBxs st bx) : ∀ j (hj : j < bx.length), (Lit.int .i64 bx[j].y).wf = true := fun j hj => by
  have := h.1 j hj
  unfold okBx at this
  split at this
  · rw [this.1]
    exact wf_small (by omega) (by omega)
  · exact wf_small (by omega) (by omega)
end Go.Proofs.YtaamahohdnbpiaaGreat
namespace Go.Proofs.YtaamahohdnbpiaaGreat
open Go.RowKit
set_option linter.unusedVariables false
theorem zero3 (w : World) : (zeroValue 3).run Tryz.prog w = .ok (.int .i64 0) w := by kernel_rfl
end Go.Proofs.YtaamahohdnbpiaaGreat
namespace Go.Proofs.YtaamahohdnbpiaaGreat
open Go.RowKit
set_option linter.unusedVariables false

theorem okHo.n4 {H : Ho} (h : okHo H) : H.qu.length ≤ 1000 := by
  have h1 := of_decide_eq_true h.cf
  have h2 := h.nq
  omega
/-- what a function of the layer answers: T of a valid host, the empty one else -/
def okRel (H : Ho) (R : Ho) (T : Ho) : Prop := (okHo H ∧ T = R) ∨ (¬ okHo H ∧ T = zHo)
theorem okRel_ex (H R : Ho) : ∃ T, okRel H R T := by
  rcases Classical.em (okHo H) with h | h
  · exact ⟨_, Or.inl ⟨h, rfl⟩⟩
  · exact ⟨_, Or.inr ⟨h, rfl⟩⟩
theorem okRel.yes {H R T : Ho} (h : okRel H R T) (hok : okHo H) : T = R := by
  rcases h with ⟨_, e⟩ | ⟨h, _⟩
  · exact e
  · exact absurd hok h
theorem okRel.no {H R T : Ho} (h : okRel H R T) (hok : ¬ okHo H) : T = zHo := by
  rcases h with ⟨h, _⟩ | ⟨_, e⟩
  · exact absurd h hok
  · exact e
/-- spec.l3copy: a host on its way -/
theorem copyS (W : World) (H : Ho) (s : Sl) (h : isHo W H s) (hn : H.le 1048576) : Calls Tryz.prog 71 #[.agg (hoL H s).toArray] W fun o w' => ∃ s' T0 T1 T2, o = .returned (.agg (hoL H s').toArray) ∧ spS (W.heap.size + 3) T0 T1 T2 H s' w' ∧ s'.n2 = H.bx.length ∧ s'.n4 = H.qu.length ∧ Below W.heap.size W w' := by
  rw [← hoV_L]
  refine (l3copy_own W H s h hn).mono ?_
  rintro o w' ⟨gf, kf, gb, kb, gq, kq, g4, k4, T0, T1, T2, T3, rfl, ⟨o1, o2, o3, o4, o5, o6⟩, hst, hb⟩
  obtain ⟨h1, h2, h3, h4⟩ := hst.now
  obtain ⟨hs, h2'⟩ := h2.bxR
  exact ⟨⟨some ⟨gf, 0, none⟩, s.n1, kf, some ⟨gb, 0, none⟩, s.n2, kb, some ⟨gq, 0, none⟩, s.n3, kq, some ⟨g4, 0, none⟩, s.n4, k4⟩, T0, T1, T2, by rw [hoV_L], ⟨⟨gf, rfl, o1, o2, h1⟩, ⟨gb, hs, rfl, h2'⟩, ⟨gq, rfl, h3⟩, ⟨g4, rfl, h4.mono o6⟩, ⟨by omega, o3, o4, by omega⟩⟩, h.bx.len, h.qu.len, hb⟩
end Go.Proofs.YtaamahohdnbpiaaGreat
namespace Go.Proofs.YtaamahohdnbpiaaGreat
open Go.RowKit
set_option linter.unusedVariables false
theorem rowQ5.ghi {B T E g n k : Nat} {bs : List R5} {W : World} (h : rowQ5 B T E g n k bs W) : g < T := by
  obtain ⟨rs, _, _, _, h4, _⟩ := h
  exact h4
theorem wpStill_load_mid {ops : Array Oper} {rest : List Oper} {op : Oper} {a : Act} {w : World} {Q : Act → Prop} (hw : Region.wanted op (yielded ops a.tmps) = true) (ty : TypeId) (x : Operand) (ho : op.op = .load ty x)
    (b o : Nat) (hx : a.eval x = .pointer (some ⟨b, o, none⟩)) (cs : List Value) (d : TypeDesc) (hc : w.rangeAt b o cs)
    (hu : Tryz.prog.underlying ty = some d) (hd : d.isRow = true) (hi : (Tryz.prog.info? ty).map (·.size) = some cs.length)
    (h : wpStill Tryz.prog ops w Q rest (a.put op.dst (.agg cs.toArray))) : wpStill Tryz.prog ops w Q (op :: rest) a :=
  wpStill_step fun K hK => by
    simp only [hw, if_true]
    unfold Oper.still execOp
    simp only [ho, hx, Instr.loadAt, Instr.sureAddr, Sem.run_bind, Sem.run_pure, Result.andThen_ok, run_loadVar_mid w b o ty cs d hc hu hd hi]
    exact ⟨rfl, hK _ h⟩
end Go.Proofs.YtaamahohdnbpiaaGreat
namespace Go.Proofs.YtaamahohdnbpiaaGreat
open Go.RowKit
set_option linter.unusedVariables false
theorem Ho.le.post {H : Ho} {ev : R8} (h : H.le 1048576) (hq : H.qu.length ≤ 1000) (hl : ev.l.length ≤ 1048576) : (postHo H ev).le 1048576 := by
  refine ⟨h.fs, h.bx, h.ff, ?_, h.bd, h.fd, quP_small h.qd hl⟩
  show (quP H.c3 H.qu ev).length ≤ _
  unfold quP
  split
  · rw [List.length_append, List.length_singleton]
    omega
  · exact h.qu
theorem Ho.le.set {H : Ho} (h : H.le 1048576) (k : Nat) (b : R8) (hb : b.l.length ≤ 1048576) : Ho.le { H with bx := H.bx.set k b } 1048576 := by
  refine ⟨h.fs, by show (H.bx.set k b).length ≤ _; rw [List.length_set]; exact h.bx, h.ff, h.qu, fun j hj => ?_, h.fd, h.qd⟩
  have hj' : j < H.bx.length := by simpa using hj
  show (H.bx.set k b)[j].l.length ≤ _
  by_cases e : j = k
  · subst e
    rw [List.getElem_set_self]
    exact hb
  · rw [List.getElem_set_ne (fun x => e x.symm)]
    exact h.bd j hj'
theorem Ho.le.free {H : Ho} (h : H.le 1048576) (k : Nat) : (freeHo H k).le 1048576 := h.set k z8 (Nat.zero_le _)
theorem okR_le {H R T : Ho} (hR : okRel H R T) (h : okHo H → R.le 1048576) : T.le 1048576 := by
  by_cases hok : okHo H
  · rw [hR.yes hok]
    exact h hok
  · rw [hR.no hok]
    exact ⟨by decide, by decide, by decide, by decide, fun j hj => (by cases hj), fun j hj => (by cases hj), fun j hj => (by cases hj)⟩
end Go.Proofs.YtaamahohdnbpiaaGreat
namespace Go.Proofs.YtaamahohdnbpiaaGreat
open Go.RowKit
set_option linter.unusedVariables false
theorem okHo.n3 {H : Ho} (h : okHo H) : H.ff.length ≤ 1000 := by
  have h1 := of_decide_eq_true h.cf
  have h2 := h.nf
  omega
end Go.Proofs.YtaamahohdnbpiaaGreat
