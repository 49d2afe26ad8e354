import Derived.Test.YtaamahohdnbpiaaGreatG22
import Derived.Test.YtaamahohdnbpiaaGreatG25
import Derived.Maps.OwnSet
import Derived.StillTailTactics
import Derived.Deep.RegionHeld3
import Derived.Test.YtaamahohdnbpiaaGreatG04
namespace Go.Proofs.YtaamahohdnbpiaaGreat
open Go.RowKit
set_option linter.unusedVariables false
structure Lg where
  P : Nat
  mb : Nat
  r1 : Nat
  r3 : Nat
  gf : Nat
  n1 : Nat
  kf : Nat
  gb : Nat
  n2 : Nat
  kb : Nat
  gr : Nat
  gq : Nat
abbrev lhL (G : Lg) (H : Ho) (f1 f3 : Nat) : List Value := liL H.c0 G.r1 H.c2 G.r3 G.gf G.n1 G.kf G.gb G.n2 G.kb G.mb G.gr f1 H.ff.length G.gq f3 H.qu.length H.lo H.st
structure lhB (G : Lg) (H : Ho) (f1 f3 : Nat) : Prop where
  e1 : H.c1 = (G.r1 : Int)
  e3 : H.c3 = (G.r3 : Int)
  m1 : G.n1 ≤ 1000
  m2 : G.n2 ≤ 8
  nk : G.n2 ≤ G.kb
  b1 : f1 < G.r1 ∧ G.r1 ≤ 1000 ∧ H.ff.length ≤ G.r1
  b3 : f3 < G.r3 ∧ G.r3 ≤ 1000 ∧ H.qu.length ≤ G.r3
  lo : 0 ≤ H.lo ∧ H.lo ≤ 100000
  s3 : ∀ j (h : j < H.ff.length), H.ff[j].l.length ≤ 1048576
  s4 : ∀ j (h : j < H.qu.length), H.qu[j].l.length ≤ 1048576
structure lhD (w0 : World) (G : Lg) : Prop where
  p : G.gf ≠ G.P ∧ G.gb ≠ G.P ∧ G.gr ≠ G.P ∧ G.gq ≠ G.P ∧ G.mb ≠ G.P
  m : G.gf ≠ G.mb ∧ G.gb ≠ G.mb ∧ G.gr ≠ G.mb ∧ G.gq ≠ G.mb
  g : G.gf < G.gb ∧ G.gb < G.gr ∧ G.gr < G.gq
  lo : w0.heap.size ≤ G.gf ∧ w0.heap.size ≤ G.P ∧ w0.heap.size ≤ G.mb
structure lh (w0 : World) (G : Lg) (H : Ho) (f1 f3 : Nat) (hs : Nat → Hd) (nm : Nat) (D : DataW Unit) (W : World) : Prop where
  p : blk W G.P (lhL G H f1 f3) 134
  f : isR3s W (some ⟨G.gf, 0, none⟩) G.n1 G.kf H.fs
  x : dr8 w0 0 G.gb G.n2 H.bx hs 0 W
  r : ring5 w0 W G.gr G.r1 f1 H.ff
  rz : rowZ W G.gr (G.r1 * 5)
  q : ring8 w0 W G.gq G.r3 f3 H.qu
  qz : rowZ W G.gq (G.r3 * 8)
  m : W.ownsMap (H := Unit) Tryz.prog 3 (plainElem Tryz.prog 3) G.mb nm D
  b : Below w0.heap.size w0 W
  hi : G.gf < W.heap.size ∧ G.gr < W.heap.size ∧ G.gq < W.heap.size
  d : lhD w0 G
  bd : lhB G H f1 f3
theorem lh.below {w0 : World} {G : Lg} {H : Ho} {f1 f3 : Nat} {hs : Nat → Hd} {nm : Nat} {D : DataW Unit} {W W' : World} (h : lh w0 G H f1 f3 hs nm D W) (hb : Below W.heap.size W W') : lh w0 G H f1 f3 hs nm D W' :=
  ⟨h.p.below hb, h.f.below hb, h.x.below hb, h.r.keep (hb.block _ h.hi.2.1), h.rz.below hb h.hi.2.1, h.q.keep (hb.block _ h.hi.2.2), h.qz.below hb h.hi.2.2, h.m.kept (row := none) ⟨hb.os, hb.tape, hb.output, hb.size, fun k hk _ => hb.block k hk⟩ (by simp), h.b.trans (hb.mono h.b.size), ⟨Nat.lt_of_lt_of_le h.hi.1 hb.size, Nat.lt_of_lt_of_le h.hi.2.1 hb.size, Nat.lt_of_lt_of_le h.hi.2.2 hb.size⟩, h.d, h.bd⟩
theorem lh.told {w0 : World} {G : Lg} {H : Ho} {f1 f3 : Nat} {hs : Nat → Hd} {nm : Nat} {D : DataW Unit} {W : World} (h : lh w0 G H f1 f3 hs nm D W) : Calls Tryz.prog 118 #[.pointer (some ⟨G.P, 0, none⟩)] W (toldQ W H) := by
  obtain ⟨c0, c1, c2, c3, fs, bx, ff, qu, lo, st⟩ := H
  have e1 := h.bd.e1
  have e3 := h.bd.e3
  simp only [] at e1 e3
  subst e1 e3
  have h2 := h.bd.m2
  exact told_any W G.P G.mb c0 c2 G.r1 G.r3 fs bx ff qu lo st G.gf G.n1 G.kf G.gb G.n2 G.kb G.gr f1 ff.length G.gq f3 qu.length h.p h.f (h.x.is h.bd.nk) (h.r.base h.b) (h.q.base h.b) rfl rfl h.bd.m1 (by omega) h.bd.b1 h.bd.b3 h.x.sm h.bd.s3 h.bd.s4
theorem lh.box {w0 : World} {G : Lg} {H : Ho} {f1 f3 : Nat} {hs hs' : Nat → Hd} {nm : Nat} {D : DataW Unit} {W W' : World} {bx : List R8} (h : lh w0 G H f1 f3 hs nm D W) (hx : dr8 w0 0 G.gb G.n2 bx hs' 0 W') (he : ∀ q, q ≠ G.gb → W'.heap[q]? = W.heap[q]?) (hz : W'.heap.size = W.heap.size) : lh w0 G { H with bx := bx } f1 f3 hs' nm D W' := by
  have dp := h.d.p
  have dm := h.d.m
  have dg := h.d.g
  refine ⟨h.p.kept (he _ (by omega)), h.f.same (he _ (by omega)), hx, h.r.keep (he _ (by omega)), h.rz.up (he _ (by omega)), h.q.keep (he _ (by omega)), h.qz.up (he _ (by omega)), ?_, hx.bel, by rw [hz]; exact h.hi, h.d, ⟨h.bd.e1, h.bd.e3, h.bd.m1, h.bd.m2, h.bd.nk, h.bd.b1, h.bd.b3, h.bd.lo, h.bd.s3, h.bd.s4⟩⟩
  obtain ⟨es, clock, q1, q2⟩ := h.m
  exact ⟨es, clock, (he _ (by omega)).trans q1, q2⟩
theorem dr8.put {b0 W : World} {g n : Nat} {bx : List R8} {hs : Nat → Hd} (h : dr8 b0 0 g n bx hs 0 W) (i : Nat) (hi : i < bx.length) (b : R8) (hd : Hd) (hb : isBytes b0 hd.1 hd.2.1 hd.2.2 b.l) (hl : b.l.length ≤ 1048576) : dr8 b0 0 g n (bx.set i b) (fun j => if j = i then hd else hs j) 0 (setRow W g (i * 8) (x8 (b, hd))) := by
  have hln := h.len
  have hlo := h.lo
  refine ⟨by rw [List.length_set]; exact h.len, h.row.setRow _ _ _ _, fun j hj => ?_, fun j hj _ => ?_, fun j hj hk => absurd hk (Nat.not_lt_zero _), fun i j _ hj => absurd hj (Nat.not_lt_zero _), h.lo, ?_, ?_, fun j hj => ?_⟩
  · have hj' : j < bx.length := by simpa using hj
    by_cases e : j = i
    · subst e
      rw [List.getElem_set_self, if_pos rfl]
      intro t u hu
      have ht : t < (x8 (b, hd)).length := (List.getElem?_eq_some_iff.mp hu).1
      have ht8 : t < 8 := by simpa [x8] using ht
      rw [setRow_at g _ _ _ t ht ((h.row (j * 8 + t) (by omega)).1)]
      rw [List.getElem?_eq_getElem ht] at hu
      exact hu
    · rw [List.getElem_set_ne (fun x => e x.symm), if_neg e]
      intro t u hu
      have ht : t < 8 := by have := (List.getElem?_eq_some_iff.mp hu).1; simpa [x8] using this
      rw [setRow_other g _ _ _ _ (by simp [x8]; omega)]
      exact h.rng j hj' t u hu
  · have hj' : j < bx.length := by simpa using hj
    by_cases e : j = i
    · subst e
      rw [List.getElem_set_self, if_pos rfl]
      exact hb
    · rw [List.getElem_set_ne (fun x => e x.symm), if_neg e]
      exact h.old j hj' (Nat.zero_le _)
  · rw [← setCells_row, setCells_size]
    exact h.hi
  · rw [← setCells_row]
    exact setCells_below h.lo _ _ h.bel
  · have hj' : j < bx.length := by simpa using hj
    by_cases e : j = i
    · subst e
      rw [List.getElem_set_self]
      exact hl
    · rw [List.getElem_set_ne (fun x => e x.symm)]
      exact h.sm j hj'
theorem lh.free {w0 : World} {G : Lg} {H : Ho} {f1 f3 : Nat} {hs : Nat → Hd} {nm : Nat} {D : DataW Unit} {W : World} (h : lh w0 G H f1 f3 hs nm D W) (i : Nat) (hi : i < H.bx.length) : lh w0 G (freeHo H i) f1 f3 (fun j => if j = i then (none, 0, 0) else hs j) nm D (W.setCells G.gb (i * 8) Z8) := by
  have e : W.setCells G.gb (i * 8) Z8 = setRow W G.gb (i * 8) (x8 (z8, (none, 0, 0))) := setCells_row ..
  have hx := h.x.put i hi z8 (none, 0, 0) (none8 _) (Nat.zero_le _)
  rw [← e] at hx
  exact h.box hx (fun q hq => setCells_other _ q hq _ _ _) (setCells_size ..)
theorem quP_take {r3 : Nat} {qu : List R8} {e : R8} {t : Nat} (ht : t = min (r3 - qu.length) 1) (hl : qu.length ≤ r3) : qu ++ [e].take t = quP (r3 : Int) qu e := by
  unfold quP
  by_cases h : (qu.length : Int) < (r3 : Int)
  · have e1 : t = 1 := by omega
    rw [if_pos h, e1]
    rfl
  · have e1 : t = 0 := by omega
    rw [if_neg h, e1]
    simp
theorem loP_take {r3 : Nat} {qu : List R8} {lo : Int} {t : Nat} (ht : t = min (r3 - qu.length) 1) (hl : qu.length ≤ r3) (h0 : 0 ≤ lo ∧ lo ≤ 100000) : min (lo + (1 - (t : Int))) 100000 = loP (r3 : Int) qu lo := by
  unfold loP
  by_cases h : (qu.length : Int) < (r3 : Int)
  · have e1 : t = 1 := by omega
    rw [if_pos h, e1]
    omega
  · have e1 : t = 0 := by omega
    rw [if_neg h, e1]
    split <;> omega
theorem quP_len {r3 : Nat} {qu : List R8} {e : R8} {t : Nat} (ht : t = min (r3 - qu.length) 1) (hl : qu.length ≤ r3) : (quP (r3 : Int) qu e).length = qu.length + t := by
  rw [← quP_take ht hl]
  by_cases h : t = 0
  · subst h; simp
  · have e1 : t = 1 := by omega
    subst e1; simp
theorem quP_small {c : Int} {qu : List R8} {e : R8} (h : ∀ j (h : j < qu.length), qu[j].l.length ≤ 1048576) (he : e.l.length ≤ 1048576) : ∀ j (h : j < (quP c qu e).length), (quP c qu e)[j].l.length ≤ 1048576 := by
  unfold quP
  split
  · intro j hj
    by_cases hj' : j < qu.length
    · rw [List.getElem_append_left hj']
      exact h j hj'
    · rw [List.getElem_append_right (by omega)]
      simpa using he
  · exact h
theorem lh.post {w0 : World} {G : Lg} {H : Ho} {f1 f3 : Nat} {hs : Nat → Hd} {nm : Nat} {D : DataW Unit} {W : World} (h : lh w0 G H f1 f3 hs nm D W) (ev : R8) (ao : Option Addr) (m c : Nat) (hby : isBytes w0 ao m c ev.l) (hl : ev.l.length ≤ 1048576) :
    Calls Tryz.prog 120 #[.pointer (some ⟨G.P, 0, none⟩), .agg #[.int .i64 ev.x, .int .i64 ev.y, .int .i64 ev.z, .bool ev.e, .int .u32 (ev.i : Int), .bool ev.r, .int .i64 ev.d, .slice ao m c]] W fun o w' => o = .returned (.tuple #[]) ∧ lh w0 G (postHo H ev) f1 f3 hs nm D w' ∧ (∀ b, b ≠ G.P → b ≠ G.gq → b < W.heap.size → w'.heap[b]? = W.heap[b]?) ∧ W.heap.size ≤ w'.heap.size := by
  have dp := h.d.p
  have dm := h.d.m
  have dg := h.d.g
  have dl := h.d.lo
  have hb3 := h.bd.b3
  refine (post_any H.c0 H.c2 G.r1 G.gf G.n1 G.kf G.gb G.n2 G.kb G.mb G.gr f1 H.ff.length H.lo H.st w0 W G.P G.gq G.r3 f3 H.qu ev.x ev.y ev.z ev.e ev.i ev.r ev.d ao m c ev.l h.p (by omega) h.qz h.hi.2.2 h.q hb3.1 hb3.2.2 hb3.2.1 hby h.bd.lo.1 h.bd.lo.2 _ rfl).mono ?_
  rintro o w' ⟨rfl, hq⟩
  have hb' : Below w0.heap.size w0 w' := by
    refine ⟨hq.o.1.trans h.b.os, hq.o.2.1.trans h.b.tape, hq.o.2.2.trans h.b.output, Nat.le_trans h.b.size hq.s, fun b hb => ?_⟩
    rw [hq.k b (by omega) (by omega) (Nat.lt_of_lt_of_le hb h.b.size)]
    exact h.b.block b hb
  have he : ∀ q, q ≠ G.P → q ≠ G.gq → q < W.heap.size → w'.heap[q]? = W.heap[q]? := hq.k
  have hz := hq.s
  have hi := h.hi
  refine ⟨rfl, ⟨?_, h.f.same (he _ (by omega) (by omega) hi.1), h.x.at0 (he _ (by omega) (by omega) h.x.hi) hb', h.r.keep (he _ (by omega) (by omega) hi.2.1), h.rz.up (he _ (by omega) (by omega) hi.2.1), ?_, hq.z, ?_, hb', ⟨by omega, by omega, by omega⟩, h.d, ⟨h.bd.e1, h.bd.e3, h.bd.m1, h.bd.m2, h.bd.nk, h.bd.b1, ⟨hb3.1, hb3.2.1, ?_⟩, ?_, h.bd.s3, ?_⟩⟩, he, hz⟩
  · have := hq.p
    rw [loP_take rfl hb3.2.2 h.bd.lo, ← h.bd.e3] at this
    have e2 : H.qu.length + min (G.r3 - H.qu.length) 1 = (postHo H ev).qu.length := by
      show _ = (quP H.c3 H.qu ev).length
      rw [h.bd.e3, quP_len rfl hb3.2.2]
    rw [e2] at this
    exact this
  · show ring8 w0 w' G.gq G.r3 f3 (quP H.c3 H.qu ev)
    rw [h.bd.e3, ← quP_take rfl hb3.2.2]
    exact hq.r
  · obtain ⟨es, clock, q1, q2⟩ := h.m
    exact ⟨es, clock, (he _ (by omega) (by omega) h.m.lt).trans q1, q2⟩
  · show (quP H.c3 H.qu ev).length ≤ _
    rw [h.bd.e3, quP_len rfl hb3.2.2]
    omega
  · show 0 ≤ loP H.c3 H.qu H.lo ∧ loP H.c3 H.qu H.lo ≤ 100000
    have := h.bd.lo
    unfold loP
    split
    · exact this
    · split <;> omega
  · exact quP_small h.bd.s4 hl
end Go.Proofs.YtaamahohdnbpiaaGreat
namespace Go.Proofs.YtaamahohdnbpiaaGreat
open Go.RowKit
set_option linter.unusedVariables false
set_option maxHeartbeats 1000000 in
theorem open_lh (w : World) (H : Ho) (s : Sl) (h : isHo w H s) (hs : slSome s) (hok : okHo H) (hm : H.le 1048576) :
    Calls Tryz.prog 61 #[.agg (hoL H s).toArray] w fun o w' => ∃ (G : Lg) (hd : Nat → Hd), o = .returned (.pointer (some ⟨G.P, 0, none⟩)) ∧ lh w G H 0 0 hd G.n2 (tagsD Unit H.bx G.n2) w' ∧ G.n2 = H.bx.length := by
  obtain ⟨c0, c1, c2, c3, fs, bx, ff, qu, lo, st⟩ := H
  obtain ⟨a1, n1, k1, a2, n2, k2, a3, n3, k3, a4, n4, k4⟩ := s
  obtain ⟨⟨g1, e1⟩, ⟨g2, e2⟩⟩ := hs
  simp only [] at e1 e2
  subst e1 e2
  have hcf := of_decide_eq_true hok.cf
  have hnf := hok.nf
  have hnq := hok.nq
  have l1 := h.fs.len
  have l2 := h.bx.len
  have l3 := h.ff.len
  have l4 := h.qu.len
  have hf16 : fs.length ≤ 16 := by
    have := hok.fs
    unfold okFs at this
    simp at this
    exact this.1
  have hm2 := hm.bd
  have hm3 := hm.fd
  have hm4 := hm.qd
  have hm1 := hm.fs
  simp only [] at hcf hnf hnq l1 l2 l3 l4 hm1 hm2 hm3 hm4
  have hn2 := hok.n2
  simp only [] at hn2
  obtain ⟨r1, hr1⟩ : ∃ r1 : Nat, c1 = (r1 : Int) := ⟨c1.toNat, by omega⟩
  obtain ⟨r3, hr3⟩ : ∃ r3 : Nat, c3 = (r3 : Int) := ⟨c3.toNat, by omega⟩
  subst hr1 hr3
  subst l3 l4
  refine (openHost_any Unit w c0 c2 r1 r3 fs bx ff qu lo st g1 n1 k1 g2 0 n2 k2 a3 ff.length k3 a4 qu.length k4 h.fs h.bx h.ff h.qu (by omega) (by omega) (by omega) (by omega) hok.bx hm2).mono ?_
  rintro o w' ⟨P, mb, gf, kf, gb, kb, hs', gr, gq, rfl, hl⟩
  have hx := hl.x.k w' rfl hl.b
  have hr := hl.r.k w' rfl hl.b
  have hq := hl.q.k w' rfl hl.b
  exact ⟨⟨P, mb, r1, r3, gf, n1, kf, gb, n2, kb, gr, gq⟩, hs', rfl, ⟨hl.p, hl.f.k w' rfl hl.b, hx.1, hr.1, hr.2, hq.1, hq.2, hl.m, hl.b, ⟨hl.f.lt, hl.r.lt, hl.q.lt⟩, ⟨⟨hl.f.n1, hl.x.n1, hl.r.n1, hl.q.n1, hl.n1⟩, ⟨hl.f.n2, hl.x.n2, hl.r.n2, hl.q.n2⟩, hl.d, ⟨hl.lo.1, hl.lo.2, hl.n2⟩⟩, ⟨rfl, rfl, by show n1 ≤ 1000; omega, by show n2 ≤ 8; omega, hx.2, ⟨by show 0 < r1; omega, by show r1 ≤ 1000; omega, by show ff.length ≤ r1; omega⟩, ⟨by show 0 < r3; omega, by show r3 ≤ 1000; omega, by show qu.length ≤ r3; omega⟩, ⟨hok.l0, hok.l1⟩, hm3, hm4⟩⟩, l2⟩
end Go.Proofs.YtaamahohdnbpiaaGreat
namespace Go.Proofs.YtaamahohdnbpiaaGreat
open Go.RowKit
set_option linter.unusedVariables false
def lhU (G : Lg) (B : Nat) : Prop := G.P < B ∧ G.mb < B ∧ G.gf < B ∧ G.gb < B ∧ G.gr < B ∧ G.gq < B
theorem lh.lts {w0 : World} {G : Lg} {H : Ho} {f1 f3 : Nat} {hs : Nat → Hd} {nm : Nat} {D : DataW Unit} {W : World} (h : lh w0 G H f1 f3 hs nm D W) : lhU G W.heap.size := ⟨h.p.lt, h.m.lt, h.hi.1, h.x.hi, h.hi.2.1, h.hi.2.2⟩
theorem lh.put {w0 : World} {G : Lg} {H : Ho} {f1 f3 : Nat} {hs : Nat → Hd} {nm : Nat} {D : DataW Unit} {W : World} (h : lh w0 G H f1 f3 hs nm D W) {B x : Nat} (hB : lhU G B) (hx : B ≤ x) (o : Nat) (l : List Value) : lh w0 G H f1 f3 hs nm D (W.setCells x o l) := by
  obtain ⟨b1, b2, b3, b4, b5, b6⟩ := hB
  have hlo := h.d.lo
  have he : ∀ q, q < B → (W.setCells x o l).heap[q]? = W.heap[q]? := fun q hq => setCells_other _ q (by omega) _ _ _
  have hb : Below w0.heap.size w0 (W.setCells x o l) := setCells_below (by omega) o l h.b
  have hz : (W.setCells x o l).heap.size = W.heap.size := setCells_size ..
  refine ⟨h.p.kept (he _ b1), h.f.same (he _ b3), h.x.at0 (he _ b4) hb, h.r.keep (he _ b5), h.rz.up (he _ b5), h.q.keep (he _ b6), h.qz.up (he _ b6), ?_, hb, by rw [hz]; exact h.hi, h.d, h.bd⟩
  obtain ⟨es, clock, q1, q2⟩ := h.m
  exact ⟨es, clock, (he _ b2).trans q1, q2⟩
end Go.Proofs.YtaamahohdnbpiaaGreat
namespace Go.Proofs.YtaamahohdnbpiaaGreat
open Go.RowKit
set_option linter.unusedVariables false

theorem okHo.n4 {H : Ho} (h : okHo H) : H.qu.length ≤ 1000 := by
  have h1 := of_decide_eq_true h.cf
  have h2 := h.nq
  omega
def okRel (H : Ho) (R : Ho) (T : Ho) : Prop := (okHo H ∧ T = R) ∨ (¬ okHo H ∧ T = zHo)
theorem okRel_ex (H R : Ho) : ∃ T, okRel H R T := by
  rcases Classical.em (okHo H) with h | h
  · exact ⟨_, Or.inl ⟨h, rfl⟩⟩
  · exact ⟨_, Or.inr ⟨h, rfl⟩⟩
theorem okRel.yes {H R T : Ho} (h : okRel H R T) (hok : okHo H) : T = R := by
  rcases h with ⟨_, e⟩ | ⟨h, _⟩
  · exact e
  · exact absurd hok h
theorem okRel.no {H R T : Ho} (h : okRel H R T) (hok : ¬ okHo H) : T = zHo := by
  rcases h with ⟨h, _⟩ | ⟨_, e⟩
  · exact absurd h hok
  · exact e
theorem copyS (W : World) (H : Ho) (s : Sl) (h : isHo W H s) (hn : H.le 1048576) : Calls Tryz.prog 71 #[.agg (hoL H s).toArray] W fun o w' => ∃ s' T0 T1 T2, o = .returned (.agg (hoL H s').toArray) ∧ spS (W.heap.size + 3) T0 T1 T2 H s' w' ∧ s'.n2 = H.bx.length ∧ s'.n4 = H.qu.length ∧ Below W.heap.size W w' := by
  rw [← hoV_L]
  refine (l3copy_own W H s h hn).mono ?_
  rintro o w' ⟨gf, kf, gb, kb, gq, kq, g4, k4, T0, T1, T2, T3, rfl, ⟨o1, o2, o3, o4, o5, o6⟩, hst, hb⟩
  obtain ⟨h1, h2, h3, h4⟩ := hst.now
  obtain ⟨hs, h2'⟩ := h2.bxR
  exact ⟨⟨some ⟨gf, 0, none⟩, s.n1, kf, some ⟨gb, 0, none⟩, s.n2, kb, some ⟨gq, 0, none⟩, s.n3, kq, some ⟨g4, 0, none⟩, s.n4, k4⟩, T0, T1, T2, by rw [hoV_L], ⟨⟨gf, rfl, o1, o2, h1⟩, ⟨gb, hs, rfl, h2'⟩, ⟨gq, rfl, h3⟩, ⟨g4, rfl, h4.mono o6⟩, ⟨by omega, o3, o4, by omega⟩⟩, h.bx.len, h.qu.len, hb⟩
end Go.Proofs.YtaamahohdnbpiaaGreat
namespace Go.Proofs.YtaamahohdnbpiaaGreat
open Go.RowKit
set_option linter.unusedVariables false
theorem rowQ5.ghi {B T E g n k : Nat} {bs : List R5} {W : World} (h : rowQ5 B T E g n k bs W) : g < T := by
  obtain ⟨rs, _, _, _, h4, _⟩ := h
  exact h4
theorem wpStill_load_mid {ops : Array Oper} {rest : List Oper} {op : Oper} {a : Act} {w : World} {Q : Act → Prop} (hw : Region.wanted op (yielded ops a.tmps) = true) (ty : TypeId) (x : Operand) (ho : op.op = .load ty x)
    (b o : Nat) (hx : a.eval x = .pointer (some ⟨b, o, none⟩)) (cs : List Value) (d : TypeDesc) (hc : w.rangeAt b o cs)
    (hu : Tryz.prog.underlying ty = some d) (hd : d.isRow = true) (hi : (Tryz.prog.info? ty).map (·.size) = some cs.length)
    (h : wpStill Tryz.prog ops w Q rest (a.put op.dst (.agg cs.toArray))) : wpStill Tryz.prog ops w Q (op :: rest) a :=
  wpStill_step fun K hK => by
    simp only [hw, if_true]
    unfold Oper.still execOp
    simp only [ho, hx, Instr.loadAt, Instr.sureAddr, Sem.run_bind, Sem.run_pure, Result.andThen_ok, run_loadVar_mid w b o ty cs d hc hu hd hi]
    exact ⟨rfl, hK _ h⟩
abbrev evF (x y z : Int) (f : R5) : R8 := ⟨x, y, z, f.e, f.i, f.r, f.d, f.l⟩
theorem isR5s.tail {W : World} {g n k : Nat} {f : R5} {r : List R5} (h : isR5s W (some ⟨g, 0, none⟩) n k (f :: r)) : isR5s W (some ⟨g, 5, none⟩) (n - 1) (k - 1) r := by
  have hl := h.len
  have hc := h.cap
  simp only [List.length_cons] at hl
  refine ⟨by omega, by omega, fun _ => ⟨g, 5, rfl, fun j hj => ?_⟩⟩
  obtain ⟨g', off, e, hx⟩ := h.cells (by simp)
  cases e
  obtain ⟨ao, m, c, q⟩ := hx (j + 1) (by simpa using hj)
  refine ⟨ao, m, c, ?_⟩
  have e2 : 0 + (j + 1) * 5 = 5 + j * 5 := by omega
  rw [e2] at q
  simpa using q
theorem isR5s.tail1 {W W' : World} {g n k : Nat} {f : R5} {r : List R5} (h : isR5s W (some ⟨g, 0, none⟩) n k (f :: r)) (hk : k = 1) : isR5s W' (some ⟨g, 0, none⟩) r.length 0 r := by
  have hl := h.len
  have hc := h.cap
  simp only [List.length_cons] at hl
  have e : r = [] := List.length_eq_zero_iff.1 (by omega)
  subst e
  exact ⟨rfl, Nat.le_refl _, fun e => absurd rfl e⟩
abbrev fSl (s : Sl) (gq o n k : Nat) : Sl := { s with a3 := some ⟨gq, o, none⟩, n3 := n, k3 := k }
abbrev fHo (H : Ho) (r : List R5) : Ho := { H with ff := r }
end Go.Proofs.YtaamahohdnbpiaaGreat
namespace Go.Proofs.YtaamahohdnbpiaaGreat
open Go.RowKit
set_option linter.unusedVariables false
theorem Ho.le.post {H : Ho} {ev : R8} (h : H.le 1048576) (hq : H.qu.length ≤ 1000) (hl : ev.l.length ≤ 1048576) : (postHo H ev).le 1048576 := by
  refine ⟨h.fs, h.bx, h.ff, ?_, h.bd, h.fd, quP_small h.qd hl⟩
  show (quP H.c3 H.qu ev).length ≤ _
  unfold quP
  split
  · rw [List.length_append, List.length_singleton]
    omega
  · exact h.qu
theorem Ho.le.set {H : Ho} (h : H.le 1048576) (k : Nat) (b : R8) (hb : b.l.length ≤ 1048576) : Ho.le { H with bx := H.bx.set k b } 1048576 := by
  refine ⟨h.fs, by show (H.bx.set k b).length ≤ _; rw [List.length_set]; exact h.bx, h.ff, h.qu, fun j hj => ?_, h.fd, h.qd⟩
  have hj' : j < H.bx.length := by simpa using hj
  show (H.bx.set k b)[j].l.length ≤ _
  by_cases e : j = k
  · subst e
    rw [List.getElem_set_self]
    exact hb
  · rw [List.getElem_set_ne (fun x => e x.symm)]
    exact h.bd j hj'
theorem Ho.le.free {H : Ho} (h : H.le 1048576) (k : Nat) : (freeHo H k).le 1048576 := h.set k z8 (Nat.zero_le _)
theorem okR_le {H R T : Ho} (hR : okRel H R T) (h : okHo H → R.le 1048576) : T.le 1048576 := by
  by_cases hok : okHo H
  · rw [hR.yes hok]
    exact h hok
  · rw [hR.no hok]
    exact ⟨by decide, by decide, by decide, by decide, fun j hj => (by cases hj), fun j hj => (by cases hj), fun j hj => (by cases hj)⟩
end Go.Proofs.YtaamahohdnbpiaaGreat
namespace Go.Proofs.YtaamahohdnbpiaaGreat
open Go.RowKit
set_option linter.unusedVariables false
theorem okHo.n3 {H : Ho} (h : okHo H) : H.ff.length ≤ 1000 := by
  have h1 := of_decide_eq_true h.cf
  have h2 := h.nf
  omega
end Go.Proofs.YtaamahohdnbpiaaGreat
namespace Go.Proofs.YtaamahohdnbpiaaGreat
open Go.RowKit
set_option linter.unusedVariables false
def freeIx (bx : List R8) : Nat := bx.findIdx (fun b => b.x == 0)
structure sbS (w : World) (L F : List Value) (W : World) : Prop where
  p : blk W w.heap.size L 35
  f : blk W (w.heap.size + 1) F 25
  r : blk W (w.heap.size + 1 + 1) Z10 35
theorem sbS.below {w : World} {L F : List Value} {W W' : World} (h : sbS w L F W) (hb : Below W.heap.size W W') : sbS w L F W' := ⟨h.p.below hb, h.f.below hb, h.r.below hb⟩
theorem sbS.new (w : World) (L F : List Value) : sbS w L F (((w.alloc (.cells L.toArray 35)).alloc (.cells F.toArray 25)).alloc (.cells Z10.toArray 35)) := by
  refine ⟨((blk.new w _ 35).alloc _).alloc _, ?_, ?_⟩
  · have := (blk.new (w.alloc (.cells L.toArray 35)) F 25).alloc (.cells Z10.toArray 35)
    simpa using this
  · have := blk.new ((w.alloc (.cells L.toArray 35)).alloc (.cells F.toArray 25)) Z10 35
    have e : ((w.alloc (.cells L.toArray 35)).alloc (.cells F.toArray 25)).heap.size = w.heap.size + 1 + 1 := by simp
    rw [e] at this
    exact this
theorem sp_endG {B T0 T1 T2 g4 x : Nat} {w w7 w8 V : World} {H : Ho} {s : Sl} {ev : R8} {g' n' k' : Nat} (hS : spS B T0 T1 T2 H s w7) (hT2 : T2 ≤ w.heap.size) (hg4 : T2 ≤ g4) (hx : w.heap.size ≤ x ∧ x < w7.heap.size)
    (hV : ∀ V : World, (∀ x, T2 ≤ x → x < w.heap.size ∨ w7.heap.size ≤ x → x < w8.heap.size → V.heap[x]? = w8.heap[x]?) → w8.heap.size ≤ V.heap.size → rowQ8 T2 V.heap.size 46 g' n' k' (quP H.c3 H.qu ev) V)
    (he : ∀ q, q ≠ g4 → q < w7.heap.size → w8.heap[q]? = w7.heap[q]?) (hb : w7.heap.size ≤ w8.heap.size) (oth : ∀ q, q ≠ x → V.heap[q]? = w8.heap[q]?) (hsz : V.heap.size = w8.heap.size) : spS B T0 T1 T2 (postHo H ev) (qSl s g' n' k') V := by
  have ho := hS.o
  refine hS.post (hV _ (fun q h1 h2 h3 => oth q (by omega)) (by omega)) (fun q h1 h2 => ?_) (by omega)
  rw [oth q (by omega)]
  exact he q (by omega) (by omega)
theorem bxR.putIs {B T g n k : Nat} {bx : List R8} {hs : Nat → Hd} {W V : World} (h : bxR B T g n k bx hs W) (i : Nat) (hi : i < bx.length) (b : R8) (hd : Hd) (hV : ∀ x, x ≠ g → B ≤ x → x < T → V.heap[x]? = W.heap[x]?) (hg : V.heap[g]? = (setRow W g (i * 8) (x8 (b, hd))).heap[g]?) (hb : isBytes V hd.1 hd.2.1 hd.2.2 b.l) : isR8s V (some ⟨g, 0, none⟩) n k (bx.set i b) := by
  have hln := h.len
  refine ⟨by rw [List.length_set]; exact h.len, h.cap, fun _ => ⟨g, 0, rfl, fun j hj => ?_⟩⟩
  have hj' : j < bx.length := by simpa using hj
  by_cases e : j = i
  · subst e
    rw [List.getElem_set_self]
    refine ⟨hd.1, hd.2.1, hd.2.2, ?_⟩
    rw [Nat.zero_add]
    refine x8_at8 (rangeAt.up ?_ hg) hb
    intro t u hu
    have ht : t < (x8 (b, hd)).length := (List.getElem?_eq_some_iff.mp hu).1
    have ht8 : t < 8 := by simpa [x8] using ht
    rw [setRow_at g _ _ _ t ht ((h.row (j * 8 + t) (by omega)).1)]
    rw [List.getElem?_eq_getElem ht] at hu
    exact hu
  · rw [List.getElem_set_ne (fun x => e x.symm)]
    refine ⟨(hs j).1, (hs j).2.1, (hs j).2.2, ?_⟩
    rw [Nat.zero_add]
    refine x8_at8 (rangeAt.up ?_ hg) ?_
    · intro t u hu
      have ht : t < 8 := by have := (List.getElem?_eq_some_iff.mp hu).1; simpa [x8] using this
      rw [setRow_other g _ _ _ _ (by simp [x8]; omega)]
      exact h.rng j hj' t u hu
    · obtain ⟨h1, h2⟩ := h.dat j hj'
      rcases h2 with ⟨e1, e2⟩ | ⟨b', e1, e2, e3, e4⟩
      · exact h1.none0 e2
      · rw [e1] at h1 ⊢
        exact h1.other (hV b' e4 e2 e3)
theorem spS.isSt {B T0 T1 T2 : Nat} {H : Ho} {s : Sl} {W : World} (h : spS B T0 T1 T2 H s W) : St B W (fun V => isHo V H s) := fun V hV => by
  obtain ⟨o1, o2, o3, o4⟩ := h.o
  obtain ⟨gf, e1, h1a, h1b, h1⟩ := h.f
  obtain ⟨gb, hs, e2, h2⟩ := h.x
  obtain ⟨gq, e3, h3⟩ := h.r
  obtain ⟨g4, e4, h4⟩ := h.q
  refine ⟨?_, ?_, ?_, ?_⟩
  · rw [e1]; exact h1.same (hV gf h1a (by omega))
  · rw [e2]; exact (h2.st fun x h1 h2 => hV x (by omega) (by omega)).is
  · rw [e3]; exact (h3.keep fun x h1 h2 => hV x (by omega) (by omega)).is
  · rw [e4]; exact (h4.keep fun x h1 h2 => hV x (by omega) h2).is
abbrev xHo (H : Ho) (bx : List R8) (st : Int) : Ho := { H with bx := bx, st := st }
theorem spS.put {B T0 T1 T2 gb : Nat} {H : Ho} {s : Sl} {W V : World} {hs : Nat → Hd} (h : spS B T0 T1 T2 H s W) (e2 : s.a2 = some ⟨gb, 0, none⟩) (hx : bxR T0 T1 gb s.n2 s.k2 H.bx hs W) (i : Nat) (hi : i < H.bx.length) (b : R8) (hd : Hd) (st : Int) (T : Nat) (hT : T2 ≤ T) (hq : ∃ g4, s.a4 = some ⟨g4, 0, none⟩ ∧ rowQ8 T2 T 46 g4 s.n4 s.k4 H.qu W) (hV : ∀ x, x ≠ gb → B ≤ x → x < T → V.heap[x]? = W.heap[x]?) (hg : V.heap[gb]? = (setRow W gb (i * 8) (x8 (b, hd))).heap[gb]?) (hb : isBytes V hd.1 hd.2.1 hd.2.2 b.l) : isHo V (xHo H (H.bx.set i b) st) s := by
  obtain ⟨o1, o2, o3, o4⟩ := h.o
  obtain ⟨gf, e1, h1a, h1b, h1⟩ := h.f
  obtain ⟨gq, e3, h3⟩ := h.r
  obtain ⟨g4, e4, h4⟩ := hq
  have hl := hx.lo
  have hh := hx.hi
  refine ⟨?_, ?_, ?_, ?_⟩
  · rw [e1]; exact h1.same (hV gf (by omega) (by omega) (by omega))
  · rw [e2]; exact hx.putIs i hi b hd (fun x h1 h2 h3 => hV x h1 (by omega) (by omega)) hg hb
  · rw [e3]; exact (h3.keep fun x h1 h2 => hV x (by omega) (by omega) (by omega)).is
  · rw [e4]; exact (h4.keep fun x h1 h2 => hV x (by omega) (by omega) h2).is
end Go.Proofs.YtaamahohdnbpiaaGreat
namespace Go.Proofs.YtaamahohdnbpiaaGreat
open Go.RowKit
set_option linter.unusedVariables false
theorem ring5.tail {w0 W : World} {g room first : Nat} {f : R5} {r : List R5} (h : ring5 w0 W g room first (f :: r)) : ring5 w0 W g room ((first + 1) % room) r := fun i hi => by
  obtain ⟨ao, m, c, h1, h2⟩ := h (i + 1) (by simpa using hi)
  refine ⟨ao, m, c, ?_, by simpa using h2⟩
  have e : ((first + 1) % room + i) % room = (first + (i + 1)) % room := by
    rw [Nat.mod_add_mod]
    congr 1
    omega
  rw [e]
  simpa using h1
theorem lh.fifo {w0 : World} {G : Lg} {H : Ho} {f1 f3 : Nat} {hs : Nat → Hd} {nm : Nat} {D : DataW Unit} {W : World} (h : lh w0 G H f1 f3 hs nm D W) {f : R5} {r : List R5} (hff : H.ff = f :: r) : lh w0 G { H with ff := r } ((f1 + 1) % G.r1) f3 hs nm D ((W.setCell ⟨G.P, 8, none⟩ (.int .i64 (((f1 + 1) % G.r1 : Nat) : Int))).setCell ⟨G.P, 9, none⟩ (.int .i64 (r.length : Int))) := by
  have dp := h.d.p
  have dl := h.d.lo
  have hb1 := h.bd.b1
  have hfl : H.ff.length = r.length + 1 := by rw [hff]; rfl
  have hsm := h.bd.s3
  have hrr := h.r
  rw [hff] at hrr
  have he : ∀ q, q ≠ G.P → ((W.setCell ⟨G.P, 8, none⟩ (.int .i64 (((f1 + 1) % G.r1 : Nat) : Int))).setCell ⟨G.P, 9, none⟩ (.int .i64 (r.length : Int))).heap[q]? = W.heap[q]? := fun q hq => (heap_setCell_other _ _ _ _ (by exact hq)).trans (heap_setCell_other _ _ _ _ (by exact hq))
  have hb : Below w0.heap.size w0 ((W.setCell ⟨G.P, 8, none⟩ (.int .i64 (((f1 + 1) % G.r1 : Nat) : Int))).setCell ⟨G.P, 9, none⟩ (.int .i64 (r.length : Int))) := (h.b.setCell (by exact dl.2.1) _).setCell (by exact dl.2.1) _
  have hz : W.heap.size ≤ ((W.setCell ⟨G.P, 8, none⟩ (.int .i64 (((f1 + 1) % G.r1 : Nat) : Int))).setCell ⟨G.P, 9, none⟩ (.int .i64 (r.length : Int))).heap.size := (((Below.refl 0 W).setCell (Nat.zero_le _) _).setCell (Nat.zero_le _) _).size
  refine ⟨(h.p.set 8 _).set 9 _, h.f.same (he _ dp.1), h.x.at0 (he _ dp.2.1) hb, hrr.tail.keep (he _ dp.2.2.1), h.rz.up (he _ dp.2.2.1), h.q.keep (he _ dp.2.2.2.1), h.qz.up (he _ dp.2.2.2.1), ?_, hb, ⟨Nat.lt_of_lt_of_le h.hi.1 hz, Nat.lt_of_lt_of_le h.hi.2.1 hz, Nat.lt_of_lt_of_le h.hi.2.2 hz⟩, h.d, ⟨h.bd.e1, h.bd.e3, h.bd.m1, h.bd.m2, h.bd.nk, ⟨Nat.mod_lt _ (by omega), hb1.2.1, by show r.length ≤ _; omega⟩, h.bd.b3, h.bd.lo, fun j hj => ?_, h.bd.s4⟩⟩
  · obtain ⟨es, clock, q1, q2⟩ := h.m
    exact ⟨es, clock, (he _ dp.2.2.2.2).trans q1, q2⟩
  · have hj' : j + 1 < H.ff.length := by rw [hfl]; have : j < r.length := hj; omega
    have e : r[j]'(hj) = H.ff[j + 1] := by simp [hff]
    show (r[j]'(hj)).l.length ≤ _
    rw [e]
    exact hsm (j + 1) hj'
theorem lh.setCell {w0 : World} {G : Lg} {H : Ho} {f1 f3 : Nat} {hs : Nat → Hd} {nm : Nat} {D : DataW Unit} {W : World} (h : lh w0 G H f1 f3 hs nm D W) {B x : Nat} (hB : lhU G B) (hx : B ≤ x) (o : Nat) (v : Value) : lh w0 G H f1 f3 hs nm D (W.setCell ⟨x, o, none⟩ v) := by
  have := h.put hB hx o [v]
  simpa [World.setCells] using this
theorem ring5.one {w0 W : World} {g room first : Nat} {f : R5} {r : List R5} (h : ring5 w0 W g room first (f :: r)) : ring5 w0 W g room first [f] := fun i hi => by
  have e : i = 0 := by simpa using hi
  subst e
  obtain ⟨ao, m, c, h1, h2⟩ := h 0 (by simp)
  exact ⟨ao, m, c, by simpa using h1, by simpa using h2⟩
theorem look_one {w0 w : World} {G : Lg} {H : Ho} {f1 f3 : Nat} {hs : Nat → Hd} {nm : Nat} {D : DataW Unit} (h : lh w0 G H f1 f3 hs nm D w) {f : R5} {r : List R5} (hff : H.ff = f :: r) :
    Calls Tryz.prog 161 #[.pointer (some ⟨G.P, 7, none⟩), .int .i64 1] w fun e w' => ∃ gx kx ao m c, e = .returned (.slice (some ⟨gx, 0, none⟩) 1 kx) ∧ (w.heap.size ≤ gx ∧ gx < w'.heap.size ∧ 1 ≤ kx ∧ w'.rangeAt gx 0 [.bool f.e, .int .u32 (f.i : Int), .bool f.r, .int .i64 f.d, .slice ao m c] ∧ isBytes w0 ao m c f.l) ∧ Below w.heap.size w w' := by
  have hr := h.r
  rw [hff] at hr
  have hb1 := h.bd.b1
  have hfl : H.ff.length = r.length + 1 := by rw [hff]; rfl
  refine (look5_of w0 w G.P 7 G.gr G.r1 f1 [f] H.ff.length 1 (by rw [hfl]; simp) (h.p.cell 7 _ rfl) (h.p.cell 8 _ rfl) (h.p.cell 9 _ rfl) hr.one hb1.1 ⟨by omega, hb1.2.1⟩ (by simp; omega)).mono ?_
  rintro e w' ⟨v, bs, rfl, hm, hby, ho, hb⟩
  have hl : bs.length = 1 := by
    have := congrArg List.length hm
    simpa using this
  obtain ⟨b, rfl⟩ := List.length_eq_one_iff.1 hl
  obtain ⟨⟨e, i, rr, d, l⟩, ao, m, c⟩ := b
  have hfe : (⟨e, i, rr, d, l⟩ : R5) = f := by simpa using hm
  subst hfe
  have hby0 := hby 0 (by simp)
  rcases ownsRow_split ho with ⟨ev, en⟩ | ⟨gx, kx, rfl, q1, q2, q3, q4, q5⟩
  · simp at en
  · exact ⟨gx, kx, ao, m, c, rfl, ⟨q1, q2, q3, q5, hby0⟩, hb⟩
set_option maxHeartbeats 4000000 in
set_option maxRecDepth 20000 in
theorem take5_one {w0 w : World} {G : Lg} {H : Ho} {f1 f3 : Nat} {hs : Nat → Hd} {nm : Nat} {D : DataW Unit} (h : lh w0 G H f1 f3 hs nm D w) {f : R5} {r : List R5} (hff : H.ff = f :: r) :
    Calls Tryz.prog 151 #[.pointer (some ⟨G.P, 7, none⟩), .int .i64 1] w fun e w' => ∃ gx kx ao m c, e = .returned (.slice (some ⟨gx, 0, none⟩) 1 kx) ∧ (w.heap.size ≤ gx ∧ gx < w'.heap.size ∧ 1 ≤ kx ∧ w'.rangeAt gx 0 [.bool f.e, .int .u32 (f.i : Int), .bool f.r, .int .i64 f.d, .slice ao m c] ∧ isBytes w0 ao m c f.l) ∧ lh w0 G { H with ff := r } ((f1 + 1) % G.r1) f3 hs nm D w' ∧ (∀ q, q ≠ G.P → q < w.heap.size → w'.heap[q]? = w.heap[q]?) ∧ w.heap.size ≤ w'.heap.size := by
  have HLK : Hid (Calls Tryz.prog 161 #[.pointer (some ⟨G.P, 7, none⟩), .int .i64 1] w fun e w' => ∃ gx kx ao m c, e = .returned (.slice (some ⟨gx, 0, none⟩) 1 kx) ∧ (w.heap.size ≤ gx ∧ gx < w'.heap.size ∧ 1 ≤ kx ∧ w'.rangeAt gx 0 [.bool f.e, .int .u32 (f.i : Int), .bool f.r, .int .i64 f.d, .slice ao m c] ∧ isBytes w0 ao m c f.l) ∧ Below w.heap.size w w') := look_one h hff
  have HL : Hid (lh w0 G H f1 f3 hs nm D w) := h
  have HFF : Hid (H.ff = f :: r) := hff
  have HPL : Hid (G.P < w.heap.size) := h.p.lt
  clear h hff
  go_enter Tryz.func151, Tryz.ntmps151
  go_wp2_with fail
  refine HLK.out.mono ?_
  rintro e w2 ⟨gx, kx, ao, m, c, rfl, hx, hb⟩
  have HL2 : Hid (lh w0 G H f1 f3 hs nm D w2) := HL.out.below hb
  have HX : Hid (w.heap.size ≤ gx ∧ gx < w2.heap.size ∧ 1 ≤ kx ∧ w2.rangeAt gx 0 [.bool f.e, .int .u32 (f.i : Int), .bool f.r, .int .i64 f.d, .slice ao m c] ∧ isBytes w0 ao m c f.l) := hx
  have HB : Hid (Below w.heap.size w w2) := hb
  have y7 := HL2.out.p.cell 7 _ rfl
  have y8 := HL2.out.p.cell 8 _ rfl
  have y9 : w2.cell? ⟨G.P, 9, none⟩ = some (.int .i64 ((r.length : Int) + 1)) := by
    have := HL2.out.p.cell 9 _ rfl
    rw [HFF.out] at this
    exact this
  have z8 := HL2.out.p.free 8
  have z9 := HL2.out.p.free 9
  have hb1 := HL2.out.bd.b1
  have hfl : H.ff.length = r.length + 1 := by rw [HFF.out]; rfl
  have hrl : r.length ≤ 1000 := by omega
  obtain ⟨Q, hQ⟩ : ∃ Q, (f1 + 1) % G.r1 = Q := ⟨_, rfl⟩
  have HQ : Hid ((f1 + 1) % G.r1 = Q) := hQ
  have hwk : IntKind.i64.wrap ((f1 : Int) + 1) = ((f1 + 1 : Nat) : Int) := by rw [IntKind.wrap_i64]; omega
  have hr0 : ¬ G.r1 = 0 := by omega
  have htm : ((f1 + 1 : Nat) : Int).tmod (G.r1 : Int) = (Q : Int) := by rw [← hQ]; exact (Int.ofNat_tmod _ _).symm
  have htm2 : ((f1 : Int) + 1).tmod (G.r1 : Int) = (Q : Int) := htm
  have hwr : IntKind.i64.wrap ((r.length : Int) + 1 - 1) = (r.length : Int) := by rw [IntKind.wrap_i64]; omega
  clear HLK HL hx hb hQ
  go_wp2_with fail
  refine wp_region_still_tail 16 (by kernel_rfl) (by kernel_rfl) ?_
  change wpStill Tryz.prog _ (World.drew w2) (fun a' => wpList Tryz.prog _ _ _ a' (World.drew w2)) _ _
  have hbd : Below w2.heap.size w2 (World.drew w2) := (Below.refl _ _).drew
  have HL2 : Hid (lh w0 G H f1 f3 hs nm D (World.drew w2)) := HL2.out.below hbd
  have HX : Hid (w.heap.size ≤ gx ∧ gx < (World.drew w2).heap.size ∧ 1 ≤ kx ∧ (World.drew w2).rangeAt gx 0 [.bool f.e, .int .u32 (f.i : Int), .bool f.r, .int .i64 f.d, .slice ao m c] ∧ isBytes w0 ao m c f.l) := HX.out
  have HB : Hid (Below w.heap.size w (World.drew w2)) := HB.out.drew
  have y7 : (World.drew w2).cell? ⟨G.P, 7, none⟩ = some (.slice (some ⟨G.gr, 0, none⟩) G.r1 G.r1) := y7
  have y8 : (World.drew w2).cell? ⟨G.P, 8, none⟩ = some (.int .i64 (f1 : Int)) := y8
  have y9 : (World.drew w2).cell? ⟨G.P, 9, none⟩ = some (.int .i64 ((r.length : Int) + 1)) := y9
  have z8 : (World.drew w2).frozen? ⟨G.P, 8, none⟩ = false := z8
  have z9 : (World.drew w2).frozen? ⟨G.P, 9, none⟩ = false := z9
  generalize World.drew w2 = w3 at *
  simp only [List.take_succ_cons, List.take_zero, List.drop_succ_cons, List.drop_zero]
  repeat still_step
  refine wpStill_nil ?_
  go_wp2_with fail
  go_ret
  have hfx := HL2.out.fifo HFF.out
  rw [HQ.out] at hfx
  refine ⟨gx, kx, ao, m, c, rfl, ⟨HX.out.1, ?_, HX.out.2.2.1, ?_, HX.out.2.2.2.2⟩, by rw [HQ.out]; exact hfx, fun q h1 h2 => ?_, ?_⟩
  · exact Nat.lt_of_lt_of_le HX.out.2.1 (((Below.refl 0 w3).setCell (Nat.zero_le _) _).setCell (Nat.zero_le _) _).size
  · exact rangeAt.up HX.out.2.2.2.1 ((heap_setCell_other _ _ _ _ (by show gx ≠ G.P; have := HX.out.1; have := HPL.out; omega)).trans (heap_setCell_other _ _ _ _ (by show gx ≠ G.P; have := HX.out.1; have := HPL.out; omega)))
  · exact ((heap_setCell_other _ _ _ _ (by exact h1)).trans (heap_setCell_other _ _ _ _ (by exact h1))).trans (HB.out.block q h2)
  · exact Nat.le_trans HB.out.size (((Below.refl 0 w3).setCell (Nat.zero_le _) _).setCell (Nat.zero_le _) _).size
end Go.Proofs.YtaamahohdnbpiaaGreat
namespace Go.Proofs.YtaamahohdnbpiaaGreat
open Go.RowKit
set_option linter.unusedVariables false
theorem whS.mono {B T B' T' : Nat} {W : World} {s : Wh} (h : whS B T W s) (hB : B' ≤ B) (hT : T ≤ T') : whS B' T' W s :=
  ⟨h.f, h.fc, ⟨by have := h.fb.1; omega, by have := h.fb.2; omega⟩, h.x, h.xb.mono hB hT, h.r, h.rb.mono hB hT, h.q, h.qb.mono hB hT, h.m1, h.m2, h.m3, h.m4⟩
theorem toldQ.put {w w3 w4 w8 : World} {H : Ho} {s4 : Wh} {R : Nat} (hz : w.heap.size ≤ w3.heap.size) (hR : R < w3.heap.size) (q1 : St w3.heap.size w4 (fun W => isHo W H s4.sl)) (q2 : whS w3.heap.size w4.heap.size w4 s4) (oth : ∀ x, x ≠ R → w8.heap[x]? = w4.heap[x]?) (hs : w8.heap.size = w4.heap.size) : St w.heap.size w8 (fun W => isHo W H s4.sl) ∧ whS w.heap.size w8.heap.size w8 s4 := by
  refine ⟨fun W hW => q1 W (fun x h1 h2 => (hW x (by omega) (by omega)).trans (oth x (by omega))), ?_⟩
  rw [hs]
  exact (q2.same (fun x h1 h2 => oth x (by omega))).mono hz (Nat.le_refl _)
theorem vOk (W : World) (H : Ho) (s : Sl) (h : isHo W H s) (hn : H.le 1048576) (hok : okHo H) : Calls Tryz.prog 60 #[.agg (hoL H s).toArray] W fun o w' => o = .returned (.bool true) ∧ Below W.heap.size W w' := (validHost_any W H s h hn).mono (by rintro o w' ⟨⟨b, rfl, hb⟩, h2⟩; rw [hb.2 hok]; exact ⟨rfl, h2⟩)
theorem vBad (W : World) (H : Ho) (s : Sl) (h : isHo W H s) (hn : H.le 1048576) (hok : ¬ okHo H) : Calls Tryz.prog 60 #[.agg (hoL H s).toArray] W fun o w' => o = .returned (.bool false) ∧ Below W.heap.size W w' := (validHost_any W H s h hn).mono (by rintro o w' ⟨⟨b, rfl, hb⟩, h2⟩; cases b; exact ⟨rfl, h2⟩; exact absurd (hb.1 rfl) hok)
end Go.Proofs.YtaamahohdnbpiaaGreat
namespace Go.Proofs.YtaamahohdnbpiaaGreat
open Go.RowKit
set_option linter.unusedVariables false
structure itS (w : World) (H : Ho) (s : Sl) (i : Int) (W : World) : Prop where
  p : blk W w.heap.size (hoL H s) 35
  x : blk W (w.heap.size + 1) [.int .i64 i] 3
  r : blk W (w.heap.size + 1 + 1) Z10 35
  b : Below w.heap.size w W
theorem itS.below {w : World} {H : Ho} {s : Sl} {i : Int} {W W' : World} (h : itS w H s i W) (hb : Below W.heap.size W W') : itS w H s i W' := ⟨h.p.below hb, h.x.below hb, h.r.below hb, h.b.trans (hb.mono h.b.size)⟩
theorem itS.new (w : World) (H : Ho) (s : Sl) (i : Int) : itS w H s i (((w.alloc (.cells (hoL H s).toArray 35)).alloc (.cells #[.int .i64 i] 3)).alloc (.cells [.int .i64 0, .int .i64 0, .int .i64 0, .int .i64 0, .slice none 0 0, .slice none 0 0, .slice none 0 0, .slice none 0 0, .int .i64 0, .int .i64 0].toArray 35)) := by
  refine ⟨((blk.new w _ 35).alloc _).alloc _, ?_, ?_, (((Below.refl _ _).alloc (Nat.le_refl _) _).alloc (by simp) _).alloc (by simp; omega) _⟩
  · have := (blk.new (w.alloc (.cells (hoL H s).toArray 35)) [.int .i64 i] 3).alloc (.cells [.int .i64 0, .int .i64 0, .int .i64 0, .int .i64 0, .slice none 0 0, .slice none 0 0, .slice none 0 0, .slice none 0 0, .int .i64 0, .int .i64 0].toArray 35)
    simpa using this
  · have := blk.new ((w.alloc (.cells (hoL H s).toArray 35)).alloc (.cells #[.int .i64 i] 3)) Z10 35
    have e : ((w.alloc (.cells (hoL H s).toArray 35)).alloc (.cells #[.int .i64 i] 3)).heap.size = w.heap.size + 1 + 1 := by simp
    rw [e] at this
    exact this
end Go.Proofs.YtaamahohdnbpiaaGreat
namespace Go.Proofs.YtaamahohdnbpiaaGreat
open Go.RowKit
set_option linter.unusedVariables false
theorem sz61h : (Tryz.prog.info? 61).map (·.size) = some 10 := by kernel_rfl
theorem sz61L (H : Ho) (s : Sl) : (Tryz.prog.info? 61).map (·.size) = some (hoL H s).length := sz61h
theorem szL (X : World) (H : Ho) (s : Sl) (h : isHo X H s) (hn : H.le 9223372036854775807) : Calls Tryz.prog 35 #[.agg (hoL H s).toArray, .int .i64 1048576] X fun o w' => ∃ z : Int, o = .returned (.int .i64 z) ∧ Below X.heap.size X w' ∧ (z = -1 ∨ ∃ m' : Nat, z = (m' : Int) ∧ H.le 1048576) := by
  have := szHost_any X H s h hn 1048576 (Nat.le_refl _)
  exact this
theorem eqL (X : World) (H : Ho) (s1 s2 : Sl) (h1 : isHo X H s1) (h2 : isHo X H s2) (hm : H.le 1048576) : Calls Tryz.prog 37 #[.agg (hoL H s1).toArray, .agg (hoL H s2).toArray] X fun o w' => o = .returned (.bool true) ∧ Below X.heap.size X w' := by
  rw [← hoV_L, ← hoV_L]
  exact eqHost_same X H s1 s2 h1 h2 hm
end Go.Proofs.YtaamahohdnbpiaaGreat
namespace Go.Proofs.YtaamahohdnbpiaaGreat
open Go.RowKit
set_option linter.unusedVariables false
def MKQ (B : Nat) (T : Ho) (sg : Sl) (w : World) : Prop := ∀ W, (∀ x, B ≤ x → x < w.heap.size → W.heap[x]? = w.heap[x]?) → w.heap.size ≤ W.heap.size → Calls Tryz.prog 39 #[.agg (hoL T sg).toArray, .int .i64 1] W fun o w1 => ∃ k : Nat, o = .returned (.int .i64 (k : Int)) ∧ Below B W w1 ∧ (∀ x, w.heap.size ≤ x → x < W.heap.size → w1.heap[x]? = W.heap[x]?) ∧ ∀ W2, Below w1.heap.size w1 W2 → Calls Tryz.prog 41 #[.agg (hoL T sg).toArray, .int .i64 1] W2 fun o w2 => o = .returned (.int .i64 (k : Int)) ∧ Below W2.heap.size W2 w2
theorem whS.mkq {B : Nat} {w : World} {s : Wh} {H : Ho} (h : whS B w.heap.size w s) (hd : whD s) (he : whE s) : MKQ B H s.sl w := by
  intro W hW hz
  have hs : whS B w.heap.size W s := h.same hW
  refine (markHost_gen B w.heap.size W H.c0 H.c1 H.c2 H.c3 H.lo H.st s 1 hs hd hz (by omega)).mono ?_
  rintro o w1 ⟨rfl, hm, hs1, ho, hb⟩
  refine ⟨s.c4 1, rfl, hb, fun x h1 h2 => ho x (Or.inr h1) h2, fun W2 hW2 => ?_⟩
  have hz1 : w.heap.size ≤ w1.heap.size := Nat.le_trans hz hb.size
  have hs2 : whS B w.heap.size W2 s := hs1.same fun x _ hx => hW2.block x (by omega)
  have hm2 : whM W2 s 1 := (hm he).same hs1 fun x _ hx => hW2.block x (by omega)
  exact heldHost_gen B w.heap.size W2 H.c0 H.c1 H.c2 H.c3 H.lo H.st s 1 hs2 hm2 (Nat.le_trans hz1 hW2.size) (by omega)
theorem zHo_mkq (B : Nat) (w : World) (hB : B ≤ w.heap.size) : MKQ B zHo zSl w := by
  intro W hW hz
  refine (markHost_nil W 0 0 0 0 0 0 1 (by omega)).mono ?_
  rintro o w1 ⟨rfl, hb⟩
  refine ⟨1, rfl, hb.mono (by omega), fun x _ h2 => hb.block x h2, fun W2 hW2 => ?_⟩
  refine (heldHost_nil W2 0 0 0 0 0 0 1 (by omega)).mono ?_
  rintro o w2 ⟨rfl, hb2⟩
  exact ⟨rfl, hb2⟩
theorem xMark2 {B T : Nat} {W : World} {sx : Wh} {H : Ho} (h : whS B T W sx) (hd : whD sx) (hT : T ≤ W.heap.size) : Calls Tryz.prog 39 #[.agg (hoL H sx.sl).toArray, .int .i64 1] W fun o w1 => ∃ k : Nat, o = .returned (.int .i64 (k : Int)) ∧ (∀ x, T ≤ x → x < W.heap.size → w1.heap[x]? = W.heap[x]?) ∧ Below B W w1 := by
  refine (markHost_gen B T W H.c0 H.c1 H.c2 H.c3 H.lo H.st sx 1 h hd hT (by omega)).mono ?_
  rintro o w1 ⟨rfl, _, _, q, hb⟩
  exact ⟨_, rfl, fun x h1 h2 => q x (Or.inr h1) h2, hb⟩
theorem toWh (X : World) (H : Ho) (s : Sl) (h : isHo X H s) (hm : H.le 1048576) : Calls Tryz.prog 36 #[.agg (hoL H s).toArray] X fun o w' => ∃ s' : Wh, o = .returned (.agg (hoL H s'.sl).toArray) ∧ St X.heap.size w' (fun W => isHo W H s'.sl) ∧ whS X.heap.size w'.heap.size w' s' ∧ whD s' ∧ slSome s'.sl ∧ Below X.heap.size X w' := by
  rw [← hoV_L]
  refine (toHost_iv X H s h hm).mono ?_
  rintro o w' ⟨s', rfl, h1, h2⟩
  have hs : slSome s' := by
    obtain ⟨g1, g2, _, _, _, _, _, e, _⟩ := h1.now.2.e
    rw [e]
    exact ⟨⟨g1, rfl⟩, ⟨g2, rfl⟩⟩
  obtain ⟨s2, rfl, h3, h4⟩ := h1.now.2.wh h1.now.1 hm
  exact ⟨s2, by rw [hoV_L], fun W hW => (h1 W hW).1, h3, h4, hs, h2⟩
end Go.Proofs.YtaamahohdnbpiaaGreat
