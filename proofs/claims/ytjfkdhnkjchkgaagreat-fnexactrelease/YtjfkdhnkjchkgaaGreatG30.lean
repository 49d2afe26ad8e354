import Derived.Test.YtjfkdhnkjchkgaaGreatG28
import Derived.Test.YtjfkdhnkjchkgaaGreatG24
import Derived.Test.YtjfkdhnkjchkgaaGreatG23
import Derived.Deep.RegionHeld3
import Derived.Test.YtjfkdhnkjchkgaaGreatG04
import Derived.Test.YtjfkdhnkjchkgaaGreatG29
import Derived.Test.YtjfkdhnkjchkgaaGreatG25
namespace Go.Proofs.YtjfkdhnkjchkgaaGreat
open Go.RowKit
set_option linter.unusedVariables false
theorem whS.mono {B T B' T' : Nat} {W : World} {s : Wh} (h : whS B T W s) (hB : B' ≤ B) (hT : T ≤ T') : whS B' T' W s :=
  ⟨h.f, h.fc, ⟨by have := h.fb.1; omega, by have := h.fb.2; omega⟩, h.x, h.xb.mono hB hT, h.r, h.rb.mono hB hT, h.q, h.qb.mono hB hT, h.m1, h.m2, h.m3, h.m4⟩
/-- told's answer, behind a store into another block -/
theorem toldQ.put {w w3 w4 w8 : World} {H : Ho} {s4 : Wh} {R : Nat} (hz : w.heap.size ≤ w3.heap.size) (hR : R < w3.heap.size) (q1 : St w3.heap.size w4 (fun W => isHo W H s4.sl)) (q2 : whS w3.heap.size w4.heap.size w4 s4) (oth : ∀ x, x ≠ R → w8.heap[x]? = w4.heap[x]?) (hs : w8.heap.size = w4.heap.size) : St w.heap.size w8 (fun W => isHo W H s4.sl) ∧ whS w.heap.size w8.heap.size w8 s4 := by
  refine ⟨fun W hW => q1 W (fun x h1 h2 => (hW x (by omega) (by omega)).trans (oth x (by omega))), ?_⟩
  rw [hs]
  exact (q2.same (fun x h1 h2 => oth x (by omega))).mono hz (Nat.le_refl _)
theorem vOk (W : World) (H : Ho) (s : Sl) (h : isHo W H s) (hn : H.le 1048576) (hok : okHo H) : Calls Tryz.prog 60 #[.agg (hoL H s).toArray] W fun o w' => o = .returned (.bool true) ∧ Below W.heap.size W w' := (validHost_any W H s h hn).mono (by rintro o w' ⟨⟨b, rfl, hb⟩, h2⟩; rw [hb.2 hok]; exact ⟨rfl, h2⟩)
theorem vBad (W : World) (H : Ho) (s : Sl) (h : isHo W H s) (hn : H.le 1048576) (hok : ¬ okHo H) : Calls Tryz.prog 60 #[.agg (hoL H s).toArray] W fun o w' => o = .returned (.bool false) ∧ Below W.heap.size W w' := (validHost_any W H s h hn).mono (by rintro o w' ⟨⟨b, rfl, hb⟩, h2⟩; cases b; exact ⟨rfl, h2⟩; exact absurd (hb.1 rfl) hok)
end Go.Proofs.YtjfkdhnkjchkgaaGreat
namespace Go.Proofs.YtjfkdhnkjchkgaaGreat
open Go.RowKit
set_option linter.unusedVariables false
structure itS (w : World) (H : Ho) (s : Sl) (i : Int) (W : World) : Prop where
  p : blk W w.heap.size (hoL H s) 35
  x : blk W (w.heap.size + 1) [.int .i64 i] 3
  r : blk W (w.heap.size + 1 + 1) Z10 35
  b : Below w.heap.size w W
theorem itS.below {w : World} {H : Ho} {s : Sl} {i : Int} {W W' : World} (h : itS w H s i W) (hb : Below W.heap.size W W') : itS w H s i W' := ⟨h.p.below hb, h.x.below hb, h.r.below hb, h.b.trans (hb.mono h.b.size)⟩
theorem itS.new (w : World) (H : Ho) (s : Sl) (i : Int) : itS w H s i (((w.alloc (.cells (hoL H s).toArray 35)).alloc (.cells #[.int .i64 i] 3)).alloc (.cells [.int .i64 0, .int .i64 0, .int .i64 0, .int .i64 0, .slice none 0 0, .slice none 0 0, .slice none 0 0, .slice none 0 0, .int .i64 0, .int .i64 0].toArray 35)) := by
  refine ⟨((blk.new w _ 35).alloc _).alloc _, ?_, ?_, (((Below.refl _ _).alloc (Nat.le_refl _) _).alloc (by simp) _).alloc (by simp; omega) _⟩
  · have := (blk.new (w.alloc (.cells (hoL H s).toArray 35)) [.int .i64 i] 3).alloc (.cells [.int .i64 0, .int .i64 0, .int .i64 0, .int .i64 0, .slice none 0 0, .slice none 0 0, .slice none 0 0, .slice none 0 0, .int .i64 0, .int .i64 0].toArray 35)
    simpa using this
  · have := blk.new ((w.alloc (.cells (hoL H s).toArray 35)).alloc (.cells #[.int .i64 i] 3)) Z10 35
    have e : ((w.alloc (.cells (hoL H s).toArray 35)).alloc (.cells #[.int .i64 i] 3)).heap.size = w.heap.size + 1 + 1 := by simp
    rw [e] at this
    exact this
end Go.Proofs.YtjfkdhnkjchkgaaGreat
namespace Go.Proofs.YtjfkdhnkjchkgaaGreat
open Go.RowKit
set_option linter.unusedVariables false
theorem sz61h : (Tryz.prog.info? 61).map (·.size) = some 10 := by kernel_rfl
theorem sz61L (H : Ho) (s : Sl) : (Tryz.prog.info? 61).map (·.size) = some (hoL H s).length := sz61h
theorem szL (X : World) (H : Ho) (s : Sl) (h : isHo X H s) (hn : H.le 9223372036854775807) : Calls Tryz.prog 35 #[.agg (hoL H s).toArray, .int .i64 1048576] X fun o w' => ∃ z : Int, o = .returned (.int .i64 z) ∧ Below X.heap.size X w' ∧ (z = -1 ∨ ∃ m' : Nat, z = (m' : Int) ∧ H.le 1048576) := by
  have := szHost_any X H s h hn 1048576 (Nat.le_refl _)
  exact this
theorem eqL (X : World) (H : Ho) (s1 s2 : Sl) (h1 : isHo X H s1) (h2 : isHo X H s2) (hm : H.le 1048576) : Calls Tryz.prog 37 #[.agg (hoL H s1).toArray, .agg (hoL H s2).toArray] X fun o w' => o = .returned (.bool true) ∧ Below X.heap.size X w' := by
  rw [← hoV_L, ← hoV_L]
  exact eqHost_same X H s1 s2 h1 h2 hm
end Go.Proofs.YtjfkdhnkjchkgaaGreat
namespace Go.Proofs.YtjfkdhnkjchkgaaGreat
open Go.RowKit
set_option linter.unusedVariables false
/-- the host's memory is its own: what is marked in it is held -/
def MKQ (B : Nat) (T : Ho) (sg : Sl) (w : World) : Prop := ∀ W, (∀ x, B ≤ x → x < w.heap.size → W.heap[x]? = w.heap[x]?) → w.heap.size ≤ W.heap.size → Calls Tryz.prog 39 #[.agg (hoL T sg).toArray, .int .i64 1] W fun o w1 => ∃ k : Nat, o = .returned (.int .i64 (k : Int)) ∧ Below B W w1 ∧ (∀ x, w.heap.size ≤ x → x < W.heap.size → w1.heap[x]? = W.heap[x]?) ∧ ∀ W2, Below w1.heap.size w1 W2 → Calls Tryz.prog 41 #[.agg (hoL T sg).toArray, .int .i64 1] W2 fun o w2 => o = .returned (.int .i64 (k : Int)) ∧ Below W2.heap.size W2 w2
theorem whS.mkq {B : Nat} {w : World} {s : Wh} {H : Ho} (h : whS B w.heap.size w s) (hd : whD s) (he : whE s) : MKQ B H s.sl w := by
  intro W hW hz
  have hs : whS B w.heap.size W s := h.same hW
  refine (markHost_gen B w.heap.size W H.c0 H.c1 H.c2 H.c3 H.lo H.st s 1 hs hd hz (by omega)).mono ?_
  rintro o w1 ⟨rfl, hm, hs1, ho, hb⟩
  refine ⟨s.c4 1, rfl, hb, fun x h1 h2 => ho x (Or.inr h1) h2, fun W2 hW2 => ?_⟩
  have hz1 : w.heap.size ≤ w1.heap.size := Nat.le_trans hz hb.size
  have hs2 : whS B w.heap.size W2 s := hs1.same fun x _ hx => hW2.block x (by omega)
  have hm2 : whM W2 s 1 := (hm he).same hs1 fun x _ hx => hW2.block x (by omega)
  exact heldHost_gen B w.heap.size W2 H.c0 H.c1 H.c2 H.c3 H.lo H.st s 1 hs2 hm2 (Nat.le_trans hz1 hW2.size) (by omega)
theorem zHo_mkq (B : Nat) (w : World) (hB : B ≤ w.heap.size) : MKQ B zHo zSl w := by
  intro W hW hz
  refine (markHost_nil W 0 0 0 0 0 0 1 (by omega)).mono ?_
  rintro o w1 ⟨rfl, hb⟩
  refine ⟨1, rfl, hb.mono (by omega), fun x _ h2 => hb.block x h2, fun W2 hW2 => ?_⟩
  refine (heldHost_nil W2 0 0 0 0 0 0 1 (by omega)).mono ?_
  rintro o w2 ⟨rfl, hb2⟩
  exact ⟨rfl, hb2⟩
/-- the copy of the argument, marked -/
theorem xMark2 {B T : Nat} {W : World} {sx : Wh} {H : Ho} (h : whS B T W sx) (hd : whD sx) (hT : T ≤ W.heap.size) : Calls Tryz.prog 39 #[.agg (hoL H sx.sl).toArray, .int .i64 1] W fun o w1 => ∃ k : Nat, o = .returned (.int .i64 (k : Int)) ∧ (∀ x, T ≤ x → x < W.heap.size → w1.heap[x]? = W.heap[x]?) ∧ Below B W w1 := by
  refine (markHost_gen B T W H.c0 H.c1 H.c2 H.c3 H.lo H.st sx 1 h hd hT (by omega)).mono ?_
  rintro o w1 ⟨rfl, _, _, q, hb⟩
  exact ⟨_, rfl, fun x h1 h2 => q x (Or.inr h1) h2, hb⟩
theorem toWh (X : World) (H : Ho) (s : Sl) (h : isHo X H s) (hm : H.le 1048576) : Calls Tryz.prog 36 #[.agg (hoL H s).toArray] X fun o w' => ∃ s' : Wh, o = .returned (.agg (hoL H s'.sl).toArray) ∧ St X.heap.size w' (fun W => isHo W H s'.sl) ∧ whS X.heap.size w'.heap.size w' s' ∧ whD s' ∧ slSome s'.sl ∧ Below X.heap.size X w' := by
  rw [← hoV_L]
  refine (toHost_iv X H s h hm).mono ?_
  rintro o w' ⟨s', rfl, h1, h2⟩
  have hs : slSome s' := by
    obtain ⟨g1, g2, _, _, _, _, _, e, _⟩ := h1.now.2.e
    rw [e]
    exact ⟨⟨g1, rfl⟩, ⟨g2, rfl⟩⟩
  obtain ⟨s2, rfl, h3, h4⟩ := h1.now.2.wh h1.now.1 hm
  exact ⟨s2, by rw [hoV_L], fun W hW => (h1 W hW).1, h3, h4, hs, h2⟩
end Go.Proofs.YtjfkdhnkjchkgaaGreat
namespace Go.Proofs.YtjfkdhnkjchkgaaGreat
open Go.RowKit
set_option linter.unusedVariables false
/-- the law's variables: the argument, spec's answer -/
structure lwS (w : World) (H : Ho) (s : Sl) (T : Ho) (bw : Nat) (sw : Sl) (W : World) : Prop where
  p : blk W w.heap.size (hoL H s) 61
  q : blk W bw (hoL T sw) 35
  t : isHo W T sw
  h : isHo W H s
  b : Below w.heap.size w W
theorem lwS.below {w : World} {H : Ho} {s : Sl} {T : Ho} {bw : Nat} {sw : Sl} {W W' : World} (h : lwS w H s T bw sw W) (hb : Below W.heap.size W W') : lwS w H s T bw sw W' := ⟨h.p.below hb, h.q.below hb, h.t.below hb, h.h.below hb, h.b.trans (hb.mono h.b.size)⟩
/-- and the copy x0 of the argument, its memory from w4's end on and below T5 -/
structure lwX (w : World) (H : Ho) (s : Sl) (T : Ho) (bw : Nat) (sw : Sl) (w4 : World) (T5 bx : Nat) (sx : Wh) (W : World) : Prop where
  l : lwS w H s T bw sw W
  x : blk W bx (hoL H sx.sl) 35
  xh : isHo W H sx.sl
  xw : whS w4.heap.size T5 W sx
  z : bw < w4.heap.size ∧ w.heap.size < w4.heap.size ∧ w4.heap.size ≤ T5 ∧ T5 ≤ bx
  b4 : Below w4.heap.size w4 W
theorem lwX.below {w : World} {H : Ho} {s : Sl} {T : Ho} {bw : Nat} {sw : Sl} {w4 : World} {T5 bx : Nat} {sx : Wh} {W W' : World} (h : lwX w H s T bw sw w4 T5 bx sx W) (hb : Below W.heap.size W W') : lwX w H s T bw sw w4 T5 bx sx W' := ⟨h.l.below hb, h.x.below hb, h.xh.below hb, h.xw.same (fun x _ hx => hb.block x (by have := h.x.lt; have := h.z; omega)), h.z, h.b4.trans (hb.mono h.b4.size)⟩
/-- and the answer g0, its memory from B6 on and below w7's end -/
structure lwG (w : World) (H : Ho) (s : Sl) (T : Ho) (bw : Nat) (sw : Sl) (w4 : World) (bx B6 : Nat) (w7 : World) (bg : Nat) (sg : Sl) (W : World) : Prop where
  l : lwS w H s T bw sw W
  g : blk W bg (hoL T sg) 35
  k : ∀ x, B6 ≤ x → x < w7.heap.size → W.heap[x]? = w7.heap[x]?
  z : bx < B6 ∧ B6 ≤ w7.heap.size ∧ w7.heap.size ≤ bg
  y : bw < w4.heap.size ∧ w.heap.size < w4.heap.size ∧ w4.heap.size ≤ bx
  b4 : Below w4.heap.size w4 W
theorem lwG.below {w : World} {H : Ho} {s : Sl} {T : Ho} {bw : Nat} {sw : Sl} {w4 : World} {bx B6 : Nat} {w7 : World} {bg : Nat} {sg : Sl} {W W' : World} (h : lwG w H s T bw sw w4 bx B6 w7 bg sg W) (hb : Below W.heap.size W W') : lwG w H s T bw sw w4 bx B6 w7 bg sg W' := ⟨h.l.below hb, h.g.below hb, fun x h1 h2 => (hb.block x (by have := h.g.lt; have := h.z; omega)).trans (h.k x h1 h2), h.z, h.y, h.b4.trans (hb.mono h.b4.size)⟩
/-- behind the mark of x0 -/
theorem lwG.xmark {w : World} {H : Ho} {s : Sl} {T : Ho} {bw : Nat} {sw : Sl} {w4 : World} {bx B6 : Nat} {w7 : World} {bg : Nat} {sg : Sl} {W W' : World} (h : lwG w H s T bw sw w4 bx B6 w7 bg sg W) (h4 : isHo w4 T sw ∧ isHo w4 H s) (hb : Below w4.heap.size W W') (ho : ∀ x, bx ≤ x → x < W.heap.size → W'.heap[x]? = W.heap[x]?) : lwG w H s T bw sw w4 bx B6 w7 bg sg W' := by
  have hb4 := h.b4.trans hb
  refine ⟨⟨h.l.p.kept (hb.block _ h.y.2.1), h.l.q.kept (hb.block _ h.y.1), h4.1.below hb4, h4.2.below hb4, h.l.b.trans (hb.mono (by have := h.y; omega))⟩, h.g.kept (ho _ (by have := h.z; omega) h.g.lt), fun x h1 h2 => (ho x (by have := h.z; omega) (by have := h.g.lt; have := h.z; omega)).trans (h.k x h1 h2), h.z, h.y, hb4⟩
/-- behind the mark of g0: what is left -/
theorem lwG.gmark {w : World} {H : Ho} {s : Sl} {T : Ho} {bw : Nat} {sw : Sl} {w4 : World} {bx B6 : Nat} {w7 : World} {bg : Nat} {sg : Sl} {W W' : World} (h : lwG w H s T bw sw w4 bx B6 w7 bg sg W) (h4 : isHo w4 T sw ∧ isHo w4 H s) (hb : Below B6 W W') : lwS w H s T bw sw W' := by
  have hz := h.z
  have hy := h.y
  have hb4 := h.b4.trans (hb.mono (by omega))
  exact ⟨h.l.p.kept (hb.block _ (by omega)), h.l.q.kept (hb.block _ (by omega)), h4.1.below hb4, h4.2.below hb4, h.l.b.trans (hb.mono (by omega))⟩
/-- a new variable for a host -/
theorem new_hostS {w : World} (l : List Value) (hl : l.length = 10) : blk (World.setCells (w.alloc (.cells [.int .i64 0, .int .i64 0, .int .i64 0, .int .i64 0, .slice none 0 0, .slice none 0 0, .slice none 0 0, .slice none 0 0, .int .i64 0, .int .i64 0].toArray 35)) w.heap.size 0 l) w.heap.size l 35 ∧ Below w.heap.size w (World.setCells (w.alloc (.cells [.int .i64 0, .int .i64 0, .int .i64 0, .int .i64 0, .slice none 0 0, .slice none 0 0, .slice none 0 0, .slice none 0 0, .int .i64 0, .int .i64 0].toArray 35)) w.heap.size 0 l) := by
  refine ⟨?_, setCells_below (Nat.le_refl _) 0 l ((Below.refl _ _).alloc (Nat.le_refl _) _)⟩
  have := blk.put [] [.int .i64 0, .int .i64 0, .int .i64 0, .int .i64 0, .slice none 0 0, .slice none 0 0, .slice none 0 0, .slice none 0 0, .int .i64 0, .int .i64 0] [] l (w := w.alloc (.cells [.int .i64 0, .int .i64 0, .int .i64 0, .int .i64 0, .slice none 0 0, .slice none 0 0, .slice none 0 0, .slice none 0 0, .int .i64 0, .int .i64 0].toArray 35)) (b := w.heap.size) (T := 35) (by simpa using blk.new w _ 35) (by rw [hl]; rfl)
  simpa using this
theorem eqT (X : World) (T : Ho) (s1 s2 : Sl) (h1 : isHo X T s1) (h2 : isHo X T s2) (hm : T.le 1048576) : Calls Tryz.prog 37 #[.agg (hoL T s1).toArray, .agg (hoL T s2).toArray] X fun o w' => o = .returned (.bool true) ∧ Below X.heap.size X w' := eqL X T s1 s2 h1 h2 hm
end Go.Proofs.YtjfkdhnkjchkgaaGreat
namespace Go.Proofs.YtjfkdhnkjchkgaaGreat
open Go.RowKit
set_option linter.unusedVariables false
theorem Ho.le.post {H : Ho} {ev : R8} (h : H.le 1048576) (hq : H.qu.length ≤ 1000) (hl : ev.l.length ≤ 1048576) : (postHo H ev).le 1048576 := by
  refine ⟨h.fs, h.bx, h.ff, ?_, h.bd, h.fd, quP_small h.qd hl⟩
  show (quP H.c3 H.qu ev).length ≤ _
  unfold quP
  split
  · rw [List.length_append, List.length_singleton]
    omega
  · exact h.qu
theorem Ho.le.set {H : Ho} (h : H.le 1048576) (k : Nat) (b : R8) (hb : b.l.length ≤ 1048576) : Ho.le { H with bx := H.bx.set k b } 1048576 := by
  refine ⟨h.fs, by show (H.bx.set k b).length ≤ _; rw [List.length_set]; exact h.bx, h.ff, h.qu, fun j hj => ?_, h.fd, h.qd⟩
  have hj' : j < H.bx.length := by simpa using hj
  show (H.bx.set k b)[j].l.length ≤ _
  by_cases e : j = k
  · subst e
    rw [List.getElem_set_self]
    exact hb
  · rw [List.getElem_set_ne (fun x => e x.symm)]
    exact h.bd j hj'
theorem Ho.le.free {H : Ho} (h : H.le 1048576) (k : Nat) : (freeHo H k).le 1048576 := h.set k z8 (Nat.zero_le _)
theorem Ho.le.state {H : Ho} (h : H.le 1048576) (k : Nat) (v : Int) : (stHo H k v).le 1048576 := by
  unfold stHo
  split
  · rename_i hk
    exact h.set k _ (h.bd k hk)
  · exact h
theorem relHo_le {H : Ho} {sent : Bool} (h : H.le 1048576) (hq : H.qu.length ≤ 1000) : (relHo H sent).le 1048576 := by
  unfold relHo
  split
  · rename_i hk
    split
    · exact Ho.le.post (h.free _) hq (h.bd _ hk)
    · split
      · exact Ho.le.post (h.free _) hq (Nat.zero_le _)
      · exact h.state _ _
  · exact h
theorem okR_le {H R T : Ho} (hR : okRel H R T) (h : okHo H → R.le 1048576) : T.le 1048576 := by
  by_cases hok : okHo H
  · rw [hR.yes hok]
    exact h hok
  · rw [hR.no hok]
    exact ⟨by decide, by decide, by decide, by decide, fun j hj => (by cases hj), fun j hj => (by cases hj), fun j hj => (by cases hj)⟩
theorem relR_le {H T : Ho} {sent : Bool} (hR : okRel H (relHo H sent) T) (h : H.le 1048576) : T.le 1048576 := okR_le hR fun hok => relHo_le h hok.n4
end Go.Proofs.YtjfkdhnkjchkgaaGreat
