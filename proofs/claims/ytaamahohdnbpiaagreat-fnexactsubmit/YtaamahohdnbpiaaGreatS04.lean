import Derived.Test.YtaamahohdnbpiaaGreatS03
import Derived.Deep.RegionHeld3
namespace Go.Proofs.YtaamahohdnbpiaaGreat
open Go.RowKit
set_option linter.unusedVariables false
/-- the law's variables: the argument, spec's answer -/
structure lwS (w : World) (H : Ho) (s : Sl) (T : Ho) (bw : Nat) (sw : Sl) (W : World) : Prop where
  p : blk W w.heap.size (hoL H s) 61
  q : blk W bw (hoL T sw) 35
  t : isHo W T sw
  h : isHo W H s
  b : Below w.heap.size w W
theorem lwS.below {w : World} {H : Ho} {s : Sl} {T : Ho} {bw : Nat} {sw : Sl} {W W' : World} (h : lwS w H s T bw sw W) (hb : Below W.heap.size W W') : lwS w H s T bw sw W' := ⟨h.p.below hb, h.q.below hb, h.t.below hb, h.h.below hb, h.b.trans (hb.mono h.b.size)⟩
/-- and the copy x0 of the argument, its memory from w4's end on and below T5 -/
structure lwX (w : World) (H : Ho) (s : Sl) (T : Ho) (bw : Nat) (sw : Sl) (w4 : World) (T5 bx : Nat) (sx : Wh) (W : World) : Prop where
  l : lwS w H s T bw sw W
  x : blk W bx (hoL H sx.sl) 35
  xh : isHo W H sx.sl
  xw : whS w4.heap.size T5 W sx
  z : bw < w4.heap.size ∧ w.heap.size < w4.heap.size ∧ w4.heap.size ≤ T5 ∧ T5 ≤ bx
  b4 : Below w4.heap.size w4 W
theorem lwX.below {w : World} {H : Ho} {s : Sl} {T : Ho} {bw : Nat} {sw : Sl} {w4 : World} {T5 bx : Nat} {sx : Wh} {W W' : World} (h : lwX w H s T bw sw w4 T5 bx sx W) (hb : Below W.heap.size W W') : lwX w H s T bw sw w4 T5 bx sx W' := ⟨h.l.below hb, h.x.below hb, h.xh.below hb, h.xw.same (fun x _ hx => hb.block x (by have := h.x.lt; have := h.z; omega)), h.z, h.b4.trans (hb.mono h.b4.size)⟩
/-- and the answer g0, its memory from B6 on and below w7's end -/
structure lwG (w : World) (H : Ho) (s : Sl) (T : Ho) (bw : Nat) (sw : Sl) (w4 : World) (bx B6 : Nat) (w7 : World) (bg : Nat) (sg : Sl) (W : World) : Prop where
  l : lwS w H s T bw sw W
  g : blk W bg (hoL T sg) 35
  k : ∀ x, B6 ≤ x → x < w7.heap.size → W.heap[x]? = w7.heap[x]?
  z : bx < B6 ∧ B6 ≤ w7.heap.size ∧ w7.heap.size ≤ bg
  y : bw < w4.heap.size ∧ w.heap.size < w4.heap.size ∧ w4.heap.size ≤ bx
  b4 : Below w4.heap.size w4 W
theorem lwG.below {w : World} {H : Ho} {s : Sl} {T : Ho} {bw : Nat} {sw : Sl} {w4 : World} {bx B6 : Nat} {w7 : World} {bg : Nat} {sg : Sl} {W W' : World} (h : lwG w H s T bw sw w4 bx B6 w7 bg sg W) (hb : Below W.heap.size W W') : lwG w H s T bw sw w4 bx B6 w7 bg sg W' := ⟨h.l.below hb, h.g.below hb, fun x h1 h2 => (hb.block x (by have := h.g.lt; have := h.z; omega)).trans (h.k x h1 h2), h.z, h.y, h.b4.trans (hb.mono h.b4.size)⟩
/-- behind the mark of x0 -/
theorem lwG.xmark {w : World} {H : Ho} {s : Sl} {T : Ho} {bw : Nat} {sw : Sl} {w4 : World} {bx B6 : Nat} {w7 : World} {bg : Nat} {sg : Sl} {W W' : World} (h : lwG w H s T bw sw w4 bx B6 w7 bg sg W) (h4 : isHo w4 T sw ∧ isHo w4 H s) (hb : Below w4.heap.size W W') (ho : ∀ x, bx ≤ x → x < W.heap.size → W'.heap[x]? = W.heap[x]?) : lwG w H s T bw sw w4 bx B6 w7 bg sg W' := by
  have hb4 := h.b4.trans hb
  refine ⟨⟨h.l.p.kept (hb.block _ h.y.2.1), h.l.q.kept (hb.block _ h.y.1), h4.1.below hb4, h4.2.below hb4, h.l.b.trans (hb.mono (by have := h.y; omega))⟩, h.g.kept (ho _ (by have := h.z; omega) h.g.lt), fun x h1 h2 => (ho x (by have := h.z; omega) (by have := h.g.lt; have := h.z; omega)).trans (h.k x h1 h2), h.z, h.y, hb4⟩
/-- behind the mark of g0: what is left -/
theorem lwG.gmark {w : World} {H : Ho} {s : Sl} {T : Ho} {bw : Nat} {sw : Sl} {w4 : World} {bx B6 : Nat} {w7 : World} {bg : Nat} {sg : Sl} {W W' : World} (h : lwG w H s T bw sw w4 bx B6 w7 bg sg W) (h4 : isHo w4 T sw ∧ isHo w4 H s) (hb : Below B6 W W') : lwS w H s T bw sw W' := by
  have hz := h.z
  have hy := h.y
  have hb4 := h.b4.trans (hb.mono (by omega))
  exact ⟨h.l.p.kept (hb.block _ (by omega)), h.l.q.kept (hb.block _ (by omega)), h4.1.below hb4, h4.2.below hb4, h.l.b.trans (hb.mono (by omega))⟩
/-- a new variable for a host -/
theorem new_hostS {w : World} (l : List Value) (hl : l.length = 10) : blk (World.setCells (w.alloc (.cells [.int .i64 0, .int .i64 0, .int .i64 0, .int .i64 0, .slice none 0 0, .slice none 0 0, .slice none 0 0, .slice none 0 0, .int .i64 0, .int .i64 0].toArray 35)) w.heap.size 0 l) w.heap.size l 35 ∧ Below w.heap.size w (World.setCells (w.alloc (.cells [.int .i64 0, .int .i64 0, .int .i64 0, .int .i64 0, .slice none 0 0, .slice none 0 0, .slice none 0 0, .slice none 0 0, .int .i64 0, .int .i64 0].toArray 35)) w.heap.size 0 l) := by
  refine ⟨?_, setCells_below (Nat.le_refl _) 0 l ((Below.refl _ _).alloc (Nat.le_refl _) _)⟩
  have := blk.put [] [.int .i64 0, .int .i64 0, .int .i64 0, .int .i64 0, .slice none 0 0, .slice none 0 0, .slice none 0 0, .slice none 0 0, .int .i64 0, .int .i64 0] [] l (w := w.alloc (.cells [.int .i64 0, .int .i64 0, .int .i64 0, .int .i64 0, .slice none 0 0, .slice none 0 0, .slice none 0 0, .slice none 0 0, .int .i64 0, .int .i64 0].toArray 35)) (b := w.heap.size) (T := 35) (by simpa using blk.new w _ 35) (by rw [hl]; rfl)
  simpa using this
theorem eqT (X : World) (T : Ho) (s1 s2 : Sl) (h1 : isHo X T s1) (h2 : isHo X T s2) (hm : T.le 1048576) : Calls Tryz.prog 37 #[.agg (hoL T s1).toArray, .agg (hoL T s2).toArray] X fun o w' => o = .returned (.bool true) ∧ Below X.heap.size X w' := eqL X T s1 s2 h1 h2 hm
end Go.Proofs.YtaamahohdnbpiaaGreat
namespace Go.Proofs.YtaamahohdnbpiaaGreat
open Go.RowKit
set_option linter.unusedVariables false
set_option maxHeartbeats 4000000 in
set_option maxRecDepth 20000 in
theorem szHost_le (w : World) (H : Ho) (s : Sl) (h : isHo w H s) (hn : H.le 9223372036854775807) (m : Nat) (hm : m ≤ 1048576) :
    Calls Tryz.prog 35 #[hoV H s, .int .i64 (m : Int)] w fun o w' => ∃ z : Int, o = .returned (.int .i64 z) ∧ Below w.heap.size w w' ∧ (z = -1 ∨ ∃ m' : Nat, z = (m' : Int) ∧ m' ≤ m ∧ H.le m) := by
  have HH : Hid (isHo w H s) := h
  have HN : Hid (H.le 9223372036854775807) := hn
  clear h hn
  obtain ⟨c0, c1, c2, c3, fs, bx, ff, qu, lo, st⟩ := H
  obtain ⟨a1, n1, k1, a2, n2, k2, a3, n3, k3, a4, n4, k4⟩ := s
  have hA : Below w.heap.size w (w.alloc (.cells #[.int .i64 c0, .int .i64 c1, .int .i64 c2, .int .i64 c3, .slice a1 n1 k1, .slice a2 n2 k2, .slice a3 n3 k3, .slice a4 n4 k4, .int .i64 lo, .int .i64 st] 61)) := (Below.refl _ _).alloc (Nat.le_refl _) _
  have HA : Hid (Below w.heap.size w (w.alloc (.cells #[.int .i64 c0, .int .i64 c1, .int .i64 c2, .int .i64 c3, .slice a1 n1 k1, .slice a2 n2 k2, .slice a3 n3 k3, .slice a4 n4 k4, .int .i64 lo, .int .i64 st] 61))) := hA
  clear hA
  by_cases h1 : (n1 : Int) ≤ (m : Int)
  · have H1 : Hid (∀ W, Calls Tryz.prog 82 #[.slice a1 n1 k1, .int .i64 (m : Int)] W fun o w' => o = .returned (.int .i64 ((m : Int) - (n1 : Int))) ∧ W = w') := by
      intro W
      have hl : n1 = fs.length := HH.out.fs.len
      have hb : fs.length ≤ 9223372036854775807 := HN.out.fs
      have := szFilterS_any W a1 n1 k1 m (by omega) hm
      rw [if_pos h1] at this
      exact this
    have e1 : ¬ (m : Int) - (n1 : Int) < 0 := by omega
    have ed : (m : Int) - (n1 : Int) = ((m - n1 : Nat) : Int) := by omega
    have hmm : m - n1 ≤ 1048576 := by omega
    have hmle : m - n1 ≤ m := by omega
    rw [ed] at H1 e1
    clear ed
    generalize hmx : m - n1 = mx at *
    clear hmx
    go_enter Tryz.func35, Tryz.ntmps35
    go_wp2_with (first | (go_at_call 82; refine (H1.out _).mono ?_; rintro o w1 ⟨rfl, rfl⟩))
    refine (cszBox HA.out (by simp) HH.out.bx mx hmm HN.out.bx HN.out.bd).mono ?_
    rintro o w2 ⟨z2, rfl, B2, Z2, cp2, h2⟩
    have HB2 : Hid (Below w.heap.size w w2) := B2
    have HZ2 : Hid (w.heap.size + 1 ≤ w2.heap.size) := Z2
    clear B2 Z2
    rcases h2 with rfl | ⟨m2, rfl, l2, q2, d2⟩
    · go_wp2_with fail
      go_ret
      exact ⟨_, rfl, HB2.out, .inl rfl⟩
    · have HD2 : Hid (bx.length ≤ mx ∧ ∀ j (h : j < bx.length), bx[j].l.length ≤ mx) := ⟨q2, d2⟩
      clear q2 d2
      go_wp2_with fail
      refine (cszFrame HB2.out HZ2.out HH.out.ff m2 (by omega) HN.out.ff HN.out.fd).mono ?_
      rintro o w3 ⟨z3, rfl, B3, Z3, cp3, h3⟩
      have HB3 : Hid (Below w.heap.size w w3) := B3
      have HZ3 : Hid (w.heap.size + 1 ≤ w3.heap.size) := Z3
      clear B3 Z3
      rcases h3 with rfl | ⟨m3, rfl, l3, q3, d3⟩
      · go_wp2_with fail
        go_ret
        exact ⟨_, rfl, HB3.out, .inl rfl⟩
      · have HD3 : Hid (ff.length ≤ m2 ∧ ∀ j (h : j < ff.length), ff[j].l.length ≤ m2) := ⟨q3, d3⟩
        clear q3 d3
        go_wp2_with fail
        refine (cszEvent HB3.out HZ3.out HH.out.qu m3 (by omega) HN.out.qu HN.out.qd).mono ?_
        rintro o w4 ⟨z4, rfl, B4, Z4, cp4, h4⟩
        have HB4 : Hid (Below w.heap.size w w4) := B4
        clear B4 Z4
        rcases h4 with rfl | ⟨m4, rfl, l4, q4, d4⟩
        · go_wp2_with fail
          go_ret
          exact ⟨_, rfl, HB4.out, .inl rfl⟩
        · have HD4 : Hid (qu.length ≤ m3 ∧ ∀ j (h : j < qu.length), qu[j].l.length ≤ m3) := ⟨q4, d4⟩
          clear q4 d4
          go_wp2_with fail
          go_ret
          refine ⟨_, rfl, HB4.out, .inr ⟨m4, rfl, by omega, ?_⟩⟩
          have hl : n1 = fs.length := HH.out.fs.len
          obtain ⟨x2, y2⟩ := HD2.out
          obtain ⟨x3, y3⟩ := HD3.out
          obtain ⟨x4, y4⟩ := HD4.out
          exact ⟨by show fs.length ≤ m; omega, Nat.le_trans x2 hmle, by show ff.length ≤ m; omega, by show qu.length ≤ m; omega, fun j hj => Nat.le_trans (y2 j hj) hmle, fun j hj => Nat.le_trans (y3 j hj) (by omega), fun j hj => Nat.le_trans (y4 j hj) (by omega)⟩
  · have H1 : Hid (∀ W, Calls Tryz.prog 82 #[.slice a1 n1 k1, .int .i64 (m : Int)] W fun o w' => o = .returned (.int .i64 (-1)) ∧ W = w') := by
      intro W
      have hl : n1 = fs.length := HH.out.fs.len
      have hb : fs.length ≤ 9223372036854775807 := HN.out.fs
      have := szFilterS_any W a1 n1 k1 m (by omega) hm
      rw [if_neg h1] at this
      exact this
    go_enter Tryz.func35, Tryz.ntmps35
    go_wp2_with (first | (go_at_call 82; refine (H1.out _).mono ?_; rintro o w1 ⟨rfl, rfl⟩))
    go_ret
    exact ⟨_, rfl, HA.out, .inl rfl⟩

theorem szL2 (X : World) (H : Ho) (s : Sl) (h : isHo X H s) (hn : H.le 9223372036854775807) : Calls Tryz.prog 35 #[.agg (hoL H s).toArray, .int .i64 1048576] X fun o w' => ∃ z : Int, o = .returned (.int .i64 z) ∧ Below X.heap.size X w' ∧ (z = -1 ∨ ∃ m' : Nat, z = (m' : Int) ∧ m' ≤ 1048576 ∧ H.le 1048576) := szHost_le X H s h hn 1048576 (Nat.le_refl _)
theorem szF2 (X : World) (F : R5) (fa : Option Addr) (fm fc m : Nat) (hn : fm ≤ 9223372036854775807) (hm : m ≤ 1048576) : Calls Tryz.prog 45 #[frV F.e F.i F.r F.d fa fm fc, .int .i64 (m : Int)] X fun o w' => ∃ z : Int, o = .returned (.int .i64 z) ∧ Below X.heap.size X w' ∧ (z = -1 ∨ ∃ m' : Nat, z = (m' : Int) ∧ fm ≤ 1048576) := by
  refine (szFrame_any X F.e F.i F.r F.d fa fm fc m hn hm).mono ?_
  rintro o w' ⟨rfl, rfl⟩
  refine ⟨_, rfl, (Below.refl _ _).alloc (Nat.le_refl _) _, ?_⟩
  by_cases h : (fm : Int) ≤ (m : Int)
  · rw [if_pos h]
    exact Or.inr ⟨m - fm, by omega, by omega⟩
  · rw [if_neg h]
    exact Or.inl rfl
theorem sz71 : (Tryz.prog.info? 71).map (·.size) = some 5 := by kernel_rfl
/-- the law's variables: both arguments -/
structure lfA (w : World) (H : Ho) (s : Sl) (F : R5) (fa : Option Addr) (fm fc : Nat) (W : World) : Prop where
  p : blk W w.heap.size (hoL H s) 61
  f : blk W (w.heap.size + 1) [.bool F.e, .int .u32 (F.i : Int), .bool F.r, .int .i64 F.d, .slice fa fm fc] 71
  h : isHo W H s
  d : isBytes W fa fm fc F.l
  b : Below w.heap.size w W
theorem lfA.below {w : World} {H : Ho} {s : Sl} {F : R5} {fa : Option Addr} {fm fc : Nat} {W W' : World} (h : lfA w H s F fa fm fc W) (hb : Below W.heap.size W W') : lfA w H s F fa fm fc W' := ⟨h.p.below hb, h.f.below hb, h.h.below hb, h.d.below hb, h.b.trans (hb.mono h.b.size)⟩
theorem lfA.new {w : World} {H : Ho} {s : Sl} {F : R5} {fa : Option Addr} {fm fc : Nat} (h : isHo w H s) (hf : isBytes w fa fm fc F.l) : lfA w H s F fa fm fc ((w.alloc (.cells (hoL H s).toArray 61)).alloc (.cells [.bool F.e, .int .u32 (F.i : Int), .bool F.r, .int .i64 F.d, .slice fa fm fc].toArray 71)) := by
  have hb : Below w.heap.size w ((w.alloc (.cells (hoL H s).toArray 61)).alloc (.cells [.bool F.e, .int .u32 (F.i : Int), .bool F.r, .int .i64 F.d, .slice fa fm fc].toArray 71)) := ((Below.refl _ _).alloc (Nat.le_refl _) _).alloc (by simp) _
  refine ⟨(blk.new w _ 61).alloc _, ?_, h.below hb, hf.below hb, hb⟩
  have := blk.new (w.alloc (.cells (hoL H s).toArray 61)) [.bool F.e, .int .u32 (F.i : Int), .bool F.r, .int .i64 F.d, .slice fa fm fc] 71
  have e : (w.alloc (.cells (hoL H s).toArray 61)).heap.size = w.heap.size + 1 := by simp
  rw [e] at this
  exact this
theorem lfA.put {w : World} {H : Ho} {s : Sl} {F : R5} {fa : Option Addr} {fm fc : Nat} {W : World} (h : lfA w H s F fa fm fc W) (h0 : isHo w H s) (hf : isBytes w fa fm fc F.l) {x : Nat} (hx : w.heap.size + 1 < x) (l : List Value) : lfA w H s F fa fm fc (W.setCells x 0 l) := by
  have hb : Below w.heap.size w (W.setCells x 0 l) := setCells_below (by omega) 0 l h.b
  exact ⟨h.p.other (by omega) _ _, h.f.other (by omega) _ _, h0.below hb, hf.below hb, hb⟩
/-- and spec's answer -/
structure lfS (w : World) (H : Ho) (s : Sl) (F : R5) (fa : Option Addr) (fm fc : Nat) (T : Ho) (bw : Nat) (sw : Sl) (W : World) : Prop where
  a : lfA w H s F fa fm fc W
  q : blk W bw (hoL T sw) 35
  t : isHo W T sw
theorem lfS.below {w : World} {H : Ho} {s : Sl} {F : R5} {fa : Option Addr} {fm fc : Nat} {T : Ho} {bw : Nat} {sw : Sl} {W W' : World} (h : lfS w H s F fa fm fc T bw sw W) (hb : Below W.heap.size W W') : lfS w H s F fa fm fc T bw sw W' := ⟨h.a.below hb, h.q.below hb, h.t.below hb⟩
/-- and the copy x0 of the host, its memory from w4's end on and below T5 -/
structure lfX (w : World) (H : Ho) (s : Sl) (F : R5) (fa : Option Addr) (fm fc : Nat) (T : Ho) (bw : Nat) (sw : Sl) (w4 : World) (T5 bx : Nat) (sx : Wh) (W : World) : Prop where
  l : lfS w H s F fa fm fc T bw sw W
  x : blk W bx (hoL H sx.sl) 35
  xh : isHo W H sx.sl
  xw : whS w4.heap.size T5 W sx
  z : bw < w4.heap.size ∧ w.heap.size + 1 < w4.heap.size ∧ w4.heap.size ≤ T5 ∧ T5 ≤ bx
  b4 : Below w4.heap.size w4 W
theorem lfX.below {w : World} {H : Ho} {s : Sl} {F : R5} {fa : Option Addr} {fm fc : Nat} {T : Ho} {bw : Nat} {sw : Sl} {w4 : World} {T5 bx : Nat} {sx : Wh} {W W' : World} (h : lfX w H s F fa fm fc T bw sw w4 T5 bx sx W) (hb : Below W.heap.size W W') : lfX w H s F fa fm fc T bw sw w4 T5 bx sx W' := ⟨h.l.below hb, h.x.below hb, h.xh.below hb, h.xw.same (fun x _ hx => hb.block x (by have := h.x.lt; have := h.z; omega)), h.z, h.b4.trans (hb.mono h.b4.size)⟩
/-- and the copy x2 of the frame -/
structure lfY (w : World) (H : Ho) (s : Sl) (F : R5) (fa : Option Addr) (fm fc : Nat) (T : Ho) (bw : Nat) (sw : Sl) (w4 : World) (T5 bx : Nat) (sx : Wh) (gx b2 : Nat) (W : World) : Prop where
  y : lfX w H s F fa fm fc T bw sw w4 T5 bx sx W
  f : blk W b2 [.bool F.e, .int .u32 (F.i : Int), .bool F.r, .int .i64 F.d, .slice (some ⟨gx, 0, none⟩) fm fm] 25
  d : isBytes W (some ⟨gx, 0, none⟩) fm fm F.l
  r : rowF W gx fm
  k : bx < gx ∧ gx < b2
theorem lfY.below {w : World} {H : Ho} {s : Sl} {F : R5} {fa : Option Addr} {fm fc : Nat} {T : Ho} {bw : Nat} {sw : Sl} {w4 : World} {T5 bx : Nat} {sx : Wh} {gx b2 : Nat} {W W' : World} (h : lfY w H s F fa fm fc T bw sw w4 T5 bx sx gx b2 W) (hb : Below W.heap.size W W') : lfY w H s F fa fm fc T bw sw w4 T5 bx sx gx b2 W' := ⟨h.y.below hb, h.f.below hb, h.d.below hb, h.r.up (hb.block _ (by have := h.f.lt; have := h.k; omega)), h.k⟩
/-- and the answer g0, its memory from B6 on and below w7's end -/
structure lfG (w : World) (H : Ho) (s : Sl) (F : R5) (fa : Option Addr) (fm fc : Nat) (T : Ho) (bw : Nat) (sw : Sl) (w4 : World) (b2 B6 : Nat) (w7 : World) (bg : Nat) (sg : Sl) (W : World) : Prop where
  l : lfS w H s F fa fm fc T bw sw W
  g : blk W bg (hoL T sg) 35
  k : ∀ x, B6 ≤ x → x < w7.heap.size → W.heap[x]? = w7.heap[x]?
  z : b2 < B6 ∧ B6 ≤ w7.heap.size ∧ w7.heap.size ≤ bg
  y : bw < w4.heap.size ∧ w.heap.size + 1 < w4.heap.size ∧ w4.heap.size ≤ b2
  b4 : Below w4.heap.size w4 W
theorem lfG.below {w : World} {H : Ho} {s : Sl} {F : R5} {fa : Option Addr} {fm fc : Nat} {T : Ho} {bw : Nat} {sw : Sl} {w4 : World} {b2 B6 : Nat} {w7 : World} {bg : Nat} {sg : Sl} {W W' : World} (h : lfG w H s F fa fm fc T bw sw w4 b2 B6 w7 bg sg W) (hb : Below W.heap.size W W') : lfG w H s F fa fm fc T bw sw w4 b2 B6 w7 bg sg W' := ⟨h.l.below hb, h.g.below hb, fun x h1 h2 => (hb.block x (by have := h.g.lt; have := h.z; omega)).trans (h.k x h1 h2), h.z, h.y, h.b4.trans (hb.mono h.b4.size)⟩
/-- what the marks leave of the law's variables -/
theorem lfS.mark {w : World} {H : Ho} {s : Sl} {F : R5} {fa : Option Addr} {fm fc : Nat} {T : Ho} {bw : Nat} {sw : Sl} {w4 W W' : World} (h : lfS w H s F fa fm fc T bw sw W) (h4 : isHo w4 T sw ∧ isHo w4 H s ∧ isBytes w4 fa fm fc F.l) (hy : bw < w4.heap.size ∧ w.heap.size + 1 < w4.heap.size) (hb4 : Below w4.heap.size w4 W) (hb : Below w4.heap.size W W') : lfS w H s F fa fm fc T bw sw W' := by
  have hb5 := hb4.trans hb
  exact ⟨⟨h.a.p.kept (hb.block _ (by omega)), h.a.f.kept (hb.block _ (by omega)), h4.2.1.below hb5, h4.2.2.below hb5, h.a.b.trans (hb.mono (by omega))⟩, h.q.kept (hb.block _ (by omega)), h4.1.below hb5⟩
theorem lfG.mark {w : World} {H : Ho} {s : Sl} {F : R5} {fa : Option Addr} {fm fc : Nat} {T : Ho} {bw : Nat} {sw : Sl} {w4 : World} {b2 B6 : Nat} {w7 : World} {bg : Nat} {sg : Sl} {W W' : World} (h : lfG w H s F fa fm fc T bw sw w4 b2 B6 w7 bg sg W) (h4 : isHo w4 T sw ∧ isHo w4 H s ∧ isBytes w4 fa fm fc F.l) (hb : Below w4.heap.size W W') (ho : ∀ x, B6 ≤ x → x < W.heap.size → W'.heap[x]? = W.heap[x]?) : lfG w H s F fa fm fc T bw sw w4 b2 B6 w7 bg sg W' := by
  have hz := h.z
  have hg := h.g.lt
  exact ⟨h.l.mark h4 ⟨h.y.1, h.y.2.1⟩ h.b4 hb, h.g.kept (ho _ (by omega) hg), fun x h1 h2 => (ho x h1 (by omega)).trans (h.k x h1 h2), h.z, h.y, h.b4.trans hb⟩
theorem lfG.gmark {w : World} {H : Ho} {s : Sl} {F : R5} {fa : Option Addr} {fm fc : Nat} {T : Ho} {bw : Nat} {sw : Sl} {w4 : World} {b2 B6 : Nat} {w7 : World} {bg : Nat} {sg : Sl} {W W' : World} (h : lfG w H s F fa fm fc T bw sw w4 b2 B6 w7 bg sg W) (h4 : isHo w4 T sw ∧ isHo w4 H s ∧ isBytes w4 fa fm fc F.l) (hb : Below B6 W W') : lfS w H s F fa fm fc T bw sw W' := h.l.mark h4 ⟨h.y.1, h.y.2.1⟩ h.b4 (hb.mono (by have := h.z; have := h.y; omega))
theorem xMark3 {B T : Nat} {W : World} {sx : Wh} {H : Ho} (h : whS B T W sx) (hd : whD sx) (hT : T ≤ W.heap.size) : Calls Tryz.prog 39 #[.agg (hoL H sx.sl).toArray, .int .i64 1] W fun o w1 => ∃ k : Nat, o = .returned (.int .i64 (k : Int)) ∧ (∀ x, T ≤ x → x < W.heap.size → w1.heap[x]? = W.heap[x]?) ∧ Below B W w1 ∧ k ≤ 10000000000000 := by
  refine (markHost_gen B T W H.c0 H.c1 H.c2 H.c3 H.lo H.st sx 1 h hd hT (by omega)).mono ?_
  rintro o w1 ⟨rfl, _, _, q, hb⟩
  exact ⟨_, rfl, fun x h1 h2 => q x (Or.inr h1) h2, hb, by have := h.c4 (c := 1) (by omega); omega⟩
set_option maxHeartbeats 2000000 in
/-- laws.markFrame -/
theorem markFrame_any (W : World) (e : Bool) (i : Nat) (r : Bool) (d : Int) (g m C : Nat) (hr : rowF W g m) (hg : g < W.heap.size) (hm : m ≤ 1048576) (hC : C ≤ 10000000000000000) :
    Calls Tryz.prog 50 #[frV e i r d (some ⟨g, 0, none⟩) m m, .int .i64 (C : Int)] W fun o w' => o = .returned (.int .i64 ((C + m : Nat) : Int)) ∧ (∀ x, x ≠ g → x < W.heap.size → w'.heap[x]? = W.heap[x]?) ∧ Below g W w' := by
  have hb : Below W.heap.size W (W.alloc (.cells [.bool e, .int .u32 (i : Int), .bool r, .int .i64 d, .slice (some ⟨g, 0, none⟩) m m].toArray 25)) := (Below.refl _ _).alloc (Nat.le_refl _) _
  have HBA : Hid (Below W.heap.size W (W.alloc (.cells [.bool e, .int .u32 (i : Int), .bool r, .int .i64 d, .slice (some ⟨g, 0, none⟩) m m].toArray 25))) := hb
  have HG : Hid (g < W.heap.size) := hg
  have HM : Hid (Calls Tryz.prog 99 #[.slice (some ⟨g, 0, none⟩) m m, .int .i64 (C : Int)] (W.alloc (.cells [.bool e, .int .u32 (i : Int), .bool r, .int .i64 d, .slice (some ⟨g, 0, none⟩) m m].toArray 25)) fun o w' => o = .returned (.int .i64 ((C + m : Nat) : Int)) ∧ mkB w' g m C ∧ (∀ x N, rowF (W.alloc (.cells [.bool e, .int .u32 (i : Int), .bool r, .int .i64 d, .slice (some ⟨g, 0, none⟩) m m].toArray 25)) x N → rowF w' x N) ∧ (∀ x, x ≠ g → w'.heap[x]? = (W.alloc (.cells [.bool e, .int .u32 (i : Int), .bool r, .int .i64 d, .slice (some ⟨g, 0, none⟩) m m].toArray 25)).heap[x]?) ∧ w'.heap.size = (W.alloc (.cells [.bool e, .int .u32 (i : Int), .bool r, .int .i64 d, .slice (some ⟨g, 0, none⟩) m m].toArray 25)).heap.size ∧ Below g (W.alloc (.cells [.bool e, .int .u32 (i : Int), .bool r, .int .i64 d, .slice (some ⟨g, 0, none⟩) m m].toArray 25)) w') := markByteS_any _ g m m C (hr.up (hb.block g hg)) (Nat.le_refl _) hm hC
  have y4 := (blk.new W [.bool e, .int .u32 (i : Int), .bool r, .int .i64 d, .slice (some ⟨g, 0, none⟩) m m] 25).cell 4 _ rfl
  clear hr hb hg hm hC
  go_enter Tryz.func50, Tryz.ntmps50
  go_wp2_with fail
  refine HM.out.mono ?_
  rintro o w1 ⟨rfl, _, _, q1, q2, q3⟩
  have HQ : Hid ((∀ x, x ≠ g → x < W.heap.size → w1.heap[x]? = W.heap[x]?) ∧ Below g W w1) := ⟨fun x h1 h2 => (q1 x h1).trans (HBA.out.block x h2), (HBA.out.mono (Nat.le_of_lt HG.out)).trans q3⟩
  clear q1 q2 q3 HM
  go_wp2_with fail
  go_ret
  exact ⟨rfl, HQ.out.1, HQ.out.2⟩
theorem put_host {W : World} {b : Nat} {L : List Value} (h : blk W b [.int .i64 0, .int .i64 0, .int .i64 0, .int .i64 0, .slice none 0 0, .slice none 0 0, .slice none 0 0, .slice none 0 0, .int .i64 0, .int .i64 0] 35) (hl : L.length = 10) : blk (W.setCells b 0 L) b L 35 := by
  have := blk.put [] [.int .i64 0, .int .i64 0, .int .i64 0, .int .i64 0, .slice none 0 0, .slice none 0 0, .slice none 0 0, .slice none 0 0, .int .i64 0, .int .i64 0] [] L (w := W) (b := b) (T := 35) (by simpa using h) (by rw [hl]; rfl)
  rw [List.nil_append, List.append_nil] at this
  exact this
theorem subHo_le {H : Ho} {t : Int} {F : R5} (h : H.le 1048576) (hq : H.qu.length ≤ 1000) (hf : F.l.length ≤ 1048576) : (subHo H t F).le 1048576 := by
  unfold subHo
  split
  · exact Ho.le.post h hq (Nat.zero_le _)
  · split
    · exact Ho.le.post h hq (Nat.zero_le _)
    · split
      · exact Ho.le.post h hq (Nat.zero_le _)
      · split
        · exact Ho.le.post h hq (Nat.zero_le _)
        · split
          · have h2 := h.set (freeIx H.bx) ⟨1, t, H.st, F.e, F.i, F.r, F.d, F.l⟩ hf
            exact ⟨h2.fs, h2.bx, h2.ff, h2.qu, h2.bd, h2.fd, h2.qd⟩
          · exact Ho.le.post h hq (Nat.zero_le _)
theorem subR_le {H T : Ho} {t : Int} {F : R5} {fm : Nat} (hR : okRel H (subHo H t F) T) (h : H.le 1048576) (hfm : fm ≤ 1048576) (hl : fm = F.l.length) : T.le 1048576 := okR_le hR fun hok => subHo_le h hok.n4 (by omega)
/-- a region's ways come to one end -/
theorem reg_join {id : Nat} {ops : Array Oper} {b : Bool} {Q : Exit → Act → World → Prop} {a : Act} {w : World} (Q1 : Act → Act → World → Prop) (h : (Code.region id ops b).wp Tryz.prog (fun e a' w' => e = .normal ∧ Q1 a a' w') a w) (hq : ∀ a' w', Q1 a a' w' → Q .normal a' w') : (Code.region id ops b).wp Tryz.prog Q a w :=
  Code.wp_mono (by rintro e a' w' ⟨rfl, h⟩; exact hq a' w' h) h
end Go.Proofs.YtaamahohdnbpiaaGreat
