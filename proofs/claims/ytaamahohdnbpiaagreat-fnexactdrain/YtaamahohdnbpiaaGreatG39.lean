import Derived.Test.YtaamahohdnbpiaaGreatG38
import Derived.Test.YtaamahohdnbpiaaGreatG26
import Derived.Test.YtaamahohdnbpiaaGreatG27
import Derived.Deep.RegionHeld3
import Derived.Test.YtaamahohdnbpiaaGreatRows
import Derived.WalkKit
import Derived.ProofKit
import Derived.OpenShut
import Derived.ShutString
import Derived.ChangeOld
import Derived.Below
namespace Go.Proofs.YtaamahohdnbpiaaGreat
open Go.RowKit
set_option linter.unusedVariables false
def MKE (B : Nat) (T : Ho) (sg : Sl) (a : Option Addr) (n c : Nat) (w : World) : Prop := ∀ W, (∀ x, B ≤ x → x < w.heap.size → W.heap[x]? = w.heap[x]?) → w.heap.size ≤ W.heap.size → Calls Tryz.prog 39 #[.agg (hoL T sg).toArray, .int .i64 1] W fun o w1 => ∃ k : Nat, o = .returned (.int .i64 (k : Int)) ∧ Below B W w1 ∧ (∀ x, w.heap.size ≤ x → x < W.heap.size → w1.heap[x]? = W.heap[x]?) ∧ ∀ W1, Below w1.heap.size w1 W1 → Calls Tryz.prog 40 #[.slice a n c, .int .i64 (k : Int)] W1 fun o w2 => ∃ k2 : Nat, o = .returned (.int .i64 (k2 : Int)) ∧ Below B W1 w2 ∧ (∀ x, w.heap.size ≤ x → x < W1.heap.size → w2.heap[x]? = W1.heap[x]?) ∧ ∀ W2, Below w2.heap.size w2 W2 → Calls Tryz.prog 41 #[.agg (hoL T sg).toArray, .int .i64 1] W2 fun o w3 => o = .returned (.int .i64 (k : Int)) ∧ Below W2.heap.size W2 w3 ∧ ∀ W3, Below w3.heap.size w3 W3 → Calls Tryz.prog 42 #[.slice a n c, .int .i64 (k : Int)] W3 fun o w4 => o = .returned (.int .i64 (k2 : Int)) ∧ Below W3.heap.size W3 w4
theorem drD.mke {B C : Nat} {w : World} {s : Wh} {T : Ho} {q : List R8} {a : Option Addr} {c : Nat} {he : Nat → Hd} (hBC : B ≤ C) (hCw : C ≤ w.heap.size) (h : whS C w.heap.size w s) (hd : whD s) (hE : whE s) (hq : evQ B C q a c he w) (hn : q.length ≤ 1048576) : MKE B T s.sl a q.length c w := by
  intro W hW hz
  have hs : whS C w.heap.size W s := h.same (fun x h1 h2 => hW x (by omega) h2)
  have hqW : evQ B C q a c he W := hq.same (fun x h1 h2 => hW x h1 (by omega))
  have hc4 : s.c4 1 ≤ 6000000000000 := hs.c4 (by omega)
  refine (markHost_gen C w.heap.size W T.c0 T.c1 T.c2 T.c3 T.lo T.st s 1 hs hd hz (by omega)).mono ?_
  rintro o w1 ⟨rfl, hm, hs1, ho, hb⟩
  refine ⟨s.c4 1, rfl, hb.mono hBC, fun x h1 h2 => ho x (Or.inr h1) h2, fun W1 hW1 => ?_⟩
  have hzW := hb.size
  have hq1 : evQ B C q a c he W1 := hqW.same (fun x h1 h2 => (hW1.block x (by omega)).trans (ho x (Or.inl h2) (by omega)))
  have hz1 := hW1.size
  refine (markE_x B C W1 w.heap.size a q.length c (s.c4 1) he hq1.sx hq1.i hCw hn (by omega)).mono ?_
  rintro o w2 ⟨rfl, _, hmk, _, hof, hsx, hsz, hb2⟩
  have hout : ∀ x, C ≤ x → w2.heap[x]? = W1.heap[x]? := fun x hx => hof x (fun hf => by have := (hq1.i x hf).2; omega)
  refine ⟨cn8 (s.c4 1) he q.length, rfl, hb2, fun x h1 _ => hout x (by omega), fun W2 hW2 => ?_⟩
  have hz2 := hW2.size
  have e2 : ∀ x, C ≤ x → x < w.heap.size → W2.heap[x]? = w1.heap[x]? := fun x h1 h2 => ((hW2.block x (by omega)).trans (hout x h1)).trans (hW1.block x (by omega))
  refine (heldHost_gen C w.heap.size W2 T.c0 T.c1 T.c2 T.c3 T.lo T.st s 1 (hs1.same e2) ((hm hE).same hs1 e2) (by omega) (by omega)).mono ?_
  rintro o w3 ⟨rfl, hb3⟩
  refine ⟨rfl, hb3, fun W3 hW3 => ?_⟩
  have e3 : ∀ x, ft a q.length he x → W3.heap[x]? = w2.heap[x]? := fun x hx => by
    have := (hq1.i x hx).2
    have hz3 := hb3.size
    exact ((hW3.block x (by omega)).trans (hb3.block x (by omega))).trans (hW2.block x (by omega))
  refine (heldE_x W3 a q.length c (s.c4 1) he (hsx.same e3) ((hmk hq1.d).up e3) hn (by omega)).mono ?_
  rintro o w4 ⟨rfl, rfl⟩
  exact ⟨rfl, Below.refl _ _⟩
theorem zHo_mke (B : Nat) (w : World) (hB : B ≤ w.heap.size) : MKE B zHo zSl none 0 0 w := by
  intro W hW hz
  refine (zHo_mkq B w hB W hW hz).mono ?_
  rintro o w1 ⟨k, rfl, hb, ho, hh⟩
  refine ⟨k, rfl, hb, ho, fun W1 hW1 => ?_⟩
  refine (nil40 W1 k).mono ?_
  rintro o w2 ⟨rfl, rfl⟩
  refine ⟨k, rfl, Below.refl _ _, fun _ _ _ => rfl, fun W2 hW2 => ?_⟩
  refine (hh W2 (hW1.trans (hW2.mono hW1.size))).mono ?_
  rintro o w3 ⟨rfl, hb3⟩
  refine ⟨rfl, hb3, fun W3 hW3 => ?_⟩
  refine (nil42 W3 k).mono ?_
  rintro o w4 ⟨rfl, rfl⟩
  exact ⟨rfl, Below.refl _ _⟩
theorem implTDrain (w : World) (H : Ho) (s : Sl) (T : Ho) (q : List R8) (hR : drRel H T q) (h : isHo w H s) (hs : slSome s) (hn : H.le 1048576) :
    Calls Tryz.prog 20 #[.agg (hoL H s).toArray] w fun o w' => ∃ sg a c, o = .returned (.tuple #[.agg (hoL T sg).toArray, .slice a q.length c]) ∧ St w.heap.size w' (fun W => isHo W T sg ∧ isR8s W a q.length c q) ∧ MKE w.heap.size T sg a q.length c w' ∧ Below w.heap.size w w' := by
  refine (implDrain_any w H s h hs hn).mono ?_
  rintro o w' (⟨hok, s4, a, c, he, C, rfl, hC, hC2, q1, q2, q3, q4, q5, hb⟩ | ⟨hok, rfl, hb⟩)
  · obtain ⟨e1, e2⟩ := hR.yes hok
    subst e1 e2
    exact ⟨s4.sl, a, c, rfl, fun V hV => ⟨q1 V (fun x h1 h2 => hV x (by omega) h2), (q5.same (fun x h1 h2 => hV x h1 (by omega))).is⟩, drD.mke hC hC2 q2 q3 q4 q5 hn.qu, hb⟩
  · obtain ⟨e1, e2⟩ := hR.no hok
    subst e1 e2
    exact ⟨zSl, none, 0, by rw [zHo_L]; rfl, fun V _ => ⟨zHo_is V, ⟨rfl, Nat.le_refl _, fun e => absurd rfl e⟩⟩, zHo_mke _ _ hb.size, hb⟩
theorem drR_le {H T : Ho} {q : List R8} (hR : drRel H T q) (h : H.le 1048576) : T.le 1048576 ∧ q.length ≤ 1048576 ∧ ∀ j (h : j < q.length), q[j].l.length ≤ 1048576 := by
  rcases hR with ⟨_, rfl, rfl⟩ | ⟨_, rfl, rfl⟩
  · exact ⟨⟨h.fs, h.bx, h.ff, Nat.zero_le _, h.bd, h.fd, fun j hj => absurd hj (Nat.not_lt_zero _)⟩, h.qu, h.qd⟩
  · exact ⟨⟨by decide, by decide, by decide, by decide, fun j hj => (by cases hj), fun j hj => (by cases hj), fun j hj => (by cases hj)⟩, Nat.zero_le _, fun j hj => absurd hj (Nat.not_lt_zero _)⟩
end Go.Proofs.YtaamahohdnbpiaaGreat
namespace Go.Proofs.YtaamahohdnbpiaaGreat
open Go.RowKit
set_option linter.unusedVariables false
set_option maxHeartbeats 8000000 in
set_option maxRecDepth 40000 in
theorem lawDrain (H : Ho) (s : Sl) (w : World) (h : isHo w H s) (hn : H.le 9223372036854775807) :
    Calls Tryz.prog 6 #[hoV H s] w fun o w' => o = .returned (.bool true) ∧ Below w.heap.size w w' := by
  rw [hoV_L]
  obtain ⟨T, q, hR⟩ := drRel_ex H
  obtain ⟨nq, hnq⟩ : ∃ nq, nq = q.length := ⟨_, rfl⟩
  have HS : Hid (∀ X, Below w.heap.size w X → Calls Tryz.prog 35 #[.agg (hoL H s).toArray, .int .i64 1048576] X fun o w' => ∃ z : Int, o = .returned (.int .i64 z) ∧ Below X.heap.size X w' ∧ (z = -1 ∨ ∃ m' : Nat, z = (m' : Int) ∧ H.le 1048576)) := fun X hX => szL X H s (h.below hX) hn
  have HT : Hid (H.le 1048576 → ∀ X, isHo X H s → Calls Tryz.prog 36 #[.agg (hoL H s).toArray] X fun o w' => ∃ s' : Wh, o = .returned (.agg (hoL H s'.sl).toArray) ∧ St X.heap.size w' (fun W => isHo W H s'.sl) ∧ whS X.heap.size w'.heap.size w' s' ∧ whD s' ∧ slSome s'.sl ∧ Below X.heap.size X w') := fun hm X hX => toWh X H s hX hm
  have HE : Hid (H.le 1048576 → ∀ X s', isHo X H s' → Calls Tryz.prog 32 #[.agg (hoL H s').toArray] X fun o w' => ∃ s2 a c, o = .returned (.tuple #[.agg (hoL T s2).toArray, .slice a nq c]) ∧ isHo w' T s2 ∧ isR8s w' a nq c q ∧ Below X.heap.size X w') := fun hm X s' h' => by rw [hnq]; exact specDrain_any X H s' T q hR h' hm
  have HI : Hid (H.le 1048576 → ∀ X s', isHo X H s' → slSome s' → Calls Tryz.prog 20 #[.agg (hoL H s').toArray] X fun o w' => ∃ sg a c, o = .returned (.tuple #[.agg (hoL T sg).toArray, .slice a nq c]) ∧ St X.heap.size w' (fun W => isHo W T sg ∧ isR8s W a nq c q) ∧ MKE X.heap.size T sg a nq c w' ∧ Below X.heap.size X w') := fun hm X s' h' hs' => by rw [hnq]; exact implTDrain X H s' T q hR h' hs' hm
  have HQE : Hid (H.le 1048576 → ∀ X a1 c1 a2 c2, isR8s X a1 nq c1 q → isR8s X a2 nq c2 q → Calls Tryz.prog 38 #[.slice a1 nq c1, .slice a2 nq c2] X fun o w' => o = .returned (.bool true) ∧ Below X.heap.size X w') := fun hm X a1 c1 a2 c2 h1 h2 => eqEventS_same X a1 a2 nq c1 nq c2 q h1 h2 (by rw [hnq]; exact (drR_le hR hm).2.1) (drR_le hR hm).2.2
  have HQ : Hid (H.le 1048576 → ∀ X s1 s2, isHo X T s1 → isHo X T s2 → Calls Tryz.prog 37 #[.agg (hoL T s1).toArray, .agg (hoL T s2).toArray] X fun o w' => o = .returned (.bool true) ∧ Below X.heap.size X w') := fun hm X s1 s2 h1 h2 => eqT X _ s1 s2 h1 h2 (drR_le hR hm).1
  have HQH : Hid (H.le 1048576 → ∀ X s1 s2, isHo X H s1 → isHo X H s2 → Calls Tryz.prog 37 #[.agg (hoL H s1).toArray, .agg (hoL H s2).toArray] X fun o w' => o = .returned (.bool true) ∧ Below X.heap.size X w') := fun hm X s1 s2 h1 h2 => eqT X _ s1 s2 h1 h2 hm
  have P0 : blk (w.alloc (.cells (hoL H s).toArray 61)) w.heap.size (hoL H s) 61 := blk.new w _ 61
  have HA : Hid (Below w.heap.size w (w.alloc (.cells (hoL H s).toArray 61))) := (Below.refl _ _).alloc (Nat.le_refl _) _
  have HH : Hid (∀ X, Below w.heap.size w X → isHo X H s) := fun X hX => h.below hX
  have HP0 : Hid (blk (w.alloc (.cells (hoL H s).toArray 61)) w.heap.size (hoL H s) 61) := P0
  clear h hn P0
  clear hR hnq
  go_enter Tryz.func6, Tryz.ntmps6
  go_wp2_with (first | (refine wpList_load_mid (P := Tryz.prog) rfl 61 _ rfl w.heap.size 0 rfl (hoL H s) _ HP0.out.load Tryz.underlying61 rfl (sz61L H s) ?_))
  refine (HS.out _ HA.out).mono ?_
  rintro o w1 ⟨z, rfl, b1, h1⟩
  have HP1 : Hid (blk w1 w.heap.size (hoL H s) 61) := HP0.out.below b1
  have HB1 : Hid (Below w.heap.size w w1) := HA.out.trans (b1.mono (by simp))
  clear b1 HP0 HA HS
  rcases h1 with rfl | ⟨m', rfl, hle⟩
  · go_wp2_with fail
    go_ret
    exact ⟨rfl, HB1.out⟩
  have HLE : Hid (H.le 1048576) := hle
  clear hle
  go_wp2_with (first | (refine wpList_load_mid (P := Tryz.prog) rfl 61 _ rfl w.heap.size 0 rfl (hoL H s) _ HP1.out.load Tryz.underlying61 rfl (sz61L H s) ?_))
  refine (HT.out HLE.out _ (HH.out _ HB1.out)).mono ?_
  rintro o w2 ⟨s2, rfl, S2, _, _, _, b2⟩
  have HO2 : Hid (isHo w2 H s2.sl) := S2.now
  have HP2 : Hid (blk w2 w.heap.size (hoL H s) 61) := HP1.out.below b2
  have HB2 : Hid (Below w.heap.size w w2) := HB1.out.trans (b2.mono HB1.out.size)
  clear S2 b2 HP1 HB1
  go_wp2_with fail
  refine (HE.out HLE.out w2 s2.sl HO2.out).mono ?_
  rintro o w3 ⟨sw, aw, cw, rfl, hT3, hE3, b3⟩
  have HE3 : Hid (isR8s w3 aw nq cw q) := hE3
  have HP3 : Hid (blk w3 w.heap.size (hoL H s) 61) := HP2.out.below b3
  have HB3 : Hid (Below w.heap.size w w3) := HB2.out.trans (b3.mono HB2.out.size)
  have HT3 : Hid (isHo w3 T sw) := hT3
  clear hT3 hE3 b3 HP2 HB2 HO2 HE
  have HNW : Hid (blk (World.setCells (w3.alloc (.cells [.int .i64 0, .int .i64 0, .int .i64 0, .int .i64 0, .slice none 0 0, .slice none 0 0, .slice none 0 0, .slice none 0 0, .int .i64 0, .int .i64 0].toArray 35)) w3.heap.size 0 (hoL T sw)) w3.heap.size (hoL T sw) 35 ∧ Below w3.heap.size w3 (World.setCells (w3.alloc (.cells [.int .i64 0, .int .i64 0, .int .i64 0, .int .i64 0, .slice none 0 0, .slice none 0 0, .slice none 0 0, .slice none 0 0, .int .i64 0, .int .i64 0].toArray 35)) w3.heap.size 0 (hoL T sw))) := new_hostS _ (hoL_len _ _)
  have HN3 : Hid (blk (w3.alloc (.cells [.int .i64 0, .int .i64 0, .int .i64 0, .int .i64 0, .slice none 0 0, .slice none 0 0, .slice none 0 0, .slice none 0 0, .int .i64 0, .int .i64 0].toArray 35)) w3.heap.size [.int .i64 0, .int .i64 0, .int .i64 0, .int .i64 0, .slice none 0 0, .slice none 0 0, .slice none 0 0, .slice none 0 0, .int .i64 0, .int .i64 0] 35) := blk.new w3 _ 35
  go_wp2_with (first | (refine wpList_store_mid (P := Tryz.prog) rfl 35 _ _ rfl w3.heap.size 0 (hoL T sw).toArray rfl rfl (HN3.out.there 0 _ (by rw [List.size_toArray, hoL_len]; decide)) (sz41A T sw) (hoL_one T sw) ?_; generalize hW4 : World.setCells (w3.alloc _) w3.heap.size 0 _ = w4; have HW4 : Hid (lwS w H s T w3.heap.size sw w4) := (by rw [← hW4]; exact ⟨HP3.out.below HNW.out.2, HNW.out.1, HT3.out.below HNW.out.2, HH.out _ (HB3.out.trans (HNW.out.2.mono HB3.out.size)), HB3.out.trans (HNW.out.2.mono HB3.out.size)⟩); have HEW : Hid (isR8s w4 aw nq cw q) := (by rw [← hW4]; exact HE3.out.below HNW.out.2); clear hW4 HNW HN3) | (refine wpList_load_mid (P := Tryz.prog) rfl 61 _ rfl w.heap.size 0 rfl (hoL H s) _ HW4.out.p.load Tryz.underlying61 rfl (sz61L H s) ?_))
  clear HP3 HB3 HT3 HE3
  generalize w3.heap.size = bw at *
  refine (HT.out HLE.out _ HW4.out.h).mono ?_
  rintro o w5 ⟨s5, rfl, S5, S5w, S5d, S5s, b5⟩
  have HX5 : Hid (lwS w H s T bw sw w5 ∧ isHo w5 H s5.sl ∧ whS w4.heap.size w5.heap.size w5 s5) := ⟨HW4.out.below b5, S5.now, S5w⟩
  have HD5 : Hid (whD s5 ∧ slSome s5.sl) := ⟨S5d, S5s⟩
  have HB45 : Hid (Below w4.heap.size w4 w5) := b5
  have HH4 : Hid (isHo w4 T sw ∧ isHo w4 H s) := ⟨HW4.out.t, HW4.out.h⟩
  have HZ5 : Hid (bw < w4.heap.size ∧ w.heap.size < w4.heap.size ∧ w4.heap.size ≤ w5.heap.size) := ⟨HW4.out.q.lt, HW4.out.p.lt, b5.size⟩
  clear S5 S5w S5d S5s b5
  have HN5a : Hid (blk (World.setCells (w5.alloc (.cells [.int .i64 0, .int .i64 0, .int .i64 0, .int .i64 0, .slice none 0 0, .slice none 0 0, .slice none 0 0, .slice none 0 0, .int .i64 0, .int .i64 0].toArray 35)) w5.heap.size 0 (hoL H s5.sl)) w5.heap.size (hoL H s5.sl) 35 ∧ Below w5.heap.size w5 (World.setCells (w5.alloc (.cells [.int .i64 0, .int .i64 0, .int .i64 0, .int .i64 0, .slice none 0 0, .slice none 0 0, .slice none 0 0, .slice none 0 0, .int .i64 0, .int .i64 0].toArray 35)) w5.heap.size 0 (hoL H s5.sl))) := new_hostS _ (hoL_len _ _)
  have HN5b : Hid (blk (w5.alloc (.cells [.int .i64 0, .int .i64 0, .int .i64 0, .int .i64 0, .slice none 0 0, .slice none 0 0, .slice none 0 0, .slice none 0 0, .int .i64 0, .int .i64 0].toArray 35)) w5.heap.size [.int .i64 0, .int .i64 0, .int .i64 0, .int .i64 0, .slice none 0 0, .slice none 0 0, .slice none 0 0, .slice none 0 0, .int .i64 0, .int .i64 0] 35) := blk.new w5 _ 35
  go_wp2_with (first | (refine wpList_store_mid (P := Tryz.prog) rfl 35 _ _ rfl w5.heap.size 0 (hoL H s5.sl).toArray rfl rfl (HN5b.out.there 0 _ (by rw [List.size_toArray, hoL_len]; decide)) (sz41A H s5.sl) (hoL_one H s5.sl) ?_; generalize hW6 : World.setCells (w5.alloc _) w5.heap.size 0 _ = w6; have HX6 : Hid (lwX w H s T bw sw w4 w5.heap.size w5.heap.size s5 w6) := (by rw [← hW6]; exact ⟨HX5.out.1.below HN5a.out.2, HN5a.out.1, HX5.out.2.1.below HN5a.out.2, HX5.out.2.2.same (fun x _ hx => HN5a.out.2.block x hx), ⟨HZ5.out.1, HZ5.out.2.1, HZ5.out.2.2, Nat.le_refl _⟩, HB45.out.trans (HN5a.out.2.mono HB45.out.size)⟩); clear hW6 HN5a HN5b) | (refine wpList_load_mid (P := Tryz.prog) rfl 35 _ rfl w5.heap.size 0 rfl (hoL H s5.sl) _ HX6.out.x.load Tryz.underlying35 rfl (sz41L H s5.sl) ?_))
  clear HX5 HZ5 HB45
  generalize hT5 : w5.heap.size = bx at *
  clear hT5
  refine (HI.out HLE.out w6 s5.sl HX6.out.xh HD5.out.2).mono ?_
  rintro o w7 ⟨sg, ag, cg, rfl, S7, M7, b7⟩
  have HX7 : Hid (lwX w H s T bw sw w4 bx bx s5 w7) := HX6.out.below b7
  have HG7 : Hid (St w6.heap.size w7 (fun W => isHo W T sg ∧ isR8s W ag nq cg q) ∧ MKE w6.heap.size T sg ag nq cg w7 ∧ w6.heap.size ≤ w7.heap.size ∧ bx < w6.heap.size) := ⟨S7, M7, b7.size, HX6.out.x.lt⟩
  clear S7 M7 b7 HX6
  have HN7a : Hid (blk (World.setCells (w7.alloc (.cells [.int .i64 0, .int .i64 0, .int .i64 0, .int .i64 0, .slice none 0 0, .slice none 0 0, .slice none 0 0, .slice none 0 0, .int .i64 0, .int .i64 0].toArray 35)) w7.heap.size 0 (hoL T sg)) w7.heap.size (hoL T sg) 35 ∧ Below w7.heap.size w7 (World.setCells (w7.alloc (.cells [.int .i64 0, .int .i64 0, .int .i64 0, .int .i64 0, .slice none 0 0, .slice none 0 0, .slice none 0 0, .slice none 0 0, .int .i64 0, .int .i64 0].toArray 35)) w7.heap.size 0 (hoL T sg))) := new_hostS _ (hoL_len _ _)
  have HN7b : Hid (blk (w7.alloc (.cells [.int .i64 0, .int .i64 0, .int .i64 0, .int .i64 0, .slice none 0 0, .slice none 0 0, .slice none 0 0, .slice none 0 0, .int .i64 0, .int .i64 0].toArray 35)) w7.heap.size [.int .i64 0, .int .i64 0, .int .i64 0, .int .i64 0, .slice none 0 0, .slice none 0 0, .slice none 0 0, .slice none 0 0, .int .i64 0, .int .i64 0] 35) := blk.new w7 _ 35
  go_wp2_with (first
    | (refine wpList_store_mid (P := Tryz.prog) rfl 35 _ _ rfl w7.heap.size 0 (hoL T sg).toArray rfl rfl (HN7b.out.there 0 _ (by rw [List.size_toArray, hoL_len]; decide)) (sz41A T sg) (hoL_one T sg) ?_; generalize hW8 : World.setCells (w7.alloc _) w7.heap.size 0 _ = w8; have HX8 : Hid (lwX w H s T bw sw w4 bx bx s5 w8 ∧ blk w8 w7.heap.size (hoL T sg) 35 ∧ Below w7.heap.size w7 w8) := (by rw [← hW8]; exact ⟨HX7.out.below HN7a.out.2, HN7a.out.1, HN7a.out.2⟩); clear hW8 HN7a HN7b)
    | (refine wpList_load_mid (P := Tryz.prog) rfl 35 _ rfl w7.heap.size 0 rfl (hoL T sg) _ HX8.out.2.1.load Tryz.underlying35 rfl (sz41L T sg) ?_)
    | (refine wpList_load_mid (P := Tryz.prog) rfl 35 _ rfl bw 0 rfl (hoL T sw) _ HX8.out.1.l.q.load Tryz.underlying35 rfl (sz41L T sw) ?_))
  have HG8 : Hid (lwG w H s T bw sw w4 bx w6.heap.size w7 w7.heap.size sg w8) := ⟨HX8.out.1.l, HX8.out.2.1, fun x h1 h2 => HX8.out.2.2.block x h2, ⟨HG7.out.2.2.2, HG7.out.2.2.1, Nat.le_refl _⟩, ⟨HX8.out.1.z.1, HX8.out.1.z.2.1, by have := HX8.out.1.z; omega⟩, HX8.out.1.b4⟩
  have HX9 : Hid (lwX w H s T bw sw w4 bx bx s5 w8) := HX8.out.1
  have HSM : Hid (St w6.heap.size w7 (fun W => isHo W T sg ∧ isR8s W ag nq cg q) ∧ MKE w6.heap.size T sg ag nq cg w7) := ⟨HG7.out.1, HG7.out.2.1⟩
  clear HX8 HG7 HX7
  generalize w6.heap.size = B6 at *
  refine (HQ.out HLE.out w8 sg sw (HSM.out.1 w8 HG8.out.k).1 HG8.out.l.t).mono ?_
  rintro o w9 ⟨rfl, b9⟩
  have HX10 : Hid (lwX w H s T bw sw w4 bx bx s5 w9 ∧ lwG w H s T bw sw w4 bx B6 w7 w7.heap.size sg w9) := ⟨HX9.out.below b9, HG8.out.below b9⟩
  clear b9 HX9 HG8
  generalize hbg : w7.heap.size = bg at *
  have HBG : Hid (w7.heap.size = bg) := hbg
  clear hbg
  go_wp2_with fail
  refine (HQE.out HLE.out w9 ag cg aw cw (HSM.out.1 w9 HX10.out.2.k).2 (HEW.out.below HX10.out.2.b4)).mono ?_
  rintro o w9b ⟨rfl, b9b⟩
  have HX11 : Hid (lwX w H s T bw sw w4 bx bx s5 w9b ∧ lwG w H s T bw sw w4 bx B6 w7 bg sg w9b) := ⟨HX10.out.1.below b9b, HX10.out.2.below b9b⟩
  clear b9b HX10
  go_wp2_with fail
  refine wp_region_held (S := fun W => lwX w H s T bw sw w4 bx bx s5 W ∧ lwG w H s T bw sw w4 bx B6 w7 bg sg W) (by kernel_rfl) ?_
  have hS : lwX w H s T bw sw w4 bx bx s5 w9b.drew ∧ lwG w H s T bw sw w4 bx B6 w7 bg sg w9b.drew := ⟨HX11.out.1.below (Below.refl _ _).drew, HX11.out.2.below (Below.refl _ _).drew⟩
  clear HX11
  change wpAnyH Tryz.prog _ _ _ _ _ _ _ w9b.drew
  generalize w9b.drew = w10 at *
  refine wpAnyH_take (i := 0) (v := .agg (hoL H s5.sl).toArray) rfl (by kernel_rfl) (by kernel_rfl) (by kernel_rfl) (fun _ _ _ h => h) (yieldsIf_load_mid (by rfl) 35 _ rfl bx 0 rfl (hoL H s5.sl) _ (fun W h => h.1.x.load) Tryz.underlying35 rfl (sz41L H s5.sl)) hS ?_
  simp only [Act.put, liA, liB, liC, liD, liE]
  refine wpAnyH_take (i := 1) (v := .agg (hoL H s).toArray) rfl (by kernel_rfl) (by kernel_rfl) (by kernel_rfl) (fun _ _ _ h => h) (yieldsIf_load_mid (by rfl) 61 _ rfl w.heap.size 0 rfl (hoL H s) _ (fun W h => h.1.l.p.load) Tryz.underlying61 rfl (sz61L H s)) hS ?_
  simp only [Act.put, liA, liB, liC, liD, liE, liF]
  refine wpAnyH_all (rs := [2]) (by kernel_rfl) (by simp) ?_
  refine AllReadyH.cons rfl (fun K2 hK2 => ?_) AllReadyH.nil
  go_simp
  refine (HT.out HLE.out _ hS.1.l.h).mono ?_
  rintro o w11 ⟨s11, rfl, S11, _, _, _, b11⟩
  have HO11 : Hid (isHo w11 H s11.sl) := S11.now
  have hS11 : lwX w H s T bw sw w4 bx bx s5 w11 ∧ lwG w H s T bw sw w4 bx B6 w7 bg sg w11 := ⟨hS.1.below b11, hS.2.below b11⟩
  clear S11 b11
  go_wp2_with fail
  refine hK2.out _ _ hS11 (fun hS2 => ?_)
  clear hS hK2 K2 hS11
  have hS := hS2
  clear hS2
  refine wpAnyH_all (rs := [3]) (by kernel_rfl) (by simp) ?_
  refine AllReadyH.cons rfl (fun K2 hK2 => ?_) AllReadyH.nil
  go_simp
  refine (HQH.out HLE.out _ s5.sl s11.sl hS.1.xh HO11.out).mono ?_
  rintro o w12 ⟨rfl, b12⟩
  have hS12 : lwX w H s T bw sw w4 bx bx s5 w12 ∧ lwG w H s T bw sw w4 bx B6 w7 bg sg w12 := ⟨hS.1.below b12, hS.2.below b12⟩
  clear b12 HO11
  go_wp2_with fail
  refine hK2.out _ _ hS12 (fun hS2 => ?_)
  clear hS hK2 K2 hS12
  have hS := hS2
  clear hS2
  refine wpAnyH_take (i := 4) (v := .bool false) rfl (by kernel_rfl) (by kernel_rfl) (by kernel_rfl) (fun _ _ _ h => h) (Or.inl ⟨by rfl, ?_⟩) hS ?_
  · intro W hSw
    clear hS
    go_simp
  simp only [Act.put, liA, liB, liC, liD, liE, liF]
  refine wpAnyH_done (by kernel_rfl) ?_ _
  have HX12 : Hid (lwX w H s T bw sw w4 bx bx s5 w12 ∧ lwG w H s T bw sw w4 bx B6 w7 bg sg w12) := hS
  clear hS
  go_wp2_with (first | (refine wpList_load_mid (P := Tryz.prog) rfl 35 _ rfl bx 0 rfl (hoL H s5.sl) _ HX12.out.1.x.load Tryz.underlying35 rfl (sz41L H s5.sl) ?_))
  have HMX : Hid (Calls Tryz.prog 39 #[.agg (hoL H s5.sl).toArray, .int .i64 1] w12 fun o w1 => ∃ k : Nat, o = .returned (.int .i64 (k : Int)) ∧ (∀ x, bx ≤ x → x < w12.heap.size → w1.heap[x]? = w12.heap[x]?) ∧ Below w4.heap.size w12 w1) := xMark2 HX12.out.1.xw HD5.out.1 (Nat.le_of_lt HX12.out.1.x.lt)
  refine (Calls.mono HMX.out) ?_
  rintro o w13 ⟨k, rfl, q1, q2⟩
  have HG13 : Hid (lwG w H s T bw sw w4 bx B6 w7 bg sg w13) := HX12.out.2.xmark HH4.out q2 q1
  clear q1 q2 HX12 HMX
  have hk0 : decide ((k : Int) < 0) = false := by simp
  go_wp2_with (first
    | (refine wpList_load_midG (by first | rfl | (simp [Region.wanted, yielded]; done) | (simp [Region.wanted, yielded]; omega)) 35 _ rfl bg 0 rfl (hoL T sg) _ HG13.out.g.load Tryz.underlying35 rfl (sz41L T sg) ?_)
    | (refine wpList_load_midG (by first | rfl | (simp [Region.wanted, yielded]; done) | (simp [Region.wanted, yielded]; omega)) 35 _ rfl bw 0 rfl (hoL T sw) _ HG13.out.l.q.load Tryz.underlying35 rfl (sz41L T sw) ?_))
  refine (HQ.out HLE.out w13 sg sw (HSM.out.1 w13 HG13.out.k).1 HG13.out.l.t).mono ?_
  rintro o w13b ⟨rfl, b14⟩
  have HG13b : Hid (lwG w H s T bw sw w4 bx B6 w7 bg sg w13b) := HG13.out.below b14
  clear b14 HG13
  go_wp2_with fail
  refine (HQE.out HLE.out w13b ag cg aw cw (HSM.out.1 w13b HG13b.out.k).2 (HEW.out.below HG13b.out.b4)).mono ?_
  rintro o w14 ⟨rfl, b14⟩
  have HG14 : Hid (lwG w H s T bw sw w4 bx B6 w7 bg sg w14) := HG13b.out.below b14
  clear b14 HG13b hk0
  go_wp2_with (first | (refine wpList_load_mid (P := Tryz.prog) rfl 35 _ rfl bg 0 rfl (hoL T sg) _ HG14.out.g.load Tryz.underlying35 rfl (sz41L T sg) ?_))
  have hzz : w7.heap.size ≤ w14.heap.size := by have := HG14.out.g.lt; have := HG14.out.z; omega
  refine (HSM.out.2 w14 HG14.out.k hzz).mono ?_
  rintro o w15 ⟨m, rfl, b15, o15, c15⟩
  have HZ4 : Hid (w4.heap.size ≤ B6 ∧ w7.heap.size ≤ bg ∧ bg < w14.heap.size) := by
    have h1 := HG14.out.z
    have h2 := HG14.out.y
    have h3 := HG14.out.g.lt
    exact ⟨by omega, by omega, h3⟩
  have HB15 : Hid (Below w4.heap.size w4 w15) := HG14.out.b4.trans (b15.mono HZ4.out.1)
  have HV15 : Hid (blk w15 bg (hoL T sg) 35) := HG14.out.g.kept (o15 _ HZ4.out.2.1 HG14.out.g.lt)
  have HC15 : Hid (Calls Tryz.prog 40 #[.slice ag nq cg, .int .i64 (m : Int)] w15 fun o w2 => ∃ k2 : Nat, o = .returned (.int .i64 (k2 : Int)) ∧ Below B6 w15 w2 ∧ (∀ x, w7.heap.size ≤ x → x < w15.heap.size → w2.heap[x]? = w15.heap[x]?) ∧ ∀ W2, Below w2.heap.size w2 W2 → Calls Tryz.prog 41 #[.agg (hoL T sg).toArray, .int .i64 1] W2 fun o w3 => o = .returned (.int .i64 (m : Int)) ∧ Below W2.heap.size W2 w3 ∧ ∀ W3, Below w3.heap.size w3 W3 → Calls Tryz.prog 42 #[.slice ag nq cg, .int .i64 (m : Int)] W3 fun o w4 => o = .returned (.int .i64 (k2 : Int)) ∧ Below W3.heap.size W3 w4) := c15 w15 (Below.refl _ _)
  clear b15 o15 c15 HG14 HSM hzz HH4
  go_wp2_with fail
  refine (Calls.mono HC15.out) ?_
  rintro o w16 ⟨m2, rfl, b16, o16, c16⟩
  have HB16 : Hid (Below w4.heap.size w4 w16) := HB15.out.trans (b16.mono HZ4.out.1)
  have HV16 : Hid (blk w16 bg (hoL T sg) 35) := HV15.out.kept (o16 _ HZ4.out.2.1 HV15.out.lt)
  have HC16 : Hid (Calls Tryz.prog 41 #[.agg (hoL T sg).toArray, .int .i64 1] w16 fun o w3 => o = .returned (.int .i64 (m : Int)) ∧ Below w16.heap.size w16 w3 ∧ ∀ W3, Below w3.heap.size w3 W3 → Calls Tryz.prog 42 #[.slice ag nq cg, .int .i64 (m : Int)] W3 fun o w4 => o = .returned (.int .i64 (m2 : Int)) ∧ Below W3.heap.size W3 w4) := c16 w16 (Below.refl _ _)
  clear b16 o16 c16 HC15 HV15 HB15
  go_wp2_with (first | (refine wpList_load_mid (P := Tryz.prog) rfl 35 _ rfl bg 0 rfl (hoL T sg) _ HV16.out.load Tryz.underlying35 rfl (sz41L T sg) ?_))
  refine (Calls.mono HC16.out) ?_
  rintro o w16b ⟨rfl, b16, c16⟩
  have HB17 : Hid (Below w4.heap.size w4 w16b) := HB16.out.trans (b16.mono HB16.out.size)
  have HC17 : Hid (Calls Tryz.prog 42 #[.slice ag nq cg, .int .i64 (m : Int)] w16b fun o w4 => o = .returned (.int .i64 (m2 : Int)) ∧ Below w16b.heap.size w16b w4) := c16 w16b (Below.refl _ _)
  clear b16 c16 HC16 HV16 HB16
  have hm0 : ¬ (m : Int) < 0 := by omega
  go_wp2_with fail
  refine (Calls.mono HC17.out) ?_
  rintro o w16c ⟨rfl, b16⟩
  have HB18 : Hid (Below w4.heap.size w4 w16c) := HB17.out.trans (b16.mono HB17.out.size)
  have HL16 : Hid (lwS w H s T bw sw w16c) := HW4.out.below HB18.out
  clear b16 HC17 HB17
  have hm2 : ¬ (m2 : Int) < 0 := by omega
  go_wp2_with (first | (refine wpList_load_mid (P := Tryz.prog) rfl 61 _ rfl w.heap.size 0 rfl (hoL H s) _ HL16.out.p.load Tryz.underlying61 rfl (sz61L H s) ?_))
  refine (HT.out HLE.out _ HL16.out.h).mono ?_
  rintro o w17 ⟨s17, rfl, S17, _, _, S17s, b17⟩
  have HL17 : Hid (lwS w H s T bw sw w17 ∧ isHo w17 H s17.sl ∧ slSome s17.sl) := ⟨HL16.out.below b17, S17.now, S17s⟩
  have HE17 : Hid (isR8s w17 aw nq cw q) := (HEW.out.below HB18.out).below b17
  clear S17 S17s b17 HL16
  go_wp2_with fail
  refine (HI.out HLE.out w17 s17.sl HL17.out.2.1 HL17.out.2.2).mono ?_
  rintro o w18 ⟨sh, ah, ch, rfl, S18, _, b18⟩
  have HL18 : Hid (lwS w H s T bw sw w18 ∧ isHo w18 T sh) := ⟨HL17.out.1.below b18, S18.now.1⟩
  have HE18 : Hid (isR8s w18 aw nq cw q ∧ isR8s w18 ah nq ch q) := ⟨HE17.out.below b18, S18.now.2⟩
  clear S18 b18 HL17
  have HN18a : Hid (blk (World.setCells (w18.alloc (.cells [.int .i64 0, .int .i64 0, .int .i64 0, .int .i64 0, .slice none 0 0, .slice none 0 0, .slice none 0 0, .slice none 0 0, .int .i64 0, .int .i64 0].toArray 35)) w18.heap.size 0 (hoL T sh)) w18.heap.size (hoL T sh) 35 ∧ Below w18.heap.size w18 (World.setCells (w18.alloc (.cells [.int .i64 0, .int .i64 0, .int .i64 0, .int .i64 0, .slice none 0 0, .slice none 0 0, .slice none 0 0, .slice none 0 0, .int .i64 0, .int .i64 0].toArray 35)) w18.heap.size 0 (hoL T sh))) := new_hostS _ (hoL_len _ _)
  have HN18b : Hid (blk (w18.alloc (.cells [.int .i64 0, .int .i64 0, .int .i64 0, .int .i64 0, .slice none 0 0, .slice none 0 0, .slice none 0 0, .slice none 0 0, .int .i64 0, .int .i64 0].toArray 35)) w18.heap.size [.int .i64 0, .int .i64 0, .int .i64 0, .int .i64 0, .slice none 0 0, .slice none 0 0, .slice none 0 0, .slice none 0 0, .int .i64 0, .int .i64 0] 35) := blk.new w18 _ 35
  go_wp2_with (first
    | (refine wpList_store_mid (P := Tryz.prog) rfl 35 _ _ rfl w18.heap.size 0 (hoL T sh).toArray rfl rfl (HN18b.out.there 0 _ (by rw [List.size_toArray, hoL_len]; decide)) (sz41A T sh) (hoL_one T sh) ?_; generalize hW19 : World.setCells (w18.alloc _) w18.heap.size 0 _ = w19; have HL19 : Hid (lwS w H s T bw sw w19 ∧ isHo w19 T sh ∧ blk w19 w18.heap.size (hoL T sh) 35) := (by rw [← hW19]; exact ⟨HL18.out.1.below HN18a.out.2, HL18.out.2.below HN18a.out.2, HN18a.out.1⟩); have HE19 : Hid (isR8s w19 aw nq cw q ∧ isR8s w19 ah nq ch q) := (by rw [← hW19]; exact ⟨HE18.out.1.below HN18a.out.2, HE18.out.2.below HN18a.out.2⟩); clear hW19 HN18a HN18b)
    | (refine wpList_load_mid (P := Tryz.prog) rfl 35 _ rfl bw 0 rfl (hoL T sw) _ HL19.out.1.q.load Tryz.underlying35 rfl (sz41L T sw) ?_)
    | (refine wpList_load_mid (P := Tryz.prog) rfl 35 _ rfl w18.heap.size 0 rfl (hoL T sh) _ HL19.out.2.2.load Tryz.underlying35 rfl (sz41L T sh) ?_))
  refine (HQ.out HLE.out w19 sh sw HL19.out.2.1 HL19.out.1.t).mono ?_
  rintro o w20 ⟨rfl, b20⟩
  have HL20 : Hid (Below w.heap.size w w20) := (HL19.out.1.below b20).b
  have HE20 : Hid (isR8s w20 aw nq cw q ∧ isR8s w20 ah nq ch q) := ⟨HE19.out.1.below b20, HE19.out.2.below b20⟩
  clear b20 HL19 HL18
  go_wp2_with fail
  refine (HQE.out HLE.out w20 ah ch aw cw HE20.out.2 HE20.out.1).mono ?_
  rintro o w21 ⟨rfl, b21⟩
  have HL21 : Hid (Below w.heap.size w w21) := HL20.out.trans (b21.mono HL20.out.size)
  clear b21 HE20 HL20
  go_wp2_with fail
  go_ret
  exact ⟨rfl, HL21.out⟩
end Go.Proofs.YtaamahohdnbpiaaGreat
namespace Go.Proofs.YtaamahohdnbpiaaGreat
open Go.ChangeShapes Go.WideShapes Go.ChangeAt Go.RowKit
open Go.ChangeMaps (open_string shut_string)
set_option linter.unusedVariables false

theorem fnExactDrain_own : ownKnob Tryz.prog.godebug = none := by kernel_rfl
theorem fnExactDrain_laidOut : laidOutB Tryz.prog = true := by kernel_rfl
set_option maxRecDepth 100000 in
theorem fnExactDrain_lifted (os : Os) (started : os.Started) (H : Type) (enc : TypeId × Value → H) :
    ReturnsInHanded {} Tryz.checked os 6 .any (Rows.fnExactDrainSpec.pre6 enc Tryz.prog Tryz.f6 Rows.fnExactDrainRow.domain false) (Rows.fnExactDrainSpec.post enc Tryz.prog Tryz.f6 false true false false) := by
  refine returnsInHanded_of_change (C := Tryz.checked) fnExactDrain_own started (by kernel_rfl) Tryz.func6
    (ChangeSpec.witness6 (enc := enc) (C := Tryz.checked) false ⟨#[], #[.agg #[.int .i64 0, .int .i64 0, .int .i64 0, .int .i64 0, .slice none 0 0, .slice none 0 0, .slice none 0 0, .slice none 0 0, .int .i64 0, .int .i64 0]], []⟩ 8 (by kernel_rfl) (by kernel_rfl) (by kernel_rfl) (by kernel_rfl)) ?_
  intro W base args ds gs before hval0 hW hcnd _
  have hval : ∀ (j : Nat) t v, Tryz.f6.params[j]? = some t → args[j]? = some v → Value.okWide Tryz.prog W .any base t v := hval0
  have hW' := hW
  obtain ⟨p, q, hA0, hV, rfl, hfz, hnd⟩ := hW
  have hA : DataW.TrodAll enc Tryz.prog W 0 (fun _ => true) true Tryz.f6.params.toList args.toList ds p := hA0
  rw [Tryz.params6] at hA hval
  obtain ⟨v0, vs0, d0, ds0, p0, q0, hargs, rfl, rfl, h0, r0⟩ := trodAll_cons hA
  obtain ⟨rfl, rfl, rfl⟩ := trodAll_nil r0
  obtain rfl : args = #[v0] := by cases args; simp_all
  obtain ⟨rfl, rfl⟩ := trodVars_none hV
  have k0 := h0
  have lt0 : ∀ x ∈ p0, x.block < W.heap.size := by obtain ⟨m, hm⟩ := k0; exact DataW.trod_lt m _ _ _ hm
  obtain ⟨C0, s0, rfl, w0, mm0⟩ := hostV_open (hval 0 61 v0 rfl rfl) h0
  clear hA0 hval0
  refine (lawDrain C0 s0 W w0 mm0).mono fun e W' ⟨he, bel⟩ => ?_
  subst he
  exact ⟨_, rfl, _, _, _, [], _, [], hW', trodAll_mk1 (shut_bool Tryz.underlying4 _), (trodAll_cons_mk (Below.trod fnExactDrain_laidOut (by kernel_rfl) (of_decide_eq_true (by kernel_rfl)) k0 bel lt0) trodAll_mk0), rfl, bel.frame _, fun h => by cases h⟩

theorem fnExactDrain_proved : Rows.FnExactDrainSaid :=
  OpenClaim.holds_of_wide 6 Tryz.f6 rfl rfl rfl rfl rfl rfl rfl ⟨rfl, rfl, rfl, rfl, rfl⟩ rfl rfl rfl rfl rfl (by kernel_rfl) Tryz.func6 (by kernel_rfl)
    (of_decide_eq_true (by kernel_rfl)) (by unfold Func.isWrapper; first | (rw [if_pos (by decide +kernel)]; kernel_rfl) | (rw [if_neg (by decide +kernel)]; exact ⟨rfl, rfl⟩))
    (fun os started H enc _ => fnExactDrain_lifted os started H enc)
end Go.Proofs.YtaamahohdnbpiaaGreat
