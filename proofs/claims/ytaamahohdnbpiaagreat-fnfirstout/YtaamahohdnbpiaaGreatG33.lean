import Derived.Test.YtaamahohdnbpiaaGreatOF
import Derived.Test.YtaamahohdnbpiaaGreatOA
import Derived.Test.YtaamahohdnbpiaaGreatNS
namespace Go.Proofs.YtaamahohdnbpiaaGreat
open Go.RowKit
set_option linter.unusedVariables false
theorem okHo.n3 {H : Ho} (h : okHo H) : H.ff.length ≤ 1000 := by
  have h1 := of_decide_eq_true h.cf
  have h2 := h.nf
  omega
end Go.Proofs.YtaamahohdnbpiaaGreat
namespace Go.Proofs.YtaamahohdnbpiaaGreat
open Go.RowKit
set_option linter.unusedVariables false
def freeIx (bx : List R8) : Nat := bx.findIdx (fun b => b.x == 0)
def subHo (H : Ho) (t : Int) (F : R5) : Ho :=
  if ¬ (0 ≤ t ∧ t ≤ 9999) then postHo H (ev3 5 0 1)
  else if validB F.e F.i F.r F.d F.l.length = false then postHo H (ev3 5 t 2)
  else if tagIx H.bx t < H.bx.length then postHo H (ev3 5 t 3)
  else if H.st = 1000000 then postHo H (ev3 5 t 4)
  else if freeIx H.bx < H.bx.length then { H with bx := H.bx.set (freeIx H.bx) ⟨1, t, H.st, F.e, F.i, F.r, F.d, F.l⟩, st := H.st + 1 }
  else postHo H (ev3 4 t 0)
structure sbS (w : World) (L F : List Value) (W : World) : Prop where
  p : blk W w.heap.size L 35
  f : blk W (w.heap.size + 1) F 25
  r : blk W (w.heap.size + 1 + 1) Z10 35
theorem sbS.below {w : World} {L F : List Value} {W W' : World} (h : sbS w L F W) (hb : Below W.heap.size W W') : sbS w L F W' := ⟨h.p.below hb, h.f.below hb, h.r.below hb⟩
theorem sbS.new (w : World) (L F : List Value) : sbS w L F (((w.alloc (.cells L.toArray 35)).alloc (.cells F.toArray 25)).alloc (.cells Z10.toArray 35)) := by
  refine ⟨((blk.new w _ 35).alloc _).alloc _, ?_, ?_⟩
  · have := (blk.new (w.alloc (.cells L.toArray 35)) F 25).alloc (.cells Z10.toArray 35)
    simpa using this
  · have := blk.new ((w.alloc (.cells L.toArray 35)).alloc (.cells F.toArray 25)) Z10 35
    have e : ((w.alloc (.cells L.toArray 35)).alloc (.cells F.toArray 25)).heap.size = w.heap.size + 1 + 1 := by simp
    rw [e] at this
    exact this
theorem bxR.putIs {B T g n k : Nat} {bx : List R8} {hs : Nat → Hd} {W V : World} (h : bxR B T g n k bx hs W) (i : Nat) (hi : i < bx.length) (b : R8) (hd : Hd) (hV : ∀ x, x ≠ g → B ≤ x → x < T → V.heap[x]? = W.heap[x]?) (hg : V.heap[g]? = (setRow W g (i * 8) (x8 (b, hd))).heap[g]?) (hb : isBytes V hd.1 hd.2.1 hd.2.2 b.l) : isR8s V (some ⟨g, 0, none⟩) n k (bx.set i b) := by
  have hln := h.len
  refine ⟨by rw [List.length_set]; exact h.len, h.cap, fun _ => ⟨g, 0, rfl, fun j hj => ?_⟩⟩
  have hj' : j < bx.length := by simpa using hj
  by_cases e : j = i
  · subst e
    rw [List.getElem_set_self]
    refine ⟨hd.1, hd.2.1, hd.2.2, ?_⟩
    rw [Nat.zero_add]
    refine x8_at8 (rangeAt.up ?_ hg) hb
    intro t u hu
    have ht : t < (x8 (b, hd)).length := (List.getElem?_eq_some_iff.mp hu).1
    have ht8 : t < 8 := by simpa [x8] using ht
    rw [setRow_at g _ _ _ t ht ((h.row (j * 8 + t) (by omega)).1)]
    rw [List.getElem?_eq_getElem ht] at hu
    exact hu
  · rw [List.getElem_set_ne (fun x => e x.symm)]
    refine ⟨(hs j).1, (hs j).2.1, (hs j).2.2, ?_⟩
    rw [Nat.zero_add]
    refine x8_at8 (rangeAt.up ?_ hg) ?_
    · intro t u hu
      have ht : t < 8 := by have := (List.getElem?_eq_some_iff.mp hu).1; simpa [x8] using this
      rw [setRow_other g _ _ _ _ (by simp [x8]; omega)]
      exact h.rng j hj' t u hu
    · obtain ⟨h1, h2⟩ := h.dat j hj'
      rcases h2 with ⟨e1, e2⟩ | ⟨b', e1, e2, e3, e4⟩
      · exact h1.none0 e2
      · rw [e1] at h1 ⊢
        exact h1.other (hV b' e4 e2 e3)
abbrev xHo (H : Ho) (bx : List R8) (st : Int) : Ho := { H with bx := bx, st := st }
theorem spS.put {B T0 T1 T2 gb : Nat} {H : Ho} {s : Sl} {W V : World} {hs : Nat → Hd} (h : spS B T0 T1 T2 H s W) (e2 : s.a2 = some ⟨gb, 0, none⟩) (hx : bxR T0 T1 gb s.n2 s.k2 H.bx hs W) (i : Nat) (hi : i < H.bx.length) (b : R8) (hd : Hd) (st : Int) (T : Nat) (hT : T2 ≤ T) (hq : ∃ g4, s.a4 = some ⟨g4, 0, none⟩ ∧ rowQ8 T2 T 46 g4 s.n4 s.k4 H.qu W) (hV : ∀ x, x ≠ gb → B ≤ x → x < T → V.heap[x]? = W.heap[x]?) (hg : V.heap[gb]? = (setRow W gb (i * 8) (x8 (b, hd))).heap[gb]?) (hb : isBytes V hd.1 hd.2.1 hd.2.2 b.l) : isHo V (xHo H (H.bx.set i b) st) s := by
  obtain ⟨o1, o2, o3, o4⟩ := h.o
  obtain ⟨gf, e1, h1a, h1b, h1⟩ := h.f
  obtain ⟨gq, e3, h3⟩ := h.r
  obtain ⟨g4, e4, h4⟩ := hq
  have hl := hx.lo
  have hh := hx.hi
  refine ⟨?_, ?_, ?_, ?_⟩
  · rw [e1]; exact h1.same (hV gf (by omega) (by omega) (by omega))
  · rw [e2]; exact hx.putIs i hi b hd (fun x h1 h2 h3 => hV x h1 (by omega) (by omega)) hg hb
  · rw [e3]; exact (h3.keep fun x h1 h2 => hV x (by omega) (by omega) (by omega)).is
  · rw [e4]; exact (h4.keep fun x h1 h2 => hV x (by omega) (by omega) h2).is
end Go.Proofs.YtaamahohdnbpiaaGreat
namespace Go.Proofs.YtaamahohdnbpiaaGreat
open Go.RowKit
set_option linter.unusedVariables false
theorem field97 (x y z : Int) (e : Bool) (i : Nat) (r : Bool) (d : Int) (ao : Option Addr) (m c : Nat) : ∀ w : World, (Instr.field 97 (.agg #[.int .i64 x, .int .i64 y, .int .i64 z, .bool e, .int .u32 (i : Int), .bool r, .int .i64 d, .slice ao m c]) 1).run Tryz.prog w = .ok (.int .i64 y) w := fun _ => by kernel_rfl
theorem relHo_sent {H : Ho} {k : Nat} {b : R8} (hk : k < H.bx.length) (ek : wireIx H.bx = k) (eb : H.bx[k] = b) : relHo H true = postHo (freeHo H k) ⟨1, b.y, 0, b.e, b.i, b.r, b.d, b.l⟩ := by
  subst ek
  subst eb
  unfold relHo
  rw [dif_pos hk, if_pos rfl]
theorem relHo_doom {H : Ho} {k : Nat} {b : R8} (hk : k < H.bx.length) (ek : wireIx H.bx = k) (eb : H.bx[k] = b) (hx : b.x = 3) : relHo H false = postHo (freeHo H k) (ev3 6 b.y 0) := by
  subst ek
  subst eb
  unfold relHo
  rw [dif_pos hk, if_neg (by simp), if_pos hx]
theorem relHo_wait {H : Ho} {k : Nat} {b : R8} (hk : k < H.bx.length) (ek : wireIx H.bx = k) (eb : H.bx[k] = b) (hx : b.x = 2) : relHo H false = stHo H k 1 := by
  subst ek
  subst eb
  unfold relHo
  rw [dif_pos hk, if_neg (by simp), if_neg (by omega)]
set_option maxHeartbeats 8000000 in
set_option maxRecDepth 20000 in
theorem release_any {w0 : World} {G : Lg} {H : Ho} {f1 f3 : Nat} {hs : Nat → Hd} {nm : Nat} {D : DataW Unit} {W : World} (h : lh w0 G H f1 f3 hs nm D W) (sent : Bool) (hwf : ∀ j (hj : j < H.bx.length), (Lit.int .i64 H.bx[j].y).wf = true) :
    Calls Tryz.prog 64 #[.pointer (some ⟨G.P, 0, none⟩), .bool sent] W fun o w' => o = .returned (.tuple #[]) ∧ ∃ hs' D', lh w0 G (relHo H sent) f1 f3 hs' nm D' w' := by
  have HOW : Hid (Calls Tryz.prog 131 #[.pointer (some ⟨G.P, 0, none⟩)] W fun o w' => ∃ z : Int, o = .returned (.int .i64 z) ∧ bsy H.bx z ∧ Below W.heap.size W w') := onWire_any W G.P _ G.n2 G.kb H.bx (h.p.cell 5 _ rfl) (h.x.is h.bd.nk) (by have := h.bd.m2; omega)
  have HL : Hid (lh w0 G H f1 f3 hs nm D W) := h
  have HWF : Hid (∀ j (hj : j < H.bx.length), (Lit.int .i64 H.bx[j].y).wf = true) := hwf
  clear h hwf
  go_enter Tryz.func64, Tryz.ntmps64
  go_wp2_with fail
  refine HOW.out.mono ?_
  rintro o w5 ⟨z, rfl, hz, hb5⟩
  have HL5 : Hid (lh w0 G H f1 f3 hs nm D w5) := HL.out.below hb5
  have hR := hz.ix
  clear HOW HL hz hb5
  rcases hR with ⟨rfl, hno⟩ | ⟨rfl, hk⟩
  · have HT : Hid (relHo H sent = H) := relHo_none hno
    go_wp2_with fail
    first | go_end0 | (simp only [Exit.inBlock, Exit.then]; refine bodyPost_ret (results_none rfl _ _ _) rfl ?_) | refine bodyPost_ret (results_none rfl _ _ _) rfl ?_
    exact ⟨rfl, hs, D, by rw [HT.out]; exact HL5.out⟩
  · have hon := wireIx_on hk
    generalize ek : wireIx H.bx = k at *
    have HEK : Hid (wireIx H.bx = k) := ek
    clear ek
    obtain ⟨b, eb⟩ : ∃ b, H.bx[k] = b := ⟨_, rfl⟩
    obtain ⟨ao, m, c, eh⟩ : ∃ ao m c, hs k = (ao, m, c) := ⟨_, _, _, rfl⟩
    have HV : Hid (Calls Tryz.prog 132 #[.pointer (some ⟨G.P, 0, none⟩), .int .i64 (k : Int)] w5 fun o w' => o = .returned (.agg #[.int .i64 b.x, .int .i64 b.y, .int .i64 b.z, .bool b.e, .int .u32 (b.i : Int), .bool b.r, .int .i64 b.d, .slice ao m c]) ∧ lh w0 G (freeHo H k) f1 f3 (fun j => if j = k then (none, 0, 0) else hs j) nm (D.del (.int .i64 b.y)) w' ∧ (∀ q, q ≠ G.gb → q ≠ G.mb → q < w5.heap.size → w'.heap[q]? = w5.heap[q]?) ∧ w5.heap.size ≤ w'.heap.size) := vacate_any HL5.out k hk b eb ao m c eh (by rw [← eb]; exact HWF.out k hk)
    have HBY : Hid (isBytes w0 ao m c b.l ∧ b.l.length ≤ 1048576) := by
      have h1 := HL5.out.x.old k hk (Nat.zero_le _)
      have h2 := HL5.out.x.sm k hk
      rw [eb, eh] at h1
      rw [eb] at h2
      exact ⟨h1, h2⟩
    have HY0 : Hid (w5.cell? ⟨G.gb, k * 8, none⟩ = some (.int .i64 b.x)) := by
      have := HL5.out.x.rng k hk 0 _ rfl
      rw [eb] at this
      exact this
    have hf0 : w5.frozen? ⟨G.gb, k * 8, none⟩ = false := (HL5.out.x.row (k * 8) (by have := HL5.out.x.len; omega)).2
    have y5 := HL5.out.p.cell 5 _ rfl
    have hkn : k < G.n2 := by have := HL5.out.x.len; omega
    have hcp := HL5.out.bd.nk
    have hm2 := HL5.out.bd.m2
    have HEB : Hid (∃ hk : k < H.bx.length, H.bx[k] = b) := ⟨hk, eb⟩
    have HKK : Hid (k < H.bx.length) := hk
    rw [eb] at hon
    clear eb eh
    cases sent
    · rcases hon with e0 | e0
      · have HT : Hid (relHo H false = stHo H k 1) := relHo_wait HKK.out HEK.out HEB.out.2 e0
        have y0 := HY0.out
        rw [e0] at y0
        go_wp2_with fail
        first | go_end0 | (simp only [Exit.inBlock, Exit.then]; refine bodyPost_ret (results_none rfl _ _ _) rfl ?_) | refine bodyPost_ret (results_none rfl _ _ _) rfl ?_
        exact ⟨rfl, hs, D, by rw [HT.out]; exact HL5.out.state k HKK.out 1⟩
      · have HT : Hid (relHo H false = postHo (freeHo H k) (ev3 6 b.y 0)) := relHo_doom HKK.out HEK.out HEB.out.2 e0
        have y0 := HY0.out
        rw [e0] at y0
        go_wp2_with fail
        refine HV.out.mono ?_
        rintro o w6 ⟨rfl, hl6, _, _⟩
        have HP : Hid (Calls Tryz.prog 120 #[.pointer (some ⟨G.P, 0, none⟩), .agg #[.int .i64 6, .int .i64 b.y, .int .i64 0, .bool false, .int .u32 0, .bool false, .int .i64 0, .slice none 0 0]] w6 fun o w' => o = .returned (.tuple #[]) ∧ lh w0 G (postHo (freeHo H k) (ev3 6 b.y 0)) f1 f3 (fun j => if j = k then (none, 0, 0) else hs j) nm (D.del (.int .i64 b.y)) w' ∧ (∀ q, q ≠ G.P → q ≠ G.gq → q < w6.heap.size → w'.heap[q]? = w6.heap[q]?) ∧ w6.heap.size ≤ w'.heap.size) := hl6.post (ev3 6 b.y 0) none 0 0 (none8 _) (Nat.zero_le _)
        clear hl6 HV
        have hfd := field97 3 b.y b.z b.e b.i b.r b.d ao m c
        go_wp2_with fail
        refine HP.out.mono ?_
        rintro o w7 ⟨rfl, hl7, _, _⟩
        have HL7 : Hid (lh w0 G (postHo (freeHo H k) (ev3 6 b.y 0)) f1 f3 (fun j => if j = k then (none, 0, 0) else hs j) nm (D.del (.int .i64 b.y)) w7) := hl7
        clear hl7 HP
        go_wp2_with fail
        first | go_end0 | (simp only [Exit.inBlock, Exit.then]; refine bodyPost_ret (results_none rfl _ _ _) rfl ?_) | refine bodyPost_ret (results_none rfl _ _ _) rfl ?_
        exact ⟨rfl, _, _, by rw [HT.out]; exact HL7.out⟩
    · have HT : Hid (relHo H true = postHo (freeHo H k) ⟨1, b.y, 0, b.e, b.i, b.r, b.d, b.l⟩) := relHo_sent HKK.out HEK.out HEB.out.2
      obtain ⟨bX, bY, bZ, bE, bI, bR, bD, bL⟩ := b
      go_wp2_with fail
      refine HV.out.mono ?_
      rintro o w6 ⟨rfl, hl6, _, _⟩
      have hbA : Below w6.heap.size w6 (w6.alloc (.cells [.int .i64 bX, .int .i64 bY, .int .i64 bZ, .bool bE, .int .u32 (bI : Int), .bool bR, .int .i64 bD, .slice ao m c].toArray 97)) := (Below.refl _ _).alloc (Nat.le_refl _) _
      have HP : Hid (Calls Tryz.prog 120 #[.pointer (some ⟨G.P, 0, none⟩), .agg #[.int .i64 1, .int .i64 bY, .int .i64 0, .bool bE, .int .u32 (bI : Int), .bool bR, .int .i64 bD, .slice ao m c]] (w6.alloc (.cells [.int .i64 bX, .int .i64 bY, .int .i64 bZ, .bool bE, .int .u32 (bI : Int), .bool bR, .int .i64 bD, .slice ao m c].toArray 97)) fun o w' => o = .returned (.tuple #[]) ∧ lh w0 G (postHo (freeHo H k) ⟨1, bY, 0, bE, bI, bR, bD, bL⟩) f1 f3 (fun j => if j = k then (none, 0, 0) else hs j) nm (D.del (.int .i64 bY)) w' ∧ (∀ q, q ≠ G.P → q ≠ G.gq → q < (w6.alloc (.cells [.int .i64 bX, .int .i64 bY, .int .i64 bZ, .bool bE, .int .u32 (bI : Int), .bool bR, .int .i64 bD, .slice ao m c].toArray 97)).heap.size → w'.heap[q]? = (w6.alloc (.cells [.int .i64 bX, .int .i64 bY, .int .i64 bZ, .bool bE, .int .u32 (bI : Int), .bool bR, .int .i64 bD, .slice ao m c].toArray 97)).heap[q]?) ∧ (w6.alloc (.cells [.int .i64 bX, .int .i64 bY, .int .i64 bZ, .bool bE, .int .u32 (bI : Int), .bool bR, .int .i64 bD, .slice ao m c].toArray 97)).heap.size ≤ w'.heap.size) := (hl6.below hbA).post ⟨1, bY, 0, bE, bI, bR, bD, bL⟩ ao m c HBY.out.1 HBY.out.2
      have HPB : Hid (blk (w6.alloc (.cells [.int .i64 bX, .int .i64 bY, .int .i64 bZ, .bool bE, .int .u32 (bI : Int), .bool bR, .int .i64 bD, .slice ao m c].toArray 97)) w6.heap.size [.int .i64 bX, .int .i64 bY, .int .i64 bZ, .bool bE, .int .u32 (bI : Int), .bool bR, .int .i64 bD, .slice ao m c] 97) := blk.new w6 _ 97
      have y1 : (w6.alloc (.cells [.int .i64 bX, .int .i64 bY, .int .i64 bZ, .bool bE, .int .u32 (bI : Int), .bool bR, .int .i64 bD, .slice ao m c].toArray 97)).cell? ⟨w6.heap.size, 1, none⟩ = some (.int .i64 bY) := HPB.out.cell 1 _ rfl
      clear hl6 hbA HV
      go_wp2_with (first
        | (refine wpList_load_mid (P := Tryz.prog) rfl 25 _ rfl w6.heap.size 3 rfl [.bool bE, .int .u32 (bI : Int), .bool bR, .int .i64 bD, .slice ao m c] _ (blk.loadAt [.int .i64 bX, .int .i64 bY, .int .i64 bZ] [.bool bE, .int .u32 (bI : Int), .bool bR, .int .i64 bD, .slice ao m c] [] HPB.out) Tryz.underlying25 rfl sz93 ?_))
      refine HP.out.mono ?_
      rintro o w7 ⟨rfl, hl7, _, _⟩
      have HL7 : Hid (lh w0 G (postHo (freeHo H k) ⟨1, bY, 0, bE, bI, bR, bD, bL⟩) f1 f3 (fun j => if j = k then (none, 0, 0) else hs j) nm (D.del (.int .i64 bY)) w7) := hl7
      clear hl7 HP
      go_wp2_with fail
      first | go_end0 | (simp only [Exit.inBlock, Exit.then]; refine bodyPost_ret (results_none rfl _ _ _) rfl ?_) | refine bodyPost_ret (results_none rfl _ _ _) rfl ?_
      exact ⟨rfl, _, _, by rw [HT.out]; exact HL7.out⟩
set_option maxHeartbeats 1000000 in
theorem lit63 {w0 : World} {G : Lg} {H : Ho} {f1 f3 : Nat} {hs : Nat → Hd} {nm : Nat} {D : DataW Unit} {W : World} (h : lh w0 G H f1 f3 hs nm D W) (Bx : Nat) (sent : Bool) (yb : W.cell? ⟨Bx, 0, none⟩ = some (.bool sent)) (hwf : ∀ j (hj : j < H.bx.length), (Lit.int .i64 H.bx[j].y).wf = true) :
    Calls Tryz.prog 63 #[.pointer (some ⟨G.P, 0, none⟩), .pointer (some ⟨Bx, 0, none⟩)] W fun o w' => o = .returned (.tuple #[]) ∧ ∃ hs' D', lh w0 G (relHo H sent) f1 f3 hs' nm D' w' := by
  have HS : Hid (Calls Tryz.prog 64 #[.pointer (some ⟨G.P, 0, none⟩), .bool sent] W fun o w' => o = .returned (.tuple #[]) ∧ ∃ hs' D', lh w0 G (relHo H sent) f1 f3 hs' nm D' w') := release_any h sent hwf
  clear h hwf
  go_enter Tryz.func63, Tryz.ntmps63
  go_wp2_with (first | (go_at_call 64; refine HS.out.mono ?_; rintro o w5 ⟨rfl, hs', D', hq⟩; have HQ : Hid (lh w0 G (relHo H sent) f1 f3 hs' nm D' w5) := hq; clear hq))
  first | go_end0 | (simp only [Exit.inBlock, Exit.then]; refine bodyPost_ret (results_none rfl _ _ _) rfl ?_) | refine bodyPost_ret (results_none rfl _ _ _) rfl ?_
  exact ⟨rfl, hs', D', HQ.out⟩
theorem okBxs.wf {st : Int} {bx : List R8} (h : okBxs st bx) : ∀ j (hj : j < bx.length), (Lit.int .i64 bx[j].y).wf = true := fun j hj => by
  have := h.1 j hj
  unfold okBx at this
  split at this
  · rw [this.1]
    exact wf_small (by omega) (by omega)
  · exact wf_small (by omega) (by omega)
theorem open_release (w : World) (H : Ho) (s : Sl) (Bx : Nat) (sent : Bool) (h : isHo w H s) (hs : slSome s) (hok : okHo H) (hm : H.le 1048576) (yb : w.cell? ⟨Bx, 0, none⟩ = some (.bool sent)) :
    Calls Tryz.prog 61 #[.agg (hoL H s).toArray] w fun o w' => ∃ P, o = .returned (.pointer (some ⟨P, 0, none⟩)) ∧ Below w.heap.size w w' ∧ Calls Tryz.prog 63 #[.pointer (some ⟨P, 0, none⟩), .pointer (some ⟨Bx, 0, none⟩)] w' fun o w2 => o = .returned (.tuple #[]) ∧ Below w.heap.size w w2 ∧ Calls Tryz.prog 118 #[.pointer (some ⟨P, 0, none⟩)] w2 (toldQ w2 (relHo H sent)) := by
  refine (open_lh w H s h hs hok hm).mono ?_
  rintro o w' ⟨G, hd, rfl, hl, hn⟩
  refine ⟨G.P, rfl, hl.b, (lit63 hl Bx sent ((hl.b.cell (by exact World.block_lt_of_cell? w _ yb)).trans yb) hok.bx.wf).mono ?_⟩
  rintro o w2 ⟨rfl, hs', D', h2⟩
  exact ⟨rfl, h2.b, h2.told⟩
end Go.Proofs.YtaamahohdnbpiaaGreat
namespace Go.Proofs.YtaamahohdnbpiaaGreat
open Go.RowKit
set_option linter.unusedVariables false
theorem zero3 (w : World) : (zeroValue 3).run Tryz.prog w = .ok (.int .i64 0) w := by kernel_rfl
end Go.Proofs.YtaamahohdnbpiaaGreat
namespace Go.Proofs.YtaamahohdnbpiaaGreat
open Go.RowKit
set_option linter.unusedVariables false
structure sbT (w : World) (L F : List Value) (W : World) : Prop where
  s : sbS w L F W
  b : Below w.heap.size w W
theorem sbT.below {w : World} {L F : List Value} {W W' : World} (h : sbT w L F W) (hb : Below W.heap.size W W') : sbT w L F W' := ⟨h.s.below hb, h.b.trans (hb.mono h.b.size)⟩
theorem sbT.new (w : World) (L F : List Value) : sbT w L F (((w.alloc (.cells L.toArray 35)).alloc (.cells F.toArray 25)).alloc (.cells Z10.toArray 35)) := ⟨sbS.new w L F, (((Below.refl _ _).alloc (Nat.le_refl _) _).alloc (by simp) _).alloc (by simp; omega) _⟩
end Go.Proofs.YtaamahohdnbpiaaGreat
namespace Go.Proofs.YtaamahohdnbpiaaGreat
open Go.RowKit
set_option linter.unusedVariables false
theorem isFree_any (w : World) (b : R8) (a : Option Addr) (n cap : Nat) :
    Calls Tryz.prog 165 #[bxV b.x b.y b.z b.e b.i b.r b.d a n cap] w fun o w' => o = .returned (.bool (b.x == 0)) ∧ Below w.heap.size w w' := by
  obtain ⟨x, y, z, e, i, r, d, l⟩ := b
  have HA : Hid (Below w.heap.size w (w.alloc (.cells #[.int .i64 x, .int .i64 y, .int .i64 z, .bool e, .int .u32 (i : Int), .bool r, .int .i64 d, .slice a n cap] 97))) := (Below.refl _ _).alloc (Nat.le_refl _) _
  go_enter Tryz.func165, Tryz.ntmps165
  go_wp2
  go_ret
  exact ⟨rfl, HA.out⟩
set_option maxHeartbeats 4000000 in
set_option maxRecDepth 20000 in
theorem indexFree_any (w : World) (a : Option Addr) (n cap : Nat) (bs : List R8) (h : isR8s w a n cap bs) (hn : n ≤ 1048576) :
    Calls Tryz.prog 164 #[.slice a n cap, .func (.func 165) #[] #[]] w fun o w' => ∃ z : Int, o = .returned (.int .i64 z) ∧ fstB (fun b => b.x = 0) bs z ∧ Below w.heap.size w w' := by
  have hlen := h.len
  have hcp := h.cap
  by_cases hl : bs = []
  · subst hl
    have hn0 : n = 0 := hlen
    subst hn0
    clear hlen h
    go_enter Tryz.func164, Tryz.ntmps164
    go_wp2
    go_loopw [8] (fun i wr => i = .int .i64 0 ∧ wr = w) (fun _ _ => 0)
    case atStart => exact ⟨rfl, rfl⟩
    case round =>
      obtain ⟨rfl, rfl⟩ := hrel
      go_wp2
      go_ret
      exact ⟨-1, rfl, Or.inr ⟨fun k hk => (by cases hk), rfl⟩, Below.refl _ _⟩
  · obtain ⟨g, off, rfl, hc⟩ := h.cells hl
    have HL : Hid (n = bs.length) := hlen
    have HC : Hid (∀ j (h : j < bs.length), ∃ ao m c, at8 w g (off + j * 8) bs[j] ao m c) := hc
    clear h hlen hc
    go_enter Tryz.func164, Tryz.ntmps164
    go_wp2
    go_loopw [8] (fun i wr => ∃ k : Nat, k ≤ n ∧ i = .int .i64 (k : Int) ∧ (∀ j (hj : j < bs.length), j < k → ¬ bs[j].x = 0) ∧ Below w.heap.size w wr) (fun i _ => n - (intOf i).toNat)
    case atStart => exact ⟨0, Nat.zero_le _, rfl, fun j hj h => absurd h (Nat.not_lt_zero _), Below.refl _ _⟩
    case round =>
      obtain ⟨k, hk, rfl, hdone, hb⟩ := hrel
      by_cases hlt : k < n
      · have hkl : k < bs.length := by have := HL.out; omega
        obtain ⟨ao, m, c, hx⟩ := HC.out k hkl
        have hx' := hx.below hb
        have HRG := hx'.range
        have HW : Hid (Calls Tryz.prog 165 #[bxV bs[k].x bs[k].y bs[k].z bs[k].e bs[k].i bs[k].r bs[k].d ao m c] wr fun o w' => o = .returned (.bool (bs[k].x == 0)) ∧ Below wr.heap.size wr w') := isFree_any wr bs[k] ao m c
        have HB : Hid (Below w.heap.size w wr) := hb
        have HD : Hid (∀ j (hj : j < bs.length), j < k → ¬ bs[j].x = 0) := hdone
        clear hx hx' hb hdone
        have HON : Hid ((bs[k].x == 0) = true ↔ bs[k].x = 0) := by show _ ↔ _; simp
        generalize (bs[k].x == 0) = q at *
        have HRG : Hid (wr.rangeAt g (off + k * 8) [.int .i64 bs[k].x, .int .i64 bs[k].y, .int .i64 bs[k].z, .bool bs[k].e, .int .u32 (bs[k].i : Int), .bool bs[k].r, .int .i64 bs[k].d, .slice ao m c]) := HRG
        cases q
        · have HN : Hid (∀ j (hj : j < bs.length), j < k + 1 → ¬ bs[j].x = 0) := fun j hj hjk => by
            by_cases e : j = k
            · subst e; exact fun h => absurd (HON.out.2 h) (by simp)
            · exact HD.out j hj (by omega)
          clear HON
          generalize bs[k].x = x0 at *
          generalize bs[k].y = y0 at *
          generalize bs[k].z = z0 at *
          generalize bs[k].e = e0 at *
          generalize bs[k].i = i0 at *
          generalize bs[k].r = r0 at *
          generalize bs[k].d = d0 at *
          go_wp2_with (first
            | (refine wpList_load_mid (P := Tryz.prog) rfl 97 _ rfl g (off + k * 8) rfl _ _ HRG.out Tryz.underlying97 rfl sz95 ?_)
            | (go_at_call 165; refine HW.out.mono ?_; rintro o w5 ⟨rfl, hb5⟩))
          go_roundw
          case rel => exact ⟨k + 1, by omega, by go_num, HN.out, HB.out.trans (hb5.mono HB.out.size)⟩
          case measure => simp [intOf]; omega
        · have HN : Hid (fstB (fun b => b.x = 0) bs (k : Int)) := Or.inl ⟨k, hkl, HON.out.1 rfl, HD.out, rfl⟩
          clear HON
          generalize bs[k].x = x0 at *
          generalize bs[k].y = y0 at *
          generalize bs[k].z = z0 at *
          generalize bs[k].e = e0 at *
          generalize bs[k].i = i0 at *
          generalize bs[k].r = r0 at *
          generalize bs[k].d = d0 at *
          go_wp2_with (first
            | (refine wpList_load_mid (P := Tryz.prog) rfl 97 _ rfl g (off + k * 8) rfl _ _ HRG.out Tryz.underlying97 rfl sz95 ?_)
            | (go_at_call 165; refine HW.out.mono ?_; rintro o w5 ⟨rfl, hb5⟩))
          go_ret
          exact ⟨k, rfl, HN.out, HB.out.trans (hb5.mono HB.out.size)⟩
      · have hkn : n = k := by omega
        subst hkn
        go_wp2
        go_ret
        exact ⟨-1, rfl, Or.inr ⟨fun j hj => hdone j hj (by have := HL.out; omega), rfl⟩, hb⟩

theorem fstB.free {bx : List R8} {r : Int} (h : fstB (fun b => b.x = 0) bx r) : (r = -1 ∧ ¬ freeIx bx < bx.length) ∨ (r = (freeIx bx : Int) ∧ freeIx bx < bx.length) := by
  rcases h with ⟨k, hk, h1, h2, rfl⟩ | ⟨h1, rfl⟩
  · right
    have e : freeIx bx = k := by
      unfold freeIx
      rw [List.findIdx_eq hk]
      exact ⟨by simp only [beq_iff_eq]; exact h1, fun j hj => by simpa using h2 j (by omega) hj⟩
    rw [e]
    exact ⟨rfl, hk⟩
  · left
    refine ⟨rfl, ?_⟩
    have : freeIx bx = bx.length := List.findIdx_eq_length.2 fun b hb => by
      obtain ⟨j, hj, rfl⟩ := List.getElem_of_mem hb
      simpa using h1 j hj
    omega
set_option maxHeartbeats 2000000 in
theorem freeBox_any (w : World) (P : Nat) (a : Option Addr) (n cap : Nat) (bx : List R8) (y5 : w.cell? ⟨P, 5, none⟩ = some (.slice a n cap)) (h : isR8s w a n cap bx) (hn : n ≤ 1048576) :
    Calls Tryz.prog 121 #[.pointer (some ⟨P, 0, none⟩)] w fun o w' => ∃ z : Int, o = .returned (.int .i64 z) ∧ fstB (fun b => b.x = 0) bx z ∧ Below w.heap.size w w' := by
  have HI : Hid (Calls Tryz.prog 164 #[.slice a n cap, .func (.func 165) #[] #[]] w fun o w' => ∃ z : Int, o = .returned (.int .i64 z) ∧ fstB (fun b => b.x = 0) bx z ∧ Below w.heap.size w w') := indexFree_any w a n cap bx h hn
  clear h
  go_enter Tryz.func121, Tryz.ntmps121
  go_wp2_with (first | (go_at_call 164; refine HI.out.mono ?_; rintro o w5 ⟨z, rfl, hz, hb5⟩; have HZ : Hid (fstB (fun b => b.x = 0) bx z ∧ Below w.heap.size w w5) := ⟨hz, hb5⟩; clear hz hb5))
  go_ret
  exact ⟨z, rfl, HZ.out.1, HZ.out.2⟩
theorem lh.freeBox {w0 : World} {G : Lg} {H : Ho} {f1 f3 : Nat} {hs : Nat → Hd} {nm : Nat} {D : DataW Unit} {W : World} (h : lh w0 G H f1 f3 hs nm D W) : Calls Tryz.prog 121 #[.pointer (some ⟨G.P, 0, none⟩)] W fun o w' => ∃ z : Int, o = .returned (.int .i64 z) ∧ ((z = -1 ∧ ¬ freeIx H.bx < H.bx.length) ∨ (z = (freeIx H.bx : Int) ∧ freeIx H.bx < H.bx.length)) ∧ Below W.heap.size W w' := (freeBox_any W G.P _ G.n2 G.kb H.bx (h.p.cell 5 _ rfl) (h.x.is h.bd.nk) (by have := h.bd.m2; omega)).mono (by rintro o w' ⟨z, rfl, hz, hb⟩; exact ⟨z, rfl, hz.free, hb⟩)
def refEv (H : Ho) (t : Int) (F : R5) : R8 :=
  if ¬ (0 ≤ t ∧ t ≤ 9999) then ev3 5 0 1
  else if validB F.e F.i F.r F.d F.l.length = false then ev3 5 t 2
  else if tagIx H.bx t < H.bx.length then ev3 5 t 3
  else if H.st = 1000000 then ev3 5 t 4
  else if freeIx H.bx < H.bx.length then ev3 0 0 0
  else ev3 4 t 0
theorem subHo_ref {H : Ho} {t : Int} {F : R5} : ((refEv H t F).x ≠ 0 ∧ subHo H t F = postHo H (refEv H t F) ∧ (refEv H t F).l = [] ∧ refEv H t F = ev3 (refEv H t F).x (refEv H t F).y (refEv H t F).z) ∨ (refEv H t F = ev3 0 0 0 ∧ (0 ≤ t ∧ t ≤ 9999) ∧ ¬ tagIx H.bx t < H.bx.length ∧ freeIx H.bx < H.bx.length ∧ subHo H t F = xHo H (H.bx.set (freeIx H.bx) ⟨1, t, H.st, F.e, F.i, F.r, F.d, F.l⟩) (H.st + 1) ∧ H.st ≠ 1000000) := by
  unfold refEv subHo
  by_cases c1 : ¬ (0 ≤ t ∧ t ≤ 9999)
  · rw [if_pos c1, if_pos c1]; exact Or.inl ⟨by simp, rfl, rfl, rfl⟩
  · rw [if_neg c1, if_neg c1]
    by_cases c2 : validB F.e F.i F.r F.d F.l.length = false
    · rw [if_pos c2, if_pos c2]; exact Or.inl ⟨by simp, rfl, rfl, rfl⟩
    · rw [if_neg c2, if_neg c2]
      by_cases c3 : tagIx H.bx t < H.bx.length
      · rw [if_pos c3, if_pos c3]; exact Or.inl ⟨by simp, rfl, rfl, rfl⟩
      · rw [if_neg c3, if_neg c3]
        by_cases c4 : H.st = 1000000
        · rw [if_pos c4, if_pos c4]; exact Or.inl ⟨by simp, rfl, rfl, rfl⟩
        · rw [if_neg c4, if_neg c4]
          by_cases c5 : freeIx H.bx < H.bx.length
          · rw [if_pos c5, if_pos c5]; exact Or.inr ⟨rfl, Classical.not_not.1 c1, c3, c5, rfl, c4⟩
          · rw [if_neg c5, if_neg c5]; exact Or.inl ⟨by simp, rfl, rfl, rfl⟩
set_option maxHeartbeats 8000000 in
set_option maxRecDepth 20000 in
theorem refusal_any {w0 : World} {G : Lg} {H : Ho} {f1 f3 : Nat} {hs : Nat → Hd} {nm : Nat} {D : DataW Unit} {W : World} (h : lh w0 G H f1 f3 hs nm D W) (t : Int) (F : R5) (fa : Option Addr) (fm fc : Nat) (hf : isBytes W fa fm fc F.l) (hwt : (Lit.int .i64 t).wf = true) (hD : (tagIx H.bx t < H.bx.length ∧ Maps.has D (.int .i64 t) = true) ∨ (¬ tagIx H.bx t < H.bx.length ∧ Maps.has D (.int .i64 t) = false)) :
    Calls Tryz.prog 119 #[.pointer (some ⟨G.P, 0, none⟩), .int .i64 t, frV F.e F.i F.r F.d fa fm fc] W fun o w' => o = .returned (.agg #[.int .i64 (refEv H t F).x, .int .i64 (refEv H t F).y, .int .i64 (refEv H t F).z, .bool false, .int .u32 0, .bool false, .int .i64 0, .slice none 0 0]) ∧ Below W.heap.size W w' := by
  have hbA : Below W.heap.size W ((W.alloc (.cells [.bool F.e, .int .u32 (F.i : Int), .bool F.r, .int .i64 F.d, .slice fa fm fc].toArray 25)).alloc (.cells [.int .i64 0, .int .i64 0, .int .i64 0, .bool false, .int .u32 0, .bool false, .int .i64 0, .slice none 0 0].toArray 46)) := ((Below.refl _ _).alloc (Nat.le_refl _) _).alloc (by simp) _
  have HBA : Hid (Below W.heap.size W ((W.alloc (.cells [.bool F.e, .int .u32 (F.i : Int), .bool F.r, .int .i64 F.d, .slice fa fm fc].toArray 25)).alloc (.cells [.int .i64 0, .int .i64 0, .int .i64 0, .bool false, .int .u32 0, .bool false, .int .i64 0, .slice none 0 0].toArray 46))) := hbA
  have HA : Hid (blk ((W.alloc (.cells [.bool F.e, .int .u32 (F.i : Int), .bool F.r, .int .i64 F.d, .slice fa fm fc].toArray 25)).alloc (.cells [.int .i64 0, .int .i64 0, .int .i64 0, .bool false, .int .u32 0, .bool false, .int .i64 0, .slice none 0 0].toArray 46)) W.heap.size [.bool F.e, .int .u32 (F.i : Int), .bool F.r, .int .i64 F.d, .slice fa fm fc] 25 ∧ blk ((W.alloc (.cells [.bool F.e, .int .u32 (F.i : Int), .bool F.r, .int .i64 F.d, .slice fa fm fc].toArray 25)).alloc (.cells [.int .i64 0, .int .i64 0, .int .i64 0, .bool false, .int .u32 0, .bool false, .int .i64 0, .slice none 0 0].toArray 46)) (W.heap.size + 1) [.int .i64 0, .int .i64 0, .int .i64 0, .bool false, .int .u32 0, .bool false, .int .i64 0, .slice none 0 0] 46) := by
    refine ⟨(blk.new W _ 25).alloc _, ?_⟩
    have := blk.new (W.alloc (.cells [.bool F.e, .int .u32 (F.i : Int), .bool F.r, .int .i64 F.d, .slice fa fm fc].toArray 25)) [.int .i64 0, .int .i64 0, .int .i64 0, .bool false, .int .u32 0, .bool false, .int .i64 0, .slice none 0 0] 46
    have e : (W.alloc (.cells [.bool F.e, .int .u32 (F.i : Int), .bool F.r, .int .i64 F.d, .slice fa fm fc].toArray 25)).heap.size = W.heap.size + 1 := by simp
    rw [e] at this
    exact this
  have HLA : Hid (lh w0 G H f1 f3 hs nm D ((W.alloc (.cells [.bool F.e, .int .u32 (F.i : Int), .bool F.r, .int .i64 F.d, .slice fa fm fc].toArray 25)).alloc (.cells [.int .i64 0, .int .i64 0, .int .i64 0, .bool false, .int .u32 0, .bool false, .int .i64 0, .slice none 0 0].toArray 46))) := h.below hbA
  have y6 := HLA.out.p.cell 6 _ rfl
  have HK : Hid (keyOf Tryz.prog 3 (.int .i64 t) = some (.int .i64 t)) := key3 hwt
  have HVL : Hid (∀ X, Below W.heap.size W X → Calls Tryz.prog 153 #[frV F.e F.i F.r F.d fa fm fc] X fun o w' => o = .returned (.bool (validB F.e F.i F.r F.d fm)) ∧ Below X.heap.size X w') := fun X hX => valid_any X _ _ _ _ _ _ _ _ (hf.below hX)
  have HFL : Hid (fm = F.l.length) := hf.len
  clear h hbA hwt hf
  obtain ⟨hu, HH⟩ : ∃ u : Bool, Hid (Maps.has D (.int .i64 t) = u) ∧ (u = true ↔ tagIx H.bx t < H.bx.length) := by
    rcases hD with ⟨h1, h2⟩ | ⟨h1, h2⟩
    · exact ⟨true, h2, by simp [h1]⟩
    · exact ⟨false, h2, by simp [h1]⟩
  obtain ⟨HH, hiff⟩ := HH
  have HIF : Hid (hu = true ↔ tagIx H.bx t < H.bx.length) := hiff
  clear hD hiff
  by_cases ht : 0 ≤ t ∧ t ≤ 9999
  · have HIR : Hid (∀ X, Calls Tryz.prog 115 #[.int .i64 t, .int .i64 0, .int .i64 9999] X fun o w' => o = .returned (.bool true) ∧ w' = X) := fun X => (inRange_any X _ _ _).mono (by rintro o w' ⟨rfl, rfl⟩; exact ⟨by simp; omega, rfl⟩)
    go_enter Tryz.func119, Tryz.ntmps119
    go_wp2_with (first | (refine wpList_lookup_own_ok_int _ rfl _ _ 128 rfl 3 3 .i64 keyed3 Tryz.underlying128 Tryz.underlying3 (zero3 _) G.mb nm D rfl HLA.out.m _ _ rfl HK.out ?_; intro c hat hwc; rw [HH.out]) | (go_at_call 115; refine (HIR.out _).mono ?_; rintro o w1 ⟨rfl, rfl⟩) | (refine wpList_load_mid (P := Tryz.prog) rfl 25 _ rfl W.heap.size 0 rfl [.bool F.e, .int .u32 (F.i : Int), .bool F.r, .int .i64 F.d, .slice fa fm fc] _ HA.out.1.load Tryz.underlying25 rfl sz93 ?_))
    refine (HVL.out _ HBA.out).mono ?_
    rintro o w1 ⟨rfl, hb1⟩
    have HB1 : Hid (Below W.heap.size W w1) := HBA.out.trans (hb1.mono HBA.out.size)
    have HA1 : Hid (blk w1 (W.heap.size + 1) [.int .i64 0, .int .i64 0, .int .i64 0, .bool false, .int .u32 0, .bool false, .int .i64 0, .slice none 0 0] 46) := HA.out.2.below hb1
    have HL1 : Hid (lh w0 G H f1 f3 hs nm D w1) := HLA.out.below hb1
    clear hb1 HBA HA HLA y6
    by_cases hv : validB F.e F.i F.r F.d fm = true
    · rw [hv]
      have HV : Hid (validB F.e F.i F.r F.d F.l.length = true) := by show _ = _; rw [← HFL.out]; exact hv
      cases hu
      · have hno : ¬ tagIx H.bx t < H.bx.length := fun h => by have := HIF.out.2 h; cases this
        have y14 : w1.cell? ⟨G.P, 14, none⟩ = some (.int .i64 H.st) := HL1.out.p.cell 14 _ rfl
        by_cases h9 : H.st = 1000000
        · have HRF : Hid (refEv H t F = ev3 5 t 4) := by
            show _ = _
            unfold refEv
            rw [if_neg (fun h => h ht), if_neg (by rw [HV.out]; simp), if_neg hno, if_pos h9]
          rw [h9] at y14
          go_wp2_with (first
            | (refine wpList_store_mid (P := Tryz.prog) rfl 46 _ _ rfl (W.heap.size + 1) 0 [.int .i64 5, .int .i64 t, .int .i64 4, .bool false, .int .u32 0, .bool false, .int .i64 0, .slice none 0 0].toArray rfl rfl (HA1.out.there 0 8 (by simp)) sz129 (one8 _ _ _ _ _ _ _ _ _ _) ?_; generalize hW9 : World.setCells _ (W.heap.size + 1) 0 _ = w9; have HW9 : Hid (_ = w9) := hW9; clear hW9))
          have e9 := HW9.out
          have hF : blk w9 (W.heap.size + 1) [.int .i64 5, .int .i64 t, .int .i64 4, .bool false, .int .u32 0, .bool false, .int .i64 0, .slice none 0 0] 46 := by
            rw [← e9]
            have := blk.put [] [.int .i64 0, .int .i64 0, .int .i64 0, .bool false, .int .u32 0, .bool false, .int .i64 0, .slice none 0 0] [] [.int .i64 5, .int .i64 t, .int .i64 4, .bool false, .int .u32 0, .bool false, .int .i64 0, .slice none 0 0] (b := W.heap.size + 1) (T := 46) (by simpa using HA1.out) rfl
            simpa using this
          have hL := run_loadVar_mid (P := Tryz.prog) w9 (W.heap.size + 1) 0 46 _ _ hF.load Tryz.underlying46 rfl sz129
          refine bodyPost_ret (v := .agg [.int .i64 5, .int .i64 t, .int .i64 4, .bool false, .int .u32 0, .bool false, .int .i64 0, .slice none 0 0].toArray) (results_cell Tryz.results119 _ w9 (W.heap.size + 1) _ rfl hL) rfl ?_
          rw [HRF.out]
          refine ⟨rfl, ?_⟩
          rw [← e9]
          exact setCells_below (by omega) 0 _ HB1.out
        · have h9' : (H.st == 1000000) = false := by simpa using h9
          have HFB : Hid (Calls Tryz.prog 121 #[.pointer (some ⟨G.P, 0, none⟩)] w1 fun o w' => ∃ z : Int, o = .returned (.int .i64 z) ∧ ((z = -1 ∧ ¬ freeIx H.bx < H.bx.length) ∨ (z = (freeIx H.bx : Int) ∧ freeIx H.bx < H.bx.length)) ∧ Below w1.heap.size w1 w') := HL1.out.freeBox
          have HR0 : Hid (refEv H t F = if freeIx H.bx < H.bx.length then ev3 0 0 0 else ev3 4 t 0) := by
            show _ = _
            unfold refEv
            rw [if_neg (fun h => h ht), if_neg (by rw [HV.out]; simp), if_neg hno, if_neg h9]
          go_wp2_with fail
          refine HFB.out.mono ?_
          rintro o w2 ⟨z, rfl, hz, hb2⟩
          have HB2 : Hid (Below W.heap.size W w2) := HB1.out.trans (hb2.mono HB1.out.size)
          have HA2 : Hid (blk w2 (W.heap.size + 1) [.int .i64 0, .int .i64 0, .int .i64 0, .bool false, .int .u32 0, .bool false, .int .i64 0, .slice none 0 0] 46) := HA1.out.below hb2
          clear hb2 HFB
          rcases hz with ⟨rfl, hz⟩ | ⟨rfl, hz⟩
          · have HRF : Hid (refEv H t F = ev3 4 t 0) := by show _ = _; rw [HR0.out, if_neg hz]
            go_wp2_with (first
              | (refine wpList_store_mid (P := Tryz.prog) rfl 46 _ _ rfl (W.heap.size + 1) 0 [.int .i64 4, .int .i64 t, .int .i64 0, .bool false, .int .u32 0, .bool false, .int .i64 0, .slice none 0 0].toArray rfl rfl (HA2.out.there 0 8 (by simp)) sz129 (one8 _ _ _ _ _ _ _ _ _ _) ?_; generalize hW9 : World.setCells _ (W.heap.size + 1) 0 _ = w9; have HW9 : Hid (_ = w9) := hW9; clear hW9))
            have e9 := HW9.out
            have hF : blk w9 (W.heap.size + 1) [.int .i64 4, .int .i64 t, .int .i64 0, .bool false, .int .u32 0, .bool false, .int .i64 0, .slice none 0 0] 46 := by
              rw [← e9]
              have := blk.put [] [.int .i64 0, .int .i64 0, .int .i64 0, .bool false, .int .u32 0, .bool false, .int .i64 0, .slice none 0 0] [] [.int .i64 4, .int .i64 t, .int .i64 0, .bool false, .int .u32 0, .bool false, .int .i64 0, .slice none 0 0] (b := W.heap.size + 1) (T := 46) (by simpa using HA2.out) rfl
              simpa using this
            have hL := run_loadVar_mid (P := Tryz.prog) w9 (W.heap.size + 1) 0 46 _ _ hF.load Tryz.underlying46 rfl sz129
            refine bodyPost_ret (v := .agg [.int .i64 4, .int .i64 t, .int .i64 0, .bool false, .int .u32 0, .bool false, .int .i64 0, .slice none 0 0].toArray) (results_cell Tryz.results119 _ w9 (W.heap.size + 1) _ rfl hL) rfl ?_
            rw [HRF.out]
            refine ⟨rfl, ?_⟩
            rw [← e9]
            exact setCells_below (by omega) 0 _ HB2.out
          · have HRF : Hid (refEv H t F = ev3 0 0 0) := by show _ = _; rw [HR0.out, if_pos hz]
            go_wp2_with (first
              | (refine wpList_store_mid (P := Tryz.prog) rfl 46 _ _ rfl (W.heap.size + 1) 0 [.int .i64 0, .int .i64 0, .int .i64 0, .bool false, .int .u32 0, .bool false, .int .i64 0, .slice none 0 0].toArray rfl rfl (HA2.out.there 0 8 (by simp)) sz129 (one8 _ _ _ _ _ _ _ _ _ _) ?_; generalize hW9 : World.setCells _ (W.heap.size + 1) 0 _ = w9; have HW9 : Hid (_ = w9) := hW9; clear hW9))
            have e9 := HW9.out
            have hF : blk w9 (W.heap.size + 1) [.int .i64 0, .int .i64 0, .int .i64 0, .bool false, .int .u32 0, .bool false, .int .i64 0, .slice none 0 0] 46 := by
              rw [← e9]
              have := blk.put [] [.int .i64 0, .int .i64 0, .int .i64 0, .bool false, .int .u32 0, .bool false, .int .i64 0, .slice none 0 0] [] [.int .i64 0, .int .i64 0, .int .i64 0, .bool false, .int .u32 0, .bool false, .int .i64 0, .slice none 0 0] (b := W.heap.size + 1) (T := 46) (by simpa using HA2.out) rfl
              simpa using this
            have hL := run_loadVar_mid (P := Tryz.prog) w9 (W.heap.size + 1) 0 46 _ _ hF.load Tryz.underlying46 rfl sz129
            refine bodyPost_ret (v := .agg [.int .i64 0, .int .i64 0, .int .i64 0, .bool false, .int .u32 0, .bool false, .int .i64 0, .slice none 0 0].toArray) (results_cell Tryz.results119 _ w9 (W.heap.size + 1) _ rfl hL) rfl ?_
            rw [HRF.out]
            refine ⟨rfl, ?_⟩
            rw [← e9]
            exact setCells_below (by omega) 0 _ HB2.out
      · have HRF : Hid (refEv H t F = ev3 5 t 3) := by
          show _ = _
          unfold refEv
          rw [if_neg (fun h => h ht), if_neg (by rw [HV.out]; simp), if_pos (HIF.out.1 rfl)]
        go_wp2_with (first
          | (refine wpList_store_mid (P := Tryz.prog) rfl 46 _ _ rfl (W.heap.size + 1) 0 [.int .i64 5, .int .i64 t, .int .i64 3, .bool false, .int .u32 0, .bool false, .int .i64 0, .slice none 0 0].toArray rfl rfl (HA1.out.there 0 8 (by simp)) sz129 (one8 _ _ _ _ _ _ _ _ _ _) ?_; generalize hW9 : World.setCells _ (W.heap.size + 1) 0 _ = w9; have HW9 : Hid (_ = w9) := hW9; clear hW9))
        have e9 := HW9.out
        have hF : blk w9 (W.heap.size + 1) [.int .i64 5, .int .i64 t, .int .i64 3, .bool false, .int .u32 0, .bool false, .int .i64 0, .slice none 0 0] 46 := by
          rw [← e9]
          have := blk.put [] [.int .i64 0, .int .i64 0, .int .i64 0, .bool false, .int .u32 0, .bool false, .int .i64 0, .slice none 0 0] [] [.int .i64 5, .int .i64 t, .int .i64 3, .bool false, .int .u32 0, .bool false, .int .i64 0, .slice none 0 0] (b := W.heap.size + 1) (T := 46) (by simpa using HA1.out) rfl
          simpa using this
        have hL := run_loadVar_mid (P := Tryz.prog) w9 (W.heap.size + 1) 0 46 _ _ hF.load Tryz.underlying46 rfl sz129
        refine bodyPost_ret (v := .agg [.int .i64 5, .int .i64 t, .int .i64 3, .bool false, .int .u32 0, .bool false, .int .i64 0, .slice none 0 0].toArray) (results_cell Tryz.results119 _ w9 (W.heap.size + 1) _ rfl hL) rfl ?_
        rw [HRF.out]
        refine ⟨rfl, ?_⟩
        rw [← e9]
        exact setCells_below (by omega) 0 _ HB1.out
    · have hv' : validB F.e F.i F.r F.d fm = false := by simpa using hv
      rw [hv']
      have HRF : Hid (refEv H t F = ev3 5 t 2) := by
        show _ = _
        unfold refEv
        rw [if_neg (fun h => h ht), if_pos (by rw [← HFL.out]; exact hv')]
      go_wp2_with (first
        | (refine wpList_store_mid (P := Tryz.prog) rfl 46 _ _ rfl (W.heap.size + 1) 0 [.int .i64 5, .int .i64 t, .int .i64 2, .bool false, .int .u32 0, .bool false, .int .i64 0, .slice none 0 0].toArray rfl rfl (HA1.out.there 0 8 (by simp)) sz129 (one8 _ _ _ _ _ _ _ _ _ _) ?_; generalize hW9 : World.setCells _ (W.heap.size + 1) 0 _ = w9; have HW9 : Hid (_ = w9) := hW9; clear hW9))
      have e9 := HW9.out
      have hF : blk w9 (W.heap.size + 1) [.int .i64 5, .int .i64 t, .int .i64 2, .bool false, .int .u32 0, .bool false, .int .i64 0, .slice none 0 0] 46 := by
        rw [← e9]
        have := blk.put [] [.int .i64 0, .int .i64 0, .int .i64 0, .bool false, .int .u32 0, .bool false, .int .i64 0, .slice none 0 0] [] [.int .i64 5, .int .i64 t, .int .i64 2, .bool false, .int .u32 0, .bool false, .int .i64 0, .slice none 0 0] (b := W.heap.size + 1) (T := 46) (by simpa using HA1.out) rfl
        simpa using this
      have hL := run_loadVar_mid (P := Tryz.prog) w9 (W.heap.size + 1) 0 46 _ _ hF.load Tryz.underlying46 rfl sz129
      refine bodyPost_ret (v := .agg [.int .i64 5, .int .i64 t, .int .i64 2, .bool false, .int .u32 0, .bool false, .int .i64 0, .slice none 0 0].toArray) (results_cell Tryz.results119 _ w9 (W.heap.size + 1) _ rfl hL) rfl ?_
      rw [HRF.out]
      refine ⟨rfl, ?_⟩
      rw [← e9]
      exact setCells_below (by omega) 0 _ HB1.out
  · have HIR : Hid (∀ X, Calls Tryz.prog 115 #[.int .i64 t, .int .i64 0, .int .i64 9999] X fun o w' => o = .returned (.bool false) ∧ w' = X) := fun X => (inRange_any X _ _ _).mono (by rintro o w' ⟨rfl, rfl⟩; exact ⟨by simp; omega, rfl⟩)
    have HRF : Hid (refEv H t F = ev3 5 0 1) := by
      show _ = _
      unfold refEv
      rw [if_pos ht]
    go_enter Tryz.func119, Tryz.ntmps119
    go_wp2_with (first | (refine wpList_lookup_own_ok_int _ rfl _ _ 128 rfl 3 3 .i64 keyed3 Tryz.underlying128 Tryz.underlying3 (zero3 _) G.mb nm D rfl HLA.out.m _ _ rfl HK.out ?_; intro c hat hwc; rw [HH.out]) | (go_at_call 115; refine (HIR.out _).mono ?_; rintro o w1 ⟨rfl, rfl⟩))
    have hF : blk ((W.alloc (.cells [.bool F.e, .int .u32 (F.i : Int), .bool F.r, .int .i64 F.d, .slice fa fm fc].toArray 25)).alloc (.cells [.int .i64 5, .int .i64 0, .int .i64 1, .bool false, .int .u32 0, .bool false, .int .i64 0, .slice none 0 0].toArray 46)) (W.heap.size + 1) [.int .i64 5, .int .i64 0, .int .i64 1, .bool false, .int .u32 0, .bool false, .int .i64 0, .slice none 0 0] 46 := by
      have := blk.new (W.alloc (.cells [.bool F.e, .int .u32 (F.i : Int), .bool F.r, .int .i64 F.d, .slice fa fm fc].toArray 25)) [.int .i64 5, .int .i64 0, .int .i64 1, .bool false, .int .u32 0, .bool false, .int .i64 0, .slice none 0 0] 46
      have e : (W.alloc (.cells [.bool F.e, .int .u32 (F.i : Int), .bool F.r, .int .i64 F.d, .slice fa fm fc].toArray 25)).heap.size = W.heap.size + 1 := by simp
      rw [e] at this
      exact this
    have hL := run_loadVar_mid (P := Tryz.prog) ((W.alloc (.cells [.bool F.e, .int .u32 (F.i : Int), .bool F.r, .int .i64 F.d, .slice fa fm fc].toArray 25)).alloc (.cells [.int .i64 5, .int .i64 0, .int .i64 1, .bool false, .int .u32 0, .bool false, .int .i64 0, .slice none 0 0].toArray 46)) (W.heap.size + 1) 0 46 _ _ hF.load Tryz.underlying46 rfl sz129
    refine bodyPost_ret (v := .agg [.int .i64 5, .int .i64 0, .int .i64 1, .bool false, .int .u32 0, .bool false, .int .i64 0, .slice none 0 0].toArray) (results_cell Tryz.results119 _ ((W.alloc (.cells [.bool F.e, .int .u32 (F.i : Int), .bool F.r, .int .i64 F.d, .slice fa fm fc].toArray 25)).alloc (.cells [.int .i64 5, .int .i64 0, .int .i64 1, .bool false, .int .u32 0, .bool false, .int .i64 0, .slice none 0 0].toArray 46)) (W.heap.size + 1) _ rfl hL) rfl ?_
    rw [HRF.out]
    exact ⟨rfl, ((Below.refl _ _).alloc (Nat.le_refl _) _).alloc (by simp) _⟩
end Go.Proofs.YtaamahohdnbpiaaGreat
namespace Go.Proofs.YtaamahohdnbpiaaGreat
open Go.RowKit
set_option linter.unusedVariables false
theorem lh.setBox {w0 : World} {G : Lg} {H : Ho} {f1 f3 : Nat} {hs : Nat → Hd} {nm : Nat} {D : DataW Unit} {W : World} (h : lh w0 G H f1 f3 hs nm D W) (i : Nat) (hi : i < H.bx.length) (b : R8) (hd : Hd) (hb : isBytes w0 hd.1 hd.2.1 hd.2.2 b.l) (hl : b.l.length ≤ 1048576) : lh w0 G { H with bx := H.bx.set i b } f1 f3 (fun j => if j = i then hd else hs j) nm D (W.setCells G.gb (i * 8) (x8 (b, hd))) := by
  have e : W.setCells G.gb (i * 8) (x8 (b, hd)) = setRow W G.gb (i * 8) (x8 (b, hd)) := setCells_row ..
  have hx := h.x.put i hi b hd hb hl
  rw [← e] at hx
  exact h.box hx (fun q hq => setCells_other _ q hq _ _ _) (setCells_size ..)
theorem lh.stamp {w0 : World} {G : Lg} {H : Ho} {f1 f3 : Nat} {hs : Nat → Hd} {nm : Nat} {D : DataW Unit} {W : World} (h : lh w0 G H f1 f3 hs nm D W) (st : Int) : lh w0 G { H with st := st } f1 f3 hs nm D (W.setCell ⟨G.P, 14, none⟩ (.int .i64 st)) := by
  have dp := h.d.p
  have dl := h.d.lo
  have he : ∀ q, q ≠ G.P → (W.setCell ⟨G.P, 14, none⟩ (.int .i64 st)).heap[q]? = W.heap[q]? := fun q hq => heap_setCell_other _ _ _ _ (by exact hq)
  have hb : Below w0.heap.size w0 (W.setCell ⟨G.P, 14, none⟩ (.int .i64 st)) := h.b.setCell (by exact dl.2.1) _
  have hz : W.heap.size ≤ (W.setCell ⟨G.P, 14, none⟩ (.int .i64 st)).heap.size := ((Below.refl 0 W).setCell (Nat.zero_le _) _).size
  refine ⟨h.p.set 14 _, h.f.same (he _ dp.1), h.x.at0 (he _ dp.2.1) hb, h.r.keep (he _ dp.2.2.1), h.rz.up (he _ dp.2.2.1), h.q.keep (he _ dp.2.2.2.1), h.qz.up (he _ dp.2.2.2.1), ?_, hb, ⟨Nat.lt_of_lt_of_le h.hi.1 hz, Nat.lt_of_lt_of_le h.hi.2.1 hz, Nat.lt_of_lt_of_le h.hi.2.2 hz⟩, h.d, ⟨h.bd.e1, h.bd.e3, h.bd.m1, h.bd.m2, h.bd.nk, h.bd.b1, h.bd.b3, h.bd.lo, h.bd.s3, h.bd.s4⟩⟩
  obtain ⟨es, clock, q1, q2⟩ := h.m
  exact ⟨es, clock, (he _ dp.2.2.2.2).trans q1, q2⟩
set_option maxHeartbeats 8000000 in
set_option maxRecDepth 20000 in
theorem submit_any {w0 : World} {G : Lg} {H : Ho} {f1 f3 : Nat} {hs : Nat → Hd} {nm : Nat} {D : DataW Unit} {W : World} (h : lh w0 G H f1 f3 hs nm D W) (t : Int) (F : R5) (fa : Option Addr) (fm fc : Nat) (hf : isBytes w0 fa fm fc F.l) (hfm : fm ≤ 1048576) (hnm : nm ≤ 1000) (hst : 0 ≤ H.st ∧ H.st ≤ 1000000) (hwt : (Lit.int .i64 t).wf = true) (hD : (tagIx H.bx t < H.bx.length ∧ Maps.has D (.int .i64 t) = true) ∨ (¬ tagIx H.bx t < H.bx.length ∧ Maps.has D (.int .i64 t) = false)) :
    Calls Tryz.prog 58 #[.pointer (some ⟨G.P, 0, none⟩), .int .i64 t, frV F.e F.i F.r F.d fa fm fc] W fun o w' => o = .returned (.tuple #[]) ∧ ∃ hs' nm' D', lh w0 G (subHo H t F) f1 f3 hs' nm' D' w' := by
  have HBA : Hid (Below W.heap.size W (W.alloc (.cells [.bool F.e, .int .u32 (F.i : Int), .bool F.r, .int .i64 F.d, .slice fa fm fc].toArray 25))) := (Below.refl _ _).alloc (Nat.le_refl _) _
  have HPA : Hid (blk (W.alloc (.cells [.bool F.e, .int .u32 (F.i : Int), .bool F.r, .int .i64 F.d, .slice fa fm fc].toArray 25)) W.heap.size [.bool F.e, .int .u32 (F.i : Int), .bool F.r, .int .i64 F.d, .slice fa fm fc] 25) := blk.new W _ 25
  have HLA : Hid (lh w0 G H f1 f3 hs nm D (W.alloc (.cells [.bool F.e, .int .u32 (F.i : Int), .bool F.r, .int .i64 F.d, .slice fa fm fc].toArray 25))) := h.below HBA.out
  have HU : Hid (lhU G W.heap.size) := h.lts
  have HFB : Hid (isBytes w0 fa fm fc F.l ∧ F.l.length ≤ 1048576) := ⟨hf, by have := hf.len; omega⟩
  have HRF : Hid (∀ X, lh w0 G H f1 f3 hs nm D X → Calls Tryz.prog 119 #[.pointer (some ⟨G.P, 0, none⟩), .int .i64 t, frV F.e F.i F.r F.d fa fm fc] X fun o w' => o = .returned (.agg [.int .i64 (refEv H t F).x, .int .i64 (refEv H t F).y, .int .i64 (refEv H t F).z, .bool false, .int .u32 0, .bool false, .int .i64 0, .slice none 0 0].toArray) ∧ Below X.heap.size X w') := fun X hX => refusal_any hX t F fa fm fc (hf.below hX.b) hwt hD
  have HK : Hid (keyOf Tryz.prog 3 (.int .i64 t) = some (.int .i64 t)) := key3 hwt
  clear h hf hwt hD
  go_enter Tryz.func58, Tryz.ntmps58
  go_wp2_with (first | (refine wpList_load_mid (P := Tryz.prog) rfl 25 _ rfl W.heap.size 0 rfl [.bool F.e, .int .u32 (F.i : Int), .bool F.r, .int .i64 F.d, .slice fa fm fc] _ HPA.out.load Tryz.underlying25 rfl sz93 ?_))
  refine (HRF.out _ HLA.out).mono ?_
  rintro o w1 ⟨rfl, hb1⟩
  have HL1 : Hid (lh w0 G H f1 f3 hs nm D (w1.alloc (.cells [.int .i64 (refEv H t F).x, .int .i64 (refEv H t F).y, .int .i64 (refEv H t F).z, .bool false, .int .u32 0, .bool false, .int .i64 0, .slice none 0 0].toArray 46))) := (HLA.out.below hb1).below ((Below.refl _ _).alloc (Nat.le_refl _) _)
  have HP1 : Hid (blk (w1.alloc (.cells [.int .i64 (refEv H t F).x, .int .i64 (refEv H t F).y, .int .i64 (refEv H t F).z, .bool false, .int .u32 0, .bool false, .int .i64 0, .slice none 0 0].toArray 46)) W.heap.size [.bool F.e, .int .u32 (F.i : Int), .bool F.r, .int .i64 F.d, .slice fa fm fc] 25) := (HPA.out.below hb1).alloc _
  have HE1 : Hid (blk (w1.alloc (.cells [.int .i64 (refEv H t F).x, .int .i64 (refEv H t F).y, .int .i64 (refEv H t F).z, .bool false, .int .u32 0, .bool false, .int .i64 0, .slice none 0 0].toArray 46)) w1.heap.size [.int .i64 (refEv H t F).x, .int .i64 (refEv H t F).y, .int .i64 (refEv H t F).z, .bool false, .int .u32 0, .bool false, .int .i64 0, .slice none 0 0] 46) := blk.new w1 _ 46
  have HZ1 : Hid (W.heap.size < w1.heap.size) := Nat.lt_of_lt_of_le HPA.out.lt hb1.size
  have y0 := HE1.out.cell 0 _ rfl
  clear hb1 HLA HPA HBA HRF
  have hsr := @subHo_ref H t F
  generalize refEv H t F = E at *
  rcases hsr with ⟨hx, hs1, hl1, he1⟩ | ⟨he, ht, hno, hfr, hs1, h9⟩
  · obtain ⟨x, y, z, e, i, r, d, l⟩ := E
    simp only [R8.mk.injEq, true_and] at he1
    obtain ⟨rfl, rfl, rfl, rfl, rfl⟩ := he1
    simp only [] at HL1 HP1 HE1 y0 hx hs1
    have hx' : (x == 0) = false := by simpa using hx
    have HT : Hid (subHo H t F = postHo H (ev3 x y z)) := hs1
    have HPO : Hid (Calls Tryz.prog 120 #[.pointer (some ⟨G.P, 0, none⟩), .agg [.int .i64 x, .int .i64 y, .int .i64 z, .bool false, .int .u32 0, .bool false, .int .i64 0, .slice none 0 0].toArray] (w1.alloc (.cells [.int .i64 x, .int .i64 y, .int .i64 z, .bool false, .int .u32 0, .bool false, .int .i64 0, .slice none 0 0].toArray 46)) fun o w' => o = .returned (.tuple #[]) ∧ lh w0 G (postHo H (ev3 x y z)) f1 f3 hs nm D w' ∧ (∀ b, b ≠ G.P → b ≠ G.gq → b < (w1.alloc (.cells [.int .i64 x, .int .i64 y, .int .i64 z, .bool false, .int .u32 0, .bool false, .int .i64 0, .slice none 0 0].toArray 46)).heap.size → w'.heap[b]? = (w1.alloc (.cells [.int .i64 x, .int .i64 y, .int .i64 z, .bool false, .int .u32 0, .bool false, .int .i64 0, .slice none 0 0].toArray 46)).heap[b]?) ∧ (w1.alloc (.cells [.int .i64 x, .int .i64 y, .int .i64 z, .bool false, .int .u32 0, .bool false, .int .i64 0, .slice none 0 0].toArray 46)).heap.size ≤ w'.heap.size) := HL1.out.post (ev3 x y z) none 0 0 (none8 _) (Nat.zero_le _)
    go_wp2_with (first | (refine wpList_load_mid (P := Tryz.prog) rfl 46 _ rfl w1.heap.size 0 rfl _ _ HE1.out.load Tryz.underlying46 rfl sz129 ?_))
    refine HPO.out.mono ?_
    rintro o w7 ⟨rfl, hl7, _, _⟩
    have HL7 : Hid (lh w0 G (postHo H (ev3 x y z)) f1 f3 hs nm D w7) := hl7
    clear hl7 HPO
    go_wp2_with fail
    first | go_end0 | (simp only [Exit.inBlock, Exit.then]; refine bodyPost_ret (results_none rfl _ _ _) rfl ?_) | refine bodyPost_ret (results_none rfl _ _ _) rfl ?_
    exact ⟨rfl, hs, nm, D, by rw [HT.out]; exact HL7.out⟩
  · rw [he] at HL1 HP1 HE1 y0
    have HT : Hid (subHo H t F = xHo H (H.bx.set (freeIx H.bx) ⟨1, t, H.st, F.e, F.i, F.r, F.d, F.l⟩) (H.st + 1)) := hs1
    rw [he]
    go_wp2_with fail
    refine HL1.out.freeBox.mono ?_
    rintro o w2 ⟨z, rfl, hz, hb2⟩
    have HL2 : Hid (lh w0 G H f1 f3 hs nm D w2) := HL1.out.below hb2
    have HP2 : Hid (blk w2 W.heap.size [.bool F.e, .int .u32 (F.i : Int), .bool F.r, .int .i64 F.d, .slice fa fm fc] 25) := HP1.out.below hb2
    obtain ⟨rfl, hk⟩ : z = (freeIx H.bx : Int) ∧ freeIx H.bx < H.bx.length := by
      rcases hz with ⟨_, h⟩ | h
      · exact absurd hfr h
      · exact h
    clear hz hb2 HL1 HP1 HE1 y0
    generalize freeIx H.bx = k at *
    have HKK : Hid (k < H.bx.length) := hk
    have y5 := HL2.out.p.cell 5 _ rfl
    have y14 := HL2.out.p.cell 14 _ rfl
    have hkn : k < G.n2 := by have := HL2.out.x.len; omega
    have hcp := HL2.out.bd.nk
    have hm2 := HL2.out.bd.m2
    go_wp2_with fail
    refine wp_region_still_tail 13 (by kernel_rfl) (by kernel_rfl) ?_
    change wpStill Tryz.prog _ (World.drew w2) (fun a' => wpList Tryz.prog _ _ _ a' (World.drew w2)) _ _
    have hbd : Below w2.heap.size w2 (World.drew w2) := (Below.refl _ _).drew
    have HL2 : Hid (lh w0 G H f1 f3 hs nm D (World.drew w2)) := HL2.out.below hbd
    have HP2 : Hid (blk (World.drew w2) W.heap.size [.bool F.e, .int .u32 (F.i : Int), .bool F.r, .int .i64 F.d, .slice fa fm fc] 25) := HP2.out.below hbd
    clear hbd y5 y14
    generalize World.drew w2 = v0 at *
    have y5 := HL2.out.p.cell 5 _ rfl
    have y14 := HL2.out.p.cell 14 _ rfl
    simp only [List.take_succ_cons, List.take_zero, List.drop_succ_cons, List.drop_zero]
    iterate 10 still_step
    refine wpStill_load_mid (by rfl) 25 _ rfl W.heap.size 0 rfl [.bool F.e, .int .u32 (F.i : Int), .bool F.r, .int .i64 F.d, .slice fa fm fc] _ HP2.out.load Tryz.underlying25 rfl sz93 ?_
    still_step
    still_step
    refine wpStill_nil ?_
    have HT2 : Hid (v0.there G.gb (k * 8) 8) := fun j hj => by
      obtain ⟨⟨v, hv⟩, hf⟩ := HL2.out.x.row (k * 8 + j) (by omega)
      exact ⟨by rw [hv]; rfl, hf⟩
    have HL3 : Hid (lh w0 G { H with bx := H.bx.set k ⟨1, t, H.st, F.e, F.i, F.r, F.d, F.l⟩ } f1 f3 (fun j => if j = k then (fa, fm, fc) else hs j) nm D (v0.setCells G.gb (k * 8) [.int .i64 1, .int .i64 t, .int .i64 H.st, .bool F.e, .int .u32 (F.i : Int), .bool F.r, .int .i64 F.d, .slice fa fm fc])) := HL2.out.setBox k HKK.out ⟨1, t, H.st, F.e, F.i, F.r, F.d, F.l⟩ (fa, fm, fc) HFB.out.1 HFB.out.2
    refine wpList_store_mid (P := Tryz.prog) rfl 97 _ _ rfl G.gb (k * 8) [.int .i64 1, .int .i64 t, .int .i64 H.st, .bool F.e, .int .u32 (F.i : Int), .bool F.r, .int .i64 F.d, .slice fa fm fc].toArray rfl rfl HT2.out sz95 (one8 _ _ _ _ _ _ _ _ _ _) ?_
    change wpList Tryz.prog _ _ _ _ (v0.setCells G.gb (k * 8) [.int .i64 1, .int .i64 t, .int .i64 H.st, .bool F.e, .int .u32 (F.i : Int), .bool F.r, .int .i64 F.d, .slice fa fm fc])
    generalize v0.setCells G.gb (k * 8) [.int .i64 1, .int .i64 t, .int .i64 H.st, .bool F.e, .int .u32 (F.i : Int), .bool F.r, .int .i64 F.d, .slice fa fm fc] = v1 at *
    clear y5 y14 HL2 HP2 HT2
    have y6 := HL3.out.p.cell 6 _ rfl
    have HPE : Hid (plainElem (H := Unit) Tryz.prog 3 (.int .i64 (k : Int)) = some (.lit (.int .i64 (k : Int)), [])) := plainElem_int Tryz.underlying3 (wf_small (by omega) (by omega))
    have hw9 : IntKind.i64.wrap (H.st + 1) = H.st + 1 := by rw [IntKind.wrap_i64]; omega
    go_wp2_with (first
      | (refine wpList_mapUpdate_own _ rfl _ _ _ 128 rfl 3 3 keyed3 Tryz.underlying128 _ G.mb nm D rfl HL3.out.m (by unfold maxLen; omega) _ _ (.int .i64 t) rfl rfl HK.out (.lit (.int .i64 (k : Int))) [] HPE.out ?_; intro v2 hm2 hg2; have HL4 : Hid (lh w0 G { H with bx := H.bx.set k ⟨1, t, H.st, F.e, F.i, F.r, F.d, F.l⟩ } f1 f3 (fun j => if j = k then (fa, fm, fc) else hs j) (nm + 1) (D.put (.int .i64 t) (.lit (.int .i64 (k : Int)))) v2) := HL3.out.tags hg2 hm2; clear hm2 hg2; have y14 := HL4.out.p.cell 14 _ rfl; have z14 := HL4.out.p.free 14))
    first | go_end0 | (simp only [Exit.inBlock, Exit.then]; refine bodyPost_ret (results_none rfl _ _ _) rfl ?_) | refine bodyPost_ret (results_none rfl _ _ _) rfl ?_
    exact ⟨rfl, _, _, _, HL4.out.stamp (H.st + 1)⟩
set_option maxHeartbeats 1000000 in
theorem lit57 {w0 : World} {G : Lg} {H : Ho} {f1 f3 : Nat} {hs : Nat → Hd} {nm : Nat} {D : DataW Unit} {W : World} (h : lh w0 G H f1 f3 hs nm D W) (Bt Bf : Nat) (t : Int) (F : R5) (fa : Option Addr) (fm fc : Nat) (yt : W.cell? ⟨Bt, 0, none⟩ = some (.int .i64 t)) (yf : blk W Bf [.bool F.e, .int .u32 (F.i : Int), .bool F.r, .int .i64 F.d, .slice fa fm fc] 25) (hf : isBytes w0 fa fm fc F.l) (hfm : fm ≤ 1048576) (hnm : nm ≤ 1000) (hst : 0 ≤ H.st ∧ H.st ≤ 1000000) (hwt : (Lit.int .i64 t).wf = true) (hD : (tagIx H.bx t < H.bx.length ∧ Maps.has D (.int .i64 t) = true) ∨ (¬ tagIx H.bx t < H.bx.length ∧ Maps.has D (.int .i64 t) = false)) :
    Calls Tryz.prog 57 #[.pointer (some ⟨G.P, 0, none⟩), .pointer (some ⟨Bt, 0, none⟩), .pointer (some ⟨Bf, 0, none⟩)] W fun o w' => o = .returned (.tuple #[]) ∧ ∃ hs' nm' D', lh w0 G (subHo H t F) f1 f3 hs' nm' D' w' := by
  have HS : Hid (Calls Tryz.prog 58 #[.pointer (some ⟨G.P, 0, none⟩), .int .i64 t, frV F.e F.i F.r F.d fa fm fc] W fun o w' => o = .returned (.tuple #[]) ∧ ∃ hs' nm' D', lh w0 G (subHo H t F) f1 f3 hs' nm' D' w') := submit_any h t F fa fm fc hf hfm hnm hst hwt hD
  have HF : Hid (blk W Bf [.bool F.e, .int .u32 (F.i : Int), .bool F.r, .int .i64 F.d, .slice fa fm fc] 25) := yf
  clear h hf hfm hnm hst hwt hD yf
  go_enter Tryz.func57, Tryz.ntmps57
  go_wp2_with (first
    | (refine wpList_load_mid (P := Tryz.prog) rfl 25 _ rfl Bf 0 rfl [.bool F.e, .int .u32 (F.i : Int), .bool F.r, .int .i64 F.d, .slice fa fm fc] _ HF.out.load Tryz.underlying25 rfl sz93 ?_)
    | (go_at_call 58; refine HS.out.mono ?_; rintro o w5 ⟨rfl, hs', nm', D', hq⟩; have HQ : Hid (lh w0 G (subHo H t F) f1 f3 hs' nm' D' w5) := hq; clear hq))
  first | go_end0 | (simp only [Exit.inBlock, Exit.then]; refine bodyPost_ret (results_none rfl _ _ _) rfl ?_) | refine bodyPost_ret (results_none rfl _ _ _) rfl ?_
  exact ⟨rfl, hs', nm', D', HQ.out⟩
theorem open_submit (w : World) (H : Ho) (s : Sl) (Bt Bf : Nat) (t : Int) (F : R5) (fa : Option Addr) (fm fc : Nat) (h : isHo w H s) (hs : slSome s) (hok : okHo H) (hm : H.le 1048576) (yt : w.cell? ⟨Bt, 0, none⟩ = some (.int .i64 t)) (yf : blk w Bf [.bool F.e, .int .u32 (F.i : Int), .bool F.r, .int .i64 F.d, .slice fa fm fc] 25) (hf : isBytes w fa fm fc F.l) (hfm : fm ≤ 1048576) (hwt : (Lit.int .i64 t).wf = true) :
    Calls Tryz.prog 61 #[.agg (hoL H s).toArray] w fun o w' => ∃ P, o = .returned (.pointer (some ⟨P, 0, none⟩)) ∧ Below w.heap.size w w' ∧ Calls Tryz.prog 57 #[.pointer (some ⟨P, 0, none⟩), .pointer (some ⟨Bt, 0, none⟩), .pointer (some ⟨Bf, 0, none⟩)] w' fun o w2 => o = .returned (.tuple #[]) ∧ Below w.heap.size w w2 ∧ Calls Tryz.prog 118 #[.pointer (some ⟨P, 0, none⟩)] w2 (toldQ w2 (subHo H t F)) := by
  refine (open_lh w H s h hs hok hm).mono ?_
  rintro o w' ⟨G, hd, rfl, hl, hn⟩
  rw [hn] at hl
  have hD : (tagIx H.bx t < H.bx.length ∧ Maps.has (tagsD Unit H.bx H.bx.length) (.int .i64 t) = true) ∨ (¬ tagIx H.bx t < H.bx.length ∧ Maps.has (tagsD Unit H.bx H.bx.length) (.int .i64 t) = false) := by
    rcases tags_ix hok.bx.2.1 t with ⟨h1, h2, _⟩ | h1
    · exact Or.inl ⟨h1, h2⟩
    · exact Or.inr h1
  refine ⟨G.P, rfl, hl.b, (lit57 hl Bt Bf t F fa fm fc ((hl.b.cell (by exact World.block_lt_of_cell? w _ yt)).trans yt) (yf.below hl.b) hf hfm (by have := hok.n2; omega) ⟨hok.s0, hok.s1⟩ hwt hD).mono ?_⟩
  rintro o w2 ⟨rfl, hs', nm', D', h2⟩
  exact ⟨rfl, h2.b, h2.told⟩
end Go.Proofs.YtaamahohdnbpiaaGreat
