import Derived.Test.YtaamahohdnbpiaaGreatNG
import Derived.Test.YtaamahohdnbpiaaGreatLK
import Derived.Test.YtaamahohdnbpiaaGreatG12
import Derived.Test.YtaamahohdnbpiaaGreatVA
import Derived.Test.YtaamahohdnbpiaaGreatG19
import Derived.Test.YtaamahohdnbpiaaGreatG20
import Derived.Test.YtaamahohdnbpiaaGreatG09
import Derived.Test.YtaamahohdnbpiaaGreatMI
namespace Go.Proofs.YtaamahohdnbpiaaGreat
open Go.RowKit
set_option linter.unusedVariables false
set_option maxHeartbeats 4000000 in
set_option maxRecDepth 20000 in
theorem l3post_full (w : World) (c0 c1 c2 c3 lo st : Int) (a1 : Option Addr) (n1 k1 : Nat) (a2 : Option Addr) (n2 k2 : Nat) (a3 : Option Addr) (n3 k3 : Nat) (a4 : Option Addr) (n4 k4 : Nat) (x y z : Int) (e : Bool) (i : Nat) (r : Bool) (d : Int) (ao : Option Addr) (m c : Nat) (hq : c3 ≤ (n4 : Int)) (hlo : 0 ≤ lo ∧ lo ≤ 100000) :
    Calls Tryz.prog 143 #[.agg [.int .i64 c0, .int .i64 c1, .int .i64 c2, .int .i64 c3, .slice a1 n1 k1, .slice a2 n2 k2, .slice a3 n3 k3, .slice a4 n4 k4, .int .i64 lo, .int .i64 st].toArray, .int .i64 x, .int .i64 y, .int .i64 z, frV e i r d ao m c] w fun o w' => o = .returned (.agg #[.int .i64 c0, .int .i64 c1, .int .i64 c2, .int .i64 c3, .slice a1 n1 k1, .slice a2 n2 k2, .slice a3 n3 k3, .slice a4 n4 k4, .int .i64 (if lo < 100000 then lo + 1 else lo), .int .i64 st]) ∧ Below w.heap.size w w' := by
  have H0 : Hid (ptS w [.int .i64 c0, .int .i64 c1, .int .i64 c2, .int .i64 c3, .slice a1 n1 k1, .slice a2 n2 k2, .slice a3 n3 k3, .slice a4 n4 k4, .int .i64 lo, .int .i64 st] [.bool e, .int .u32 (i : Int), .bool r, .int .i64 d, .slice ao m c] (((w.alloc (.cells [.int .i64 c0, .int .i64 c1, .int .i64 c2, .int .i64 c3, .slice a1 n1 k1, .slice a2 n2 k2, .slice a3 n3 k3, .slice a4 n4 k4, .int .i64 lo, .int .i64 st].toArray 35)).alloc (.cells [.bool e, .int .u32 (i : Int), .bool r, .int .i64 d, .slice ao m c].toArray 25)).alloc (.cells [.int .i64 0, .int .i64 0, .int .i64 0, .int .i64 0, .slice none 0 0, .slice none 0 0, .slice none 0 0, .slice none 0 0, .int .i64 0, .int .i64 0].toArray 35))) := ptS.new w _ _
  have x3 := H0.out.p.cell 3 _ rfl
  have x7 := H0.out.p.cell 7 _ rfl
  have x8 := H0.out.p.cell 8 _ rfl
  have f8 := H0.out.p.free 8
  obtain ⟨hl0, hl1⟩ := hlo
  have hq' : decide (c3 ≤ (n4 : Int)) = true := by simpa using hq
  by_cases hl : lo < 100000
  · rw [if_pos hl]
    have hwr : IntKind.i64.wrap (lo + 1) = lo + 1 := by rw [IntKind.wrap_i64]; omega
    clear H0
    go_enter Tryz.func143, Tryz.ntmps143
    go_wp2_with fail
    have hF : blk (((w.alloc (.cells [.int .i64 c0, .int .i64 c1, .int .i64 c2, .int .i64 c3, .slice a1 n1 k1, .slice a2 n2 k2, .slice a3 n3 k3, .slice a4 n4 k4, .int .i64 (lo + 1), .int .i64 st].toArray 35)).alloc (.cells [.bool e, .int .u32 (i : Int), .bool r, .int .i64 d, .slice ao m c].toArray 25)).alloc (.cells [.int .i64 c0, .int .i64 c1, .int .i64 c2, .int .i64 c3, .slice a1 n1 k1, .slice a2 n2 k2, .slice a3 n3 k3, .slice a4 n4 k4, .int .i64 (lo + 1), .int .i64 st].toArray 35)) (w.heap.size + 1 + 1) [.int .i64 c0, .int .i64 c1, .int .i64 c2, .int .i64 c3, .slice a1 n1 k1, .slice a2 n2 k2, .slice a3 n3 k3, .slice a4 n4 k4, .int .i64 (lo + 1), .int .i64 st] 35 := by
      have := blk.new ((w.alloc (.cells [.int .i64 c0, .int .i64 c1, .int .i64 c2, .int .i64 c3, .slice a1 n1 k1, .slice a2 n2 k2, .slice a3 n3 k3, .slice a4 n4 k4, .int .i64 (lo + 1), .int .i64 st].toArray 35)).alloc (.cells [.bool e, .int .u32 (i : Int), .bool r, .int .i64 d, .slice ao m c].toArray 25)) [.int .i64 c0, .int .i64 c1, .int .i64 c2, .int .i64 c3, .slice a1 n1 k1, .slice a2 n2 k2, .slice a3 n3 k3, .slice a4 n4 k4, .int .i64 (lo + 1), .int .i64 st] 35
      have e : ((w.alloc (.cells [.int .i64 c0, .int .i64 c1, .int .i64 c2, .int .i64 c3, .slice a1 n1 k1, .slice a2 n2 k2, .slice a3 n3 k3, .slice a4 n4 k4, .int .i64 (lo + 1), .int .i64 st].toArray 35)).alloc (.cells [.bool e, .int .u32 (i : Int), .bool r, .int .i64 d, .slice ao m c].toArray 25)).heap.size = w.heap.size + 1 + 1 := by simp
      rw [e] at this
      exact this
    have hL := run_loadVar_mid (P := Tryz.prog) (((w.alloc (.cells [.int .i64 c0, .int .i64 c1, .int .i64 c2, .int .i64 c3, .slice a1 n1 k1, .slice a2 n2 k2, .slice a3 n3 k3, .slice a4 n4 k4, .int .i64 (lo + 1), .int .i64 st].toArray 35)).alloc (.cells [.bool e, .int .u32 (i : Int), .bool r, .int .i64 d, .slice ao m c].toArray 25)).alloc (.cells [.int .i64 c0, .int .i64 c1, .int .i64 c2, .int .i64 c3, .slice a1 n1 k1, .slice a2 n2 k2, .slice a3 n3 k3, .slice a4 n4 k4, .int .i64 (lo + 1), .int .i64 st].toArray 35)) (w.heap.size + 1 + 1) 0 35 _ _ hF.load Tryz.underlying35 rfl sz41
    refine bodyPost_ret (v := .agg [.int .i64 c0, .int .i64 c1, .int .i64 c2, .int .i64 c3, .slice a1 n1 k1, .slice a2 n2 k2, .slice a3 n3 k3, .slice a4 n4 k4, .int .i64 (lo + 1), .int .i64 st].toArray) (results_cell Tryz.results143 _ (((w.alloc (.cells [.int .i64 c0, .int .i64 c1, .int .i64 c2, .int .i64 c3, .slice a1 n1 k1, .slice a2 n2 k2, .slice a3 n3 k3, .slice a4 n4 k4, .int .i64 (lo + 1), .int .i64 st].toArray 35)).alloc (.cells [.bool e, .int .u32 (i : Int), .bool r, .int .i64 d, .slice ao m c].toArray 25)).alloc (.cells [.int .i64 c0, .int .i64 c1, .int .i64 c2, .int .i64 c3, .slice a1 n1 k1, .slice a2 n2 k2, .slice a3 n3 k3, .slice a4 n4 k4, .int .i64 (lo + 1), .int .i64 st].toArray 35)) (w.heap.size + 1 + 1) _ rfl hL) rfl ?_
    exact ⟨rfl, (((Below.refl _ _).alloc (Nat.le_refl _) _).alloc (by simp) _).alloc (by simp; omega) _⟩
  · rw [if_neg hl]
    clear H0
    go_enter Tryz.func143, Tryz.ntmps143
    go_wp2_with fail
    have hF : blk (((w.alloc (.cells [.int .i64 c0, .int .i64 c1, .int .i64 c2, .int .i64 c3, .slice a1 n1 k1, .slice a2 n2 k2, .slice a3 n3 k3, .slice a4 n4 k4, .int .i64 lo, .int .i64 st].toArray 35)).alloc (.cells [.bool e, .int .u32 (i : Int), .bool r, .int .i64 d, .slice ao m c].toArray 25)).alloc (.cells [.int .i64 c0, .int .i64 c1, .int .i64 c2, .int .i64 c3, .slice a1 n1 k1, .slice a2 n2 k2, .slice a3 n3 k3, .slice a4 n4 k4, .int .i64 lo, .int .i64 st].toArray 35)) (w.heap.size + 1 + 1) [.int .i64 c0, .int .i64 c1, .int .i64 c2, .int .i64 c3, .slice a1 n1 k1, .slice a2 n2 k2, .slice a3 n3 k3, .slice a4 n4 k4, .int .i64 lo, .int .i64 st] 35 := by
      have := blk.new ((w.alloc (.cells [.int .i64 c0, .int .i64 c1, .int .i64 c2, .int .i64 c3, .slice a1 n1 k1, .slice a2 n2 k2, .slice a3 n3 k3, .slice a4 n4 k4, .int .i64 lo, .int .i64 st].toArray 35)).alloc (.cells [.bool e, .int .u32 (i : Int), .bool r, .int .i64 d, .slice ao m c].toArray 25)) [.int .i64 c0, .int .i64 c1, .int .i64 c2, .int .i64 c3, .slice a1 n1 k1, .slice a2 n2 k2, .slice a3 n3 k3, .slice a4 n4 k4, .int .i64 lo, .int .i64 st] 35
      have e : ((w.alloc (.cells [.int .i64 c0, .int .i64 c1, .int .i64 c2, .int .i64 c3, .slice a1 n1 k1, .slice a2 n2 k2, .slice a3 n3 k3, .slice a4 n4 k4, .int .i64 lo, .int .i64 st].toArray 35)).alloc (.cells [.bool e, .int .u32 (i : Int), .bool r, .int .i64 d, .slice ao m c].toArray 25)).heap.size = w.heap.size + 1 + 1 := by simp
      rw [e] at this
      exact this
    have hL := run_loadVar_mid (P := Tryz.prog) (((w.alloc (.cells [.int .i64 c0, .int .i64 c1, .int .i64 c2, .int .i64 c3, .slice a1 n1 k1, .slice a2 n2 k2, .slice a3 n3 k3, .slice a4 n4 k4, .int .i64 lo, .int .i64 st].toArray 35)).alloc (.cells [.bool e, .int .u32 (i : Int), .bool r, .int .i64 d, .slice ao m c].toArray 25)).alloc (.cells [.int .i64 c0, .int .i64 c1, .int .i64 c2, .int .i64 c3, .slice a1 n1 k1, .slice a2 n2 k2, .slice a3 n3 k3, .slice a4 n4 k4, .int .i64 lo, .int .i64 st].toArray 35)) (w.heap.size + 1 + 1) 0 35 _ _ hF.load Tryz.underlying35 rfl sz41
    refine bodyPost_ret (v := .agg [.int .i64 c0, .int .i64 c1, .int .i64 c2, .int .i64 c3, .slice a1 n1 k1, .slice a2 n2 k2, .slice a3 n3 k3, .slice a4 n4 k4, .int .i64 lo, .int .i64 st].toArray) (results_cell Tryz.results143 _ (((w.alloc (.cells [.int .i64 c0, .int .i64 c1, .int .i64 c2, .int .i64 c3, .slice a1 n1 k1, .slice a2 n2 k2, .slice a3 n3 k3, .slice a4 n4 k4, .int .i64 lo, .int .i64 st].toArray 35)).alloc (.cells [.bool e, .int .u32 (i : Int), .bool r, .int .i64 d, .slice ao m c].toArray 25)).alloc (.cells [.int .i64 c0, .int .i64 c1, .int .i64 c2, .int .i64 c3, .slice a1 n1 k1, .slice a2 n2 k2, .slice a3 n3 k3, .slice a4 n4 k4, .int .i64 lo, .int .i64 st].toArray 35)) (w.heap.size + 1 + 1) _ rfl hL) rfl ?_
    exact ⟨rfl, (((Below.refl _ _).alloc (Nat.le_refl _) _).alloc (by simp) _).alloc (by simp; omega) _⟩
end Go.Proofs.YtaamahohdnbpiaaGreat
namespace Go.Proofs.YtaamahohdnbpiaaGreat
open Go.RowKit
set_option linter.unusedVariables false
theorem run_makeMapN (n : Nat) (W : World) : (Instr.makeMap 128 (some (.int .i64 (n : Int)))).run Tryz.prog W = .ok (.map (some W.heap.size)) (W.alloc (.map #[] 0)) := by
  simp [Instr.makeMap, go_sem]
set_option maxHeartbeats 8000000 in
set_option maxRecDepth 20000 in
theorem openHost_any (H : Type) (w : World) (c0 c2 : Int) (r1 r3 : Nat) (fs : List R3) (bx : List R8) (ff : List R5) (qu : List R8) (lo st : Int) (g1 n1 k1 g2 o2 n2 k2 : Nat) (a3 : Option Addr) (n3 k3 : Nat) (a4 : Option Addr) (n4 k4 : Nat) (h1 : isR3s w (some ⟨g1, 0, none⟩) n1 k1 fs) (h2 : isR8s w (some ⟨g2, o2, none⟩) n2 k2 bx) (h3 : isR5s w a3 n3 k3 ff) (h4 : isR8s w a4 n4 k4 qu) (m1 : n1 ≤ 1048576) (m2 : n2 ≤ 8) (hc1 : 1 ≤ r1 ∧ r1 ≤ 1000 ∧ n3 ≤ r1) (hc3 : 1 ≤ r3 ∧ r3 ≤ 1000 ∧ n4 ≤ r3) (hok : okBxs st bx) (hsm : ∀ j (h : j < bx.length), bx[j].l.length ≤ 1048576) :
    Calls Tryz.prog 61 #[.agg #[.int .i64 c0, .int .i64 (r1 : Int), .int .i64 c2, .int .i64 (r3 : Int), .slice (some ⟨g1, 0, none⟩) n1 k1, .slice (some ⟨g2, o2, none⟩) n2 k2, .slice a3 n3 k3, .slice a4 n4 k4, .int .i64 lo, .int .i64 st]] w fun o w' => ∃ P mb gf kf gb kb hs gr gq, o = .returned (.pointer (some ⟨P, 0, none⟩)) ∧ lvS H w P mb [.int .i64 c0, .int .i64 (r1 : Int), .int .i64 c2, .int .i64 (r3 : Int), .slice (some ⟨gf, 0, none⟩) n1 kf, .slice (some ⟨gb, 0, none⟩) n2 kb, .map (some mb), .slice (some ⟨gr, 0, none⟩) r1 r1, .int .i64 0, .int .i64 (n3 : Int), .slice (some ⟨gq, 0, none⟩) r3 r3, .int .i64 0, .int .i64 (n4 : Int), .int .i64 lo, .int .i64 st] gf n1 kf fs gb n2 kb bx hs gr r1 ff gq r3 qu n2 w' := by
  have HSU : Hid (∀ (w1 : World) (P mb : Nat) (hb0 : Below w.heap.size w w1) (hP : blk w1 P [.int .i64 0, .int .i64 0, .int .i64 0, .int .i64 0, .slice none 0 0, .slice none 0 0, .map (some mb), .slice none 0 0, .int .i64 0, .int .i64 0, .slice none 0 0, .int .i64 0, .int .i64 0, .int .i64 0, .int .i64 0] 134) (hm : w1.heap[mb]? = some (.map #[] 0)) (hP0 : w.heap.size ≤ P) (hmb0 : w.heap.size ≤ mb) (hne : mb ≠ P), Calls Tryz.prog 129 #[.pointer (some ⟨P, 0, none⟩), .agg #[.int .i64 c0, .int .i64 (r1 : Int), .int .i64 c2, .int .i64 (r3 : Int), .slice (some ⟨g1, 0, none⟩) n1 k1, .slice (some ⟨g2, o2, none⟩) n2 k2, .slice a3 n3 k3, .slice a4 n4 k4, .int .i64 lo, .int .i64 st]] w1 fun o w' => ∃ gf kf gb kb hs gr gq, o = .returned (.tuple #[]) ∧ lvS H w P mb [.int .i64 c0, .int .i64 (r1 : Int), .int .i64 c2, .int .i64 (r3 : Int), .slice (some ⟨gf, 0, none⟩) n1 kf, .slice (some ⟨gb, 0, none⟩) n2 kb, .map (some mb), .slice (some ⟨gr, 0, none⟩) r1 r1, .int .i64 0, .int .i64 (n3 : Int), .slice (some ⟨gq, 0, none⟩) r3 r3, .int .i64 0, .int .i64 (n4 : Int), .int .i64 lo, .int .i64 st] gf n1 kf fs gb n2 kb bx hs gr r1 ff gq r3 qu n2 w') := fun w1 P mb hb0 hP hm hP0 hmb0 hne => setUp_any H w w1 P mb c0 c2 r1 r3 fs bx ff qu lo st g1 n1 k1 g2 o2 n2 k2 a3 n3 k3 a4 n4 k4 h1 h2 h3 h4 m1 m2 hc1 hc3 hok hsm hmb0 hb0 hP hm hP0 hne
  have HPH : Hid (blk (w.alloc (.cells #[.int .i64 c0, .int .i64 (r1 : Int), .int .i64 c2, .int .i64 (r3 : Int), .slice (some ⟨g1, 0, none⟩) n1 k1, .slice (some ⟨g2, o2, none⟩) n2 k2, .slice a3 n3 k3, .slice a4 n4 k4, .int .i64 lo, .int .i64 st] 35)) w.heap.size [.int .i64 c0, .int .i64 (r1 : Int), .int .i64 c2, .int .i64 (r3 : Int), .slice (some ⟨g1, 0, none⟩) n1 k1, .slice (some ⟨g2, o2, none⟩) n2 k2, .slice a3 n3 k3, .slice a4 n4 k4, .int .i64 lo, .int .i64 st] 35 ∧ Below w.heap.size w (w.alloc (.cells #[.int .i64 c0, .int .i64 (r1 : Int), .int .i64 c2, .int .i64 (r3 : Int), .slice (some ⟨g1, 0, none⟩) n1 k1, .slice (some ⟨g2, o2, none⟩) n2 k2, .slice a3 n3 k3, .slice a4 n4 k4, .int .i64 lo, .int .i64 st] 35))) := ⟨blk.new w _ 35, (Below.refl _ _).alloc (Nat.le_refl _) _⟩
  have y5 := HPH.out.1.cell 5 _ rfl
  clear h1 h2 h3 h4 m1 hc1 hc3 hok hsm
  have HM2 : Hid (((w.alloc (.cells #[.int .i64 c0, .int .i64 (r1 : Int), .int .i64 c2, .int .i64 (r3 : Int), .slice (some ⟨g1, 0, none⟩) n1 k1, .slice (some ⟨g2, o2, none⟩) n2 k2, .slice a3 n3 k3, .slice a4 n4 k4, .int .i64 lo, .int .i64 st] 35)).alloc (.map #[] 0)).heap[w.heap.size + 1]? = some (.map #[] 0)) := by
    have := heap_alloc_new (w.alloc (.cells #[.int .i64 c0, .int .i64 (r1 : Int), .int .i64 c2, .int .i64 (r3 : Int), .slice (some ⟨g1, 0, none⟩) n1 k1, .slice (some ⟨g2, o2, none⟩) n2 k2, .slice a3 n3 k3, .slice a4 n4 k4, .int .i64 lo, .int .i64 st] 35)) (.map #[] 0)
    have e : (w.alloc (.cells #[.int .i64 c0, .int .i64 (r1 : Int), .int .i64 c2, .int .i64 (r3 : Int), .slice (some ⟨g1, 0, none⟩) n1 k1, .slice (some ⟨g2, o2, none⟩) n2 k2, .slice a3 n3 k3, .slice a4 n4 k4, .int .i64 lo, .int .i64 st] 35)).heap.size = w.heap.size + 1 := by simp
    rw [e] at this
    exact this
  have HM3 : Hid ((((w.alloc (.cells #[.int .i64 c0, .int .i64 (r1 : Int), .int .i64 c2, .int .i64 (r3 : Int), .slice (some ⟨g1, 0, none⟩) n1 k1, .slice (some ⟨g2, o2, none⟩) n2 k2, .slice a3 n3 k3, .slice a4 n4 k4, .int .i64 lo, .int .i64 st] 35)).alloc (.map #[] 0)).alloc (.cells #[.int .i64 0, .int .i64 0, .int .i64 0, .int .i64 0, .slice none 0 0, .slice none 0 0, .map (some (w.heap.size + 1)), .slice none 0 0, .int .i64 0, .int .i64 0, .slice none 0 0, .int .i64 0, .int .i64 0, .int .i64 0, .int .i64 0] 134)).heap[w.heap.size + 1]? = some (.map #[] 0)) := (Below.heap_alloc _ _ _ (lt_of_some HM2.out)).trans HM2.out
  have HP3 : Hid (blk (((w.alloc (.cells #[.int .i64 c0, .int .i64 (r1 : Int), .int .i64 c2, .int .i64 (r3 : Int), .slice (some ⟨g1, 0, none⟩) n1 k1, .slice (some ⟨g2, o2, none⟩) n2 k2, .slice a3 n3 k3, .slice a4 n4 k4, .int .i64 lo, .int .i64 st] 35)).alloc (.map #[] 0)).alloc (.cells #[.int .i64 0, .int .i64 0, .int .i64 0, .int .i64 0, .slice none 0 0, .slice none 0 0, .map (some (w.heap.size + 1)), .slice none 0 0, .int .i64 0, .int .i64 0, .slice none 0 0, .int .i64 0, .int .i64 0, .int .i64 0, .int .i64 0] 134)) (w.heap.size + 1 + 1) [.int .i64 0, .int .i64 0, .int .i64 0, .int .i64 0, .slice none 0 0, .slice none 0 0, .map (some (w.heap.size + 1)), .slice none 0 0, .int .i64 0, .int .i64 0, .slice none 0 0, .int .i64 0, .int .i64 0, .int .i64 0, .int .i64 0] 134) := by
    have := blk.new ((w.alloc (.cells #[.int .i64 c0, .int .i64 (r1 : Int), .int .i64 c2, .int .i64 (r3 : Int), .slice (some ⟨g1, 0, none⟩) n1 k1, .slice (some ⟨g2, o2, none⟩) n2 k2, .slice a3 n3 k3, .slice a4 n4 k4, .int .i64 lo, .int .i64 st] 35)).alloc (.map #[] 0)) [.int .i64 0, .int .i64 0, .int .i64 0, .int .i64 0, .slice none 0 0, .slice none 0 0, .map (some (w.heap.size + 1)), .slice none 0 0, .int .i64 0, .int .i64 0, .slice none 0 0, .int .i64 0, .int .i64 0, .int .i64 0, .int .i64 0] 134
    have e : ((w.alloc (.cells #[.int .i64 c0, .int .i64 (r1 : Int), .int .i64 c2, .int .i64 (r3 : Int), .slice (some ⟨g1, 0, none⟩) n1 k1, .slice (some ⟨g2, o2, none⟩) n2 k2, .slice a3 n3 k3, .slice a4 n4 k4, .int .i64 lo, .int .i64 st] 35)).alloc (.map #[] 0)).heap.size = w.heap.size + 1 + 1 := by simp
    rw [e] at this
    exact this
  have HB3 : Hid (Below w.heap.size w (((w.alloc (.cells #[.int .i64 c0, .int .i64 (r1 : Int), .int .i64 c2, .int .i64 (r3 : Int), .slice (some ⟨g1, 0, none⟩) n1 k1, .slice (some ⟨g2, o2, none⟩) n2 k2, .slice a3 n3 k3, .slice a4 n4 k4, .int .i64 lo, .int .i64 st] 35)).alloc (.map #[] 0)).alloc (.cells #[.int .i64 0, .int .i64 0, .int .i64 0, .int .i64 0, .slice none 0 0, .slice none 0 0, .map (some (w.heap.size + 1)), .slice none 0 0, .int .i64 0, .int .i64 0, .slice none 0 0, .int .i64 0, .int .i64 0, .int .i64 0, .int .i64 0] 134))) := ((HPH.out.2.alloc (by simp) _).alloc (by simp; omega) _)
  have hmm : ∀ W : World, (Instr.makeMap 128 (some (.int .i64 (n2 : Int)))).run Tryz.prog W = .ok (.map (some W.heap.size)) (W.alloc (.map #[] 0)) := fun W => run_makeMapN n2 W
  go_enter Tryz.func61, Tryz.ntmps61
  go_wp2_with fail
  refine (HSU.out _ (w.heap.size + 1 + 1) (w.heap.size + 1) HB3.out HP3.out HM3.out (by omega) (by omega) (by omega)).mono ?_
  rintro o w9 ⟨gf, kf, gb, kb, hs, gr, gq, rfl, hlv⟩
  have HLV : Hid _ := hlv
  clear hlv hmm y5 HSU HPH HM2 HM3 HP3 HB3
  go_wp2
  go_ret
  exact ⟨_, _, gf, kf, gb, kb, hs, gr, gq, rfl, HLV.out⟩
end Go.Proofs.YtaamahohdnbpiaaGreat
namespace Go.Proofs.YtaamahohdnbpiaaGreat
open Go.RowKit
set_option linter.unusedVariables false
theorem at8.frame {w : World} {g o : Nat} {b : R8} {ao : Option Addr} {m c : Nat} (h : at8 w g o b ao m c) : w.rangeAt g (o + 3) [.bool b.e, .int .u32 (b.i : Int), .bool b.r, .int .i64 b.d, .slice ao m c] := by
  intro j v hv
  match j, hv with
  | 0, hv => cases hv; exact h.c3
  | 1, hv => cases hv; exact h.c4
  | 2, hv => cases hv; exact h.c5
  | 3, hv => cases hv; exact h.c6
  | 4, hv => cases hv; exact h.cs
end Go.Proofs.YtaamahohdnbpiaaGreat
namespace Go.Proofs.YtaamahohdnbpiaaGreat
open Go.RowKit
set_option linter.unusedVariables false
structure gaS (w : World) (L1 L2 : List Value) (W : World) : Prop where
  p : blk W w.heap.size L1 97
  q : blk W (w.heap.size + 1) L2 97
  b : Below w.heap.size w W
theorem gaS.below {w : World} {L1 L2 : List Value} {W W' : World} (h : gaS w L1 L2 W) (hb : Below W.heap.size W W') : gaS w L1 L2 W' := ⟨h.p.below hb, h.q.below hb, h.b.trans (hb.mono h.b.size)⟩
end Go.Proofs.YtaamahohdnbpiaaGreat
namespace Go.Proofs.YtaamahohdnbpiaaGreat
open Go.RowKit
set_option linter.unusedVariables false
structure beS (w : World) (PB : Nat) (L : List Value) (W : World) : Prop where
  p : blk W PB L 97
  b : Below w.heap.size w W
theorem beS.below {w : World} {PB : Nat} {L : List Value} {W W' : World} (h : beS w PB L W) (hb : Below W.heap.size W W') : beS w PB L W' := ⟨h.p.below hb, h.b.trans (hb.mono h.b.size)⟩
end Go.Proofs.YtaamahohdnbpiaaGreat
namespace Go.Proofs.YtaamahohdnbpiaaGreat
open Go.RowKit
set_option linter.unusedVariables false
def slSome (s : Sl) : Prop := (∃ g, s.a1 = some ⟨g, 0, none⟩) ∧ (∃ g, s.a2 = some ⟨g, 0, none⟩)
theorem wrHo.some {B T : Nat} {W : World} {s : Sl} (h : wrHo B T W s) : slSome s := by
  obtain ⟨g1, g2, g3, g4, e, _⟩ := h.e
  rw [e]
  exact ⟨⟨g1, rfl⟩, ⟨g2, rfl⟩⟩
theorem okHo.n2 {H : Ho} (h : okHo H) : H.bx.length ≤ 8 := by
  have h1 := of_decide_eq_true h.cf
  have h2 := h.nb
  omega
end Go.Proofs.YtaamahohdnbpiaaGreat
namespace Go.Proofs.YtaamahohdnbpiaaGreat
open Go.RowKit
set_option linter.unusedVariables false
def takeB (bx : List R8) (i : Int) : List R8 := if h : 0 ≤ i ∧ i < (bx.length : Int) then (if (bx[i.toNat]'(by omega)).x = 1 ∧ (∀ b ∈ bx, ¬ (b.x = 2 ∨ b.x = 3)) then bx.set i.toNat { (bx[i.toNat]'(by omega)) with x := 2 } else bx) else bx
def takeHo (H : Ho) (i : Int) : Ho := { H with bx := takeB H.bx i }
end Go.Proofs.YtaamahohdnbpiaaGreat
namespace Go.Proofs.YtaamahohdnbpiaaGreat
open Go.RowKit
set_option linter.unusedVariables false
def quP (c3 : Int) (qu : List R8) (e : R8) : List R8 := if (qu.length : Int) < c3 then qu ++ [e] else qu
def loP (c3 : Int) (qu : List R8) (lo : Int) : Int := if (qu.length : Int) < c3 then lo else if lo < 100000 then lo + 1 else lo
def postHo (H : Ho) (e : R8) : Ho := { H with qu := quP H.c3 H.qu e, lo := loP H.c3 H.qu H.lo }
def qSl (s : Sl) (g n k : Nat) : Sl := { s with a4 := some ⟨g, 0, none⟩, n4 := n, k4 := k }
theorem ownG.holes {w w' V : World} {B T E g gd kd : Nat} {g' k' : Nat} {rs : List (R8 × Nat × Nat)} {ev : R8} (h1 : ownG rc8 w' B E 8 g' k' (rs ++ [(ev, gd, kd)])) (hg : g' = g ∨ w.heap.size ≤ g') (hgT : g < T) (hall : ∀ p ∈ rs, rc8.gd p < T) (hgd : w.heap.size ≤ gd) (hV : ∀ x, B ≤ x → x < T ∨ w.heap.size ≤ x → x < w'.heap.size → V.heap[x]? = w'.heap[x]?) (hz : w'.heap.size ≤ V.heap.size) : ownG rc8 V B E 8 g' k' (rs ++ [(ev, gd, kd)]) := by
  refine ⟨ownsRow_kept h1.own (hV g' h1.lt.1 (by omega) h1.lt.2), fun p hp => ?_⟩
  obtain ⟨d1, d2, d3, d4⟩ := h1.dat p hp
  have e : rc8.gd p < T ∨ w.heap.size ≤ rc8.gd p := by
    rcases List.mem_append.1 hp with h | h
    · exact Or.inl (hall p h)
    · right
      have : p = (ev, gd, kd) := by simpa using h
      subst this
      exact hgd
  exact ⟨d1.other (hV _ d2 e d4), d2, d3, Nat.lt_of_lt_of_le d4 hz⟩
theorem ownG.holes0 {w' V : World} {B T E g k : Nat} {rs : List (R8 × Nat × Nat)} (h1 : ownG rc8 w' B E 8 g k rs) (hgT : g < T) (hall : ∀ p ∈ rs, rc8.gd p < T) (hV : ∀ x, B ≤ x → x < T → x < w'.heap.size → V.heap[x]? = w'.heap[x]?) (hz : w'.heap.size ≤ V.heap.size) : ownG rc8 V B E 8 g k rs := by
  refine ⟨ownsRow_kept h1.own (hV g h1.lt.1 hgT h1.lt.2), fun p hp => ?_⟩
  obtain ⟨d1, d2, d3, d4⟩ := h1.dat p hp
  exact ⟨d1.other (hV _ d2 (hall p hp) d4), d2, d3, Nat.lt_of_lt_of_le d4 hz⟩
theorem l3post_q (w : World) (H : Ho) (s : Sl) (B T g4 : Nat) (ev : R8) (ao : Option Addr) (m c : Nat) (ha : s.a4 = some ⟨g4, 0, none⟩) (hQ : rowQ8 B T 46 g4 s.n4 s.k4 H.qu w) (hB : B ≤ w.heap.size) (hn : s.n4 ≤ 1000) (hlo : 0 ≤ H.lo ∧ H.lo ≤ 100000) (hf : isBytes w ao m c ev.l) (hm : m ≤ 1048576) :
    Calls Tryz.prog 143 #[.agg (hoL H s).toArray, .int .i64 ev.x, .int .i64 ev.y, .int .i64 ev.z, frV ev.e ev.i ev.r ev.d ao m c] w fun o w' => ∃ g' n' k', o = .returned (.agg (hoL (postHo H ev) (qSl s g' n' k')).toArray) ∧ (∀ V : World, (∀ x, B ≤ x → x < T ∨ w.heap.size ≤ x → x < w'.heap.size → V.heap[x]? = w'.heap[x]?) → w'.heap.size ≤ V.heap.size → rowQ8 B V.heap.size 46 g' n' k' (quP H.c3 H.qu ev) V) ∧ (∀ q, q ≠ g4 → q < w.heap.size → w'.heap[q]? = w.heap[q]?) ∧ Below B w w' := by
  obtain ⟨rs, ho, hmap, hlen, hgT, hall⟩ := hQ
  have hql : H.qu.length = s.n4 := by rw [← hmap, List.length_map, hlen]
  have hml := hf.len
  subst hml
  obtain ⟨c0, c1, c2, c3, fs, bx, ff, qu, lo, st⟩ := H
  obtain ⟨a1, n1, k1, a2, n2, k2, a3, n3, k3, a4, n4, k4⟩ := s
  obtain ⟨x, y, z, e, i, r, d, l⟩ := ev
  simp only [] at ha hlen hql hn hlo hmap ho hf hm
  subst ha
  by_cases hq : (n4 : Int) < c3
  · refine (l3post_more w c0 c1 c2 c3 lo st a1 n1 k1 a2 n2 k2 a3 n3 k3 B g4 n4 k4 rs x y z e i r d ao c l hq hn ho hlen hB hf hm).mono ?_
    rintro o w' ⟨g', k', gd, kd, rfl, h1, h2, h3, h4, h5⟩
    have hq' : (qu.length : Int) < c3 := by rw [hql]; exact hq
    refine ⟨g', n4 + 1, k', ?_, fun V hV hz => ?_, h2, h5⟩
    · simp only [hoL, postHo, qSl, loP, if_pos hq']
    have h1 := h1.holes h3 hgT hall h4 hV hz
    refine ⟨_, h1, ?_, ?_, h1.lt.2, fun p hp => (h1.dat p hp).2.2.2⟩
    · simp only [quP, if_pos hq', List.map_append, hmap, List.map_cons, List.map_nil]
    · simp [hlen]
  · refine (l3post_full w c0 c1 c2 c3 lo st a1 n1 k1 a2 n2 k2 a3 n3 k3 (some ⟨g4, 0, none⟩) n4 k4 x y z e i r d ao l.length c (by omega) hlo).mono ?_
    rintro o w' ⟨rfl, hb⟩
    have hq' : ¬ (qu.length : Int) < c3 := by rw [hql]; exact hq
    refine ⟨g4, n4, k4, ?_, fun V hV hz => ?_, fun q _ h => hb.block q h, hb.mono hB⟩
    · simp only [hoL, postHo, qSl, loP, if_neg hq']
    have h1 := (ho.below hb).holes0 hgT hall (fun x h1 h2 h3 => hV x h1 (Or.inl h2) h3) hz
    exact ⟨rs, h1, by simp only [quP, if_neg hq', hmap], hlen, h1.lt.2, fun p hp => (h1.dat p hp).2.2.2⟩
def fstB (p : R8 → Prop) (bx : List R8) (r : Int) : Prop := (∃ (k : Nat) (h : k < bx.length), p bx[k] ∧ (∀ j (hj : j < bx.length), j < k → ¬ p bx[j]) ∧ r = (k : Int)) ∨ ((∀ k (h : k < bx.length), ¬ p bx[k]) ∧ r = -1)
end Go.Proofs.YtaamahohdnbpiaaGreat
namespace Go.Proofs.YtaamahohdnbpiaaGreat
open Go.RowKit
set_option linter.unusedVariables false
structure dtS (w : World) (H : Ho) (s : Sl) (W : World) : Prop where
  p : blk W w.heap.size (hoL H s) 35
  r : blk W (w.heap.size + 1) Z10 35
  b : Below w.heap.size w W
theorem dtS.below {w : World} {H : Ho} {s : Sl} {W W' : World} (h : dtS w H s W) (hb : Below W.heap.size W W') : dtS w H s W' := ⟨h.p.below hb, h.r.below hb, h.b.trans (hb.mono h.b.size)⟩
theorem dtS.new (w : World) (H : Ho) (s : Sl) : dtS w H s ((w.alloc (.cells (hoL H s).toArray 35)).alloc (.cells Z10.toArray 35)) := by
  refine ⟨(blk.new w _ 35).alloc _, ?_, ((Below.refl _ _).alloc (Nat.le_refl _) _).alloc (by simp) _⟩
  have := blk.new (w.alloc (.cells (hoL H s).toArray 35)) Z10 35
  simpa using this
end Go.Proofs.YtaamahohdnbpiaaGreat
namespace Go.Proofs.YtaamahohdnbpiaaGreat
open Go.RowKit
set_option linter.unusedVariables false

abbrev zHo : Ho := ⟨0, 0, 0, 0, [], [], [], [], 0, 0⟩
abbrev zSl : Sl := ⟨none, 0, 0, none, 0, 0, none, 0, 0, none, 0, 0⟩
theorem zHo_is (W : World) : isHo W zHo zSl := ⟨⟨rfl, Nat.le_refl _, fun e => absurd rfl e⟩, ⟨rfl, Nat.le_refl _, fun e => absurd rfl e⟩, ⟨rfl, Nat.le_refl _, fun e => absurd rfl e⟩, ⟨rfl, Nat.le_refl _, fun e => absurd rfl e⟩⟩
def takeRel (H : Ho) (i : Int) (T : Ho) : Prop := (okHo H ∧ T = takeHo H i) ∨ (¬ okHo H ∧ T = zHo)
theorem takeRel.yes {H : Ho} {i : Int} {T : Ho} (h : takeRel H i T) (hok : okHo H) : T = takeHo H i := by
  rcases h with ⟨_, e⟩ | ⟨h, _⟩
  · exact e
  · exact absurd hok h
theorem takeRel.no {H : Ho} {i : Int} {T : Ho} (h : takeRel H i T) (hok : ¬ okHo H) : T = zHo := by
  rcases h with ⟨h, _⟩ | ⟨_, e⟩
  · exact absurd h hok
  · exact e
theorem okHo.pos {H : Ho} (h : okHo H) : 1 ≤ H.bx.length := by
  have h1 := of_decide_eq_true h.cf
  have h2 := h.nb
  omega
theorem okL (W : World) (H : Ho) (s : Sl) (h : isHo W H s) (hn : H.le 1048576) (hok : okHo H) : Calls Tryz.prog 72 #[.agg (hoL H s).toArray] W fun o w' => o = .returned (.bool true) ∧ Below W.heap.size W w' := (l3ok_any W H s h hn).mono (by rintro o w' ⟨⟨b, rfl, hb⟩, h2⟩; rw [hb.2 hok]; exact ⟨rfl, h2⟩)
theorem badL (W : World) (H : Ho) (s : Sl) (h : isHo W H s) (hn : H.le 1048576) (hok : ¬ okHo H) : Calls Tryz.prog 72 #[.agg (hoL H s).toArray] W fun o w' => o = .returned (.bool false) ∧ Below W.heap.size W w' := (l3ok_any W H s h hn).mono (by rintro o w' ⟨⟨b, rfl, hb⟩, h2⟩; cases b; exact ⟨rfl, h2⟩; exact absurd (hb.1 rfl) hok)
theorem zHo_L : hoL zHo zSl = [.int .i64 0, .int .i64 0, .int .i64 0, .int .i64 0, .slice none 0 0, .slice none 0 0, .slice none 0 0, .slice none 0 0, .int .i64 0, .int .i64 0] := rfl
end Go.Proofs.YtaamahohdnbpiaaGreat
namespace Go.Proofs.YtaamahohdnbpiaaGreat
open Go.RowKit
set_option linter.unusedVariables false
abbrev z8 : R8 := ⟨0, 0, 0, false, 0, false, 0, []⟩
structure bxR (B T g n k : Nat) (bx : List R8) (hs : Nat → Hd) (W : World) : Prop where
  len : n = bx.length
  cap : n ≤ k
  lo : B ≤ g
  hi : g < T
  row : rowF W g (n * 8)
  rng : ∀ j (h : j < bx.length), W.rangeAt g (j * 8) (x8 (bx[j], hs j))
  dat : ∀ j (h : j < bx.length), isBytes W (hs j).1 (hs j).2.1 (hs j).2.2 bx[j].l ∧ (((hs j).1 = none ∧ (hs j).2.1 = 0) ∨ ∃ b, (hs j).1 = some ⟨b, 0, none⟩ ∧ B ≤ b ∧ b < T ∧ b ≠ g)
theorem isBytes.none0 {W W' : World} {a : Option Addr} {n c : Nat} {l : List Nat} (h : isBytes W a n c l) (hn : n = 0) : isBytes W' a n c l := ⟨h.len, h.cap, h.small, fun hne => absurd (List.length_pos_iff.2 hne) (by have := h.len; omega)⟩
theorem bxR.st {B T g n k : Nat} {bx : List R8} {hs : Nat → Hd} {W W' : World} (h : bxR B T g n k bx hs W) (he : ∀ x, B ≤ x → x < T → W'.heap[x]? = W.heap[x]?) : bxR B T g n k bx hs W' :=
  ⟨h.len, h.cap, h.lo, h.hi, h.row.up (he g h.lo h.hi), fun j hj => rangeAt.up (h.rng j hj) (he g h.lo h.hi), fun j hj => by
    obtain ⟨h1, h2⟩ := h.dat j hj
    refine ⟨?_, h2⟩
    rcases h2 with ⟨e1, e2⟩ | ⟨b, e1, e2, e3, _⟩
    · exact h1.none0 e2
    · rw [e1] at h1 ⊢
      exact h1.other (he b e2 e3)⟩
theorem x8_at8 {W : World} {g o : Nat} {b : R8} {h : Hd} (hr : W.rangeAt g o (x8 (b, h))) (hd : isBytes W h.1 h.2.1 h.2.2 b.l) : at8 W g o b h.1 h.2.1 h.2.2 :=
  ⟨hr 0 _ rfl, hr 1 _ rfl, hr 2 _ rfl, hr 3 _ rfl, hr 4 _ rfl, hr 5 _ rfl, hr 6 _ rfl, hr 7 _ rfl, hd⟩
theorem bxR.is {B T g n k : Nat} {bx : List R8} {hs : Nat → Hd} {W : World} (h : bxR B T g n k bx hs W) : isR8s W (some ⟨g, 0, none⟩) n k bx :=
  ⟨h.len, h.cap, fun _ => ⟨g, 0, rfl, fun j hj => ⟨_, _, _, by rw [Nat.zero_add]; exact x8_at8 (h.rng j hj) (h.dat j hj).1⟩⟩⟩
theorem rowQ8.bxR {B T E g n k : Nat} {bx : List R8} {W : World} (h : rowQ8 B T E g n k bx W) : ∃ hs, bxR B T g n k bx hs W := by
  have hi := h.is
  obtain ⟨rs, h2, h3, h4, h5, h6⟩ := h
  have hl := h2.lt
  obtain ⟨g1, c1, e1, q1, q2, q3, q4⟩ := own_slice h2.own (by intro e; cases e)
  rcases ownsRow_split h2.own with ⟨e, _⟩ | ⟨g2, c2, e2, _, _, _, hrf, hrg⟩
  · cases e
  cases e2
  subst h3
  refine ⟨fun j => (rs.map fun p => ((some ⟨p.2.1, 0, none⟩, p.1.l.length, p.2.2) : Hd)).getD j (none, 0, 0), ⟨hi.len, hi.cap, hl.1, h5, by rw [← h4]; exact hrf, fun j hj => ?_, fun j hj => ?_⟩⟩
  · have hj' : j < rs.length := by simpa using hj
    have e : x8 ((rs.map (·.1))[j], (rs.map fun p => ((some ⟨p.2.1, 0, none⟩, p.1.l.length, p.2.2) : Hd)).getD j (none, 0, 0)) = rc8.enc rs[j] := by
      simp [x8, rc8, List.getD, hj']
    rw [e]
    intro t u hu
    have ht : t < 8 := by have := (List.getElem?_eq_some_iff.mp hu).1; simpa [rc8] using this
    have := hrg (j * 8 + t) u (by rw [flat_at rc8.enc 8 (fun _ => rfl) rs j hj' t ht]; exact hu)
    rw [Nat.zero_add] at this
    exact this
  · have hj' : j < rs.length := by simpa using hj
    have hm := List.getElem_mem hj'
    obtain ⟨d1, d2, d3, d4⟩ := h2.dat rs[j] hm
    simp only [List.getElem_map, List.getD, List.getElem?_map, List.getElem?_eq_getElem hj', Option.map_some, Option.getD_some]
    exact ⟨d1, Or.inr ⟨_, rfl, d2, h6 _ hm, d3⟩⟩
theorem bxR.put {B T g n k : Nat} {bx : List R8} {hs : Nat → Hd} {W : World} (h : bxR B T g n k bx hs W) (i : Nat) (hi : i < bx.length) (b : R8) (hd : Hd) (hb : isBytes W hd.1 hd.2.1 hd.2.2 b.l) (hw : (hd.1 = none ∧ hd.2.1 = 0) ∨ ∃ b, hd.1 = some ⟨b, 0, none⟩ ∧ B ≤ b ∧ b < T ∧ b ≠ g) : bxR B T g n k (bx.set i b) (fun j => if j = i then hd else hs j) (setRow W g (i * 8) (x8 (b, hd))) := by
  have hln := h.len
  have oth : ∀ x, x ≠ g → (setRow W g (i * 8) (x8 (b, hd))).heap[x]? = W.heap[x]? := fun x hx => setRow_block g x hx _ _ _
  have dk : ∀ (hd' : Hd) (l : List Nat), isBytes W hd'.1 hd'.2.1 hd'.2.2 l → ((hd'.1 = none ∧ hd'.2.1 = 0) ∨ ∃ b, hd'.1 = some ⟨b, 0, none⟩ ∧ B ≤ b ∧ b < T ∧ b ≠ g) → isBytes (setRow W g (i * 8) (x8 (b, hd))) hd'.1 hd'.2.1 hd'.2.2 l := by
    intro hd' l h1 h2
    rcases h2 with ⟨e1, e2⟩ | ⟨c, e1, e2, e3, e4⟩
    · exact h1.none0 e2
    · rw [e1] at h1 ⊢
      exact h1.other (oth c e4)
  refine ⟨by rw [List.length_set]; exact h.len, h.cap, h.lo, h.hi, h.row.setRow _ _ _ _, fun j hj => ?_, fun j hj => ?_⟩
  · have hj' : j < bx.length := by simpa using hj
    by_cases e : j = i
    · subst e
      rw [List.getElem_set_self, if_pos rfl]
      intro t u hu
      have ht : t < (x8 (b, hd)).length := (List.getElem?_eq_some_iff.mp hu).1
      have ht8 : t < 8 := by simpa [x8] using ht
      rw [setRow_at g _ _ _ t ht ((h.row (j * 8 + t) (by omega)).1)]
      rw [List.getElem?_eq_getElem ht] at hu
      exact hu
    · rw [List.getElem_set_ne (fun x => e x.symm), if_neg e]
      intro t u hu
      have ht : t < 8 := by have := (List.getElem?_eq_some_iff.mp hu).1; simpa [x8] using this
      rw [setRow_other g _ _ _ _ (by simp [x8]; omega)]
      exact h.rng j hj' t u hu
  · have hj' : j < bx.length := by simpa using hj
    by_cases e : j = i
    · subst e
      rw [List.getElem_set_self, if_pos rfl]
      exact ⟨dk hd b.l hb hw, hw⟩
    · rw [List.getElem_set_ne (fun x => e x.symm), if_neg e]
      exact ⟨dk _ _ (h.dat j hj').1 (h.dat j hj').2, (h.dat j hj').2⟩
theorem bxR.there {B T g n k : Nat} {bx : List R8} {hs : Nat → Hd} {W : World} (h : bxR B T g n k bx hs W) (i : Nat) (hi : i < bx.length) : W.there g (i * 8) 8 := fun j hj => by
  obtain ⟨⟨v, hv⟩, hf⟩ := h.row (i * 8 + j) (by have := h.len; omega)
  exact ⟨by rw [hv]; rfl, hf⟩
structure spS (B T0 T1 T2 : Nat) (H : Ho) (s : Sl) (W : World) : Prop where
  f : ∃ gf, s.a1 = some ⟨gf, 0, none⟩ ∧ B ≤ gf ∧ gf < T0 ∧ isR3s W (some ⟨gf, 0, none⟩) s.n1 s.k1 H.fs
  x : ∃ gb hs, s.a2 = some ⟨gb, 0, none⟩ ∧ bxR T0 T1 gb s.n2 s.k2 H.bx hs W
  r : ∃ gq, s.a3 = some ⟨gq, 0, none⟩ ∧ rowQ5 T1 T2 25 gq s.n3 s.k3 H.ff W
  q : ∃ g4, s.a4 = some ⟨g4, 0, none⟩ ∧ rowQ8 T2 W.heap.size 46 g4 s.n4 s.k4 H.qu W
  o : B ≤ T0 ∧ T0 ≤ T1 ∧ T1 ≤ T2 ∧ T2 ≤ W.heap.size
theorem spS.is {B T0 T1 T2 : Nat} {H : Ho} {s : Sl} {W : World} (h : spS B T0 T1 T2 H s W) : isHo W H s := by
  obtain ⟨gf, e1, _, _, h1⟩ := h.f
  obtain ⟨gb, hs, e2, h2⟩ := h.x
  obtain ⟨gq, e3, h3⟩ := h.r
  obtain ⟨g4, e4, h4⟩ := h.q
  exact ⟨by rw [e1]; exact h1, by rw [e2]; exact h2.is, by rw [e3]; exact h3.is, by rw [e4]; exact h4.is⟩
theorem rowQ8.mono {B T T' E g n k : Nat} {bs : List R8} {W : World} (h : rowQ8 B T E g n k bs W) (hT : T ≤ T') : rowQ8 B T' E g n k bs W := by
  obtain ⟨rs, h1, h2, h3, h4, h5⟩ := h
  exact ⟨rs, h1, h2, h3, by omega, fun p hp => Nat.lt_of_lt_of_le (h5 p hp) hT⟩
theorem rowQ8.keep {B T E g n k : Nat} {bs : List R8} {W W' : World} (h : rowQ8 B T E g n k bs W) (he : ∀ x, B ≤ x → x < T → W'.heap[x]? = W.heap[x]?) : rowQ8 B T E g n k bs W' := by
  obtain ⟨rs, h1, h2, h3, h4, h5⟩ := h
  refine ⟨rs, ⟨ownsRow_kept h1.own (he g h1.lt.1 h4), fun p hp => ?_⟩, h2, h3, h4, h5⟩
  obtain ⟨d1, d2, d3, d4⟩ := h1.dat p hp
  have e := he _ d2 (h5 p hp)
  refine ⟨d1.other e, d2, d3, ?_⟩
  rw [Array.getElem?_eq_getElem d4] at e
  exact lt_of_some e
theorem rowQ5.keep {B T E g n k : Nat} {bs : List R5} {W W' : World} (h : rowQ5 B T E g n k bs W) (he : ∀ x, B ≤ x → x < T → W'.heap[x]? = W.heap[x]?) : rowQ5 B T E g n k bs W' := by
  obtain ⟨rs, h1, h2, h3, h4, h5⟩ := h
  refine ⟨rs, ⟨ownsRow_kept h1.own (he g h1.lt.1 h4), fun p hp => ?_⟩, h2, h3, h4, h5⟩
  obtain ⟨d1, d2, d3, d4⟩ := h1.dat p hp
  have e := he _ d2 (h5 p hp)
  refine ⟨d1.other e, d2, d3, ?_⟩
  rw [Array.getElem?_eq_getElem d4] at e
  exact lt_of_some e
theorem spS.st {B T0 T1 T2 : Nat} {H : Ho} {s : Sl} {W W' : World} (h : spS B T0 T1 T2 H s W) (he : ∀ x, B ≤ x → x < W.heap.size → W'.heap[x]? = W.heap[x]?) (hz : W.heap.size ≤ W'.heap.size) : spS B T0 T1 T2 H s W' := by
  obtain ⟨o1, o2, o3, o4⟩ := h.o
  obtain ⟨gf, e1, h1a, h1b, h1⟩ := h.f
  obtain ⟨gb, hs, e2, h2⟩ := h.x
  obtain ⟨gq, e3, h3⟩ := h.r
  obtain ⟨g4, e4, h4⟩ := h.q
  exact ⟨⟨gf, e1, h1a, h1b, h1.same (he gf h1a (by omega))⟩, ⟨gb, hs, e2, h2.st fun x h1 h2 => he x (by omega) (by omega)⟩, ⟨gq, e3, h3.keep fun x h1 h2 => he x (by omega) (by omega)⟩, ⟨g4, e4, (h4.keep fun x h1 h2 => he x (by omega) h2).mono hz⟩, ⟨o1, o2, o3, by omega⟩⟩
theorem spS.below {B T0 T1 T2 : Nat} {H : Ho} {s : Sl} {W W' : World} (h : spS B T0 T1 T2 H s W) (hb : Below W.heap.size W W') : spS B T0 T1 T2 H s W' := h.st (fun x _ hx => hb.block x hx) hb.size
theorem spS.post {B T0 T1 T2 : Nat} {H : Ho} {s : Sl} {W V : World} {e : R8} {g' n' k' : Nat} (h : spS B T0 T1 T2 H s W) (hq : rowQ8 T2 V.heap.size 46 g' n' k' (quP H.c3 H.qu e) V) (he : ∀ q, B ≤ q → q < T2 → V.heap[q]? = W.heap[q]?) (hz : W.heap.size ≤ V.heap.size) : spS B T0 T1 T2 (postHo H e) (qSl s g' n' k') V := by
  obtain ⟨o1, o2, o3, o4⟩ := h.o
  obtain ⟨gf, e1, h1a, h1b, h1⟩ := h.f
  obtain ⟨gb, hs, e2, h2⟩ := h.x
  obtain ⟨gq, e3, h3⟩ := h.r
  exact ⟨⟨gf, e1, h1a, h1b, h1.same (he gf (by omega) (by omega))⟩, ⟨gb, hs, e2, h2.st fun x h1 h2 => he x (by omega) (by omega)⟩, ⟨gq, e3, h3.keep fun x h1 h2 => he x (by omega) (by omega)⟩, ⟨g', rfl, hq⟩, ⟨o1, o2, o3, by omega⟩⟩
theorem spS.box {B T0 T1 T2 gb : Nat} {H : Ho} {s : Sl} {W W' : World} {bx : List R8} {hs : Nat → Hd} (h : spS B T0 T1 T2 H s W) (e2 : s.a2 = some ⟨gb, 0, none⟩) (hx : bxR T0 T1 gb s.n2 s.k2 bx hs W') (he : ∀ q, q ≠ gb → W'.heap[q]? = W.heap[q]?) (hz : W'.heap.size = W.heap.size) : spS B T0 T1 T2 { H with bx := bx } s W' := by
  obtain ⟨o1, o2, o3, o4⟩ := h.o
  obtain ⟨gf, e1, h1a, h1b, h1⟩ := h.f
  obtain ⟨gq, e3, h3⟩ := h.r
  obtain ⟨g4, e4, h4⟩ := h.q
  have := hx.lo
  have := hx.hi
  refine ⟨⟨gf, e1, h1a, h1b, h1.same (he gf (by omega))⟩, ⟨gb, hs, e2, hx⟩, ⟨gq, e3, h3.keep fun x h1 h2 => he x (by omega)⟩, ⟨g4, e4, ?_⟩, ⟨o1, o2, o3, by omega⟩⟩
  rw [hz]
  exact h4.keep fun x h1 h2 => he x (by omega)
end Go.Proofs.YtaamahohdnbpiaaGreat
namespace Go.Proofs.YtaamahohdnbpiaaGreat
open Go.RowKit
set_option linter.unusedVariables false
def freeHo (H : Ho) (k : Nat) : Ho := { H with bx := H.bx.set k z8 }
structure reS (w : World) (L : List Value) (W : World) : Prop where
  p : blk W w.heap.size L 35
  r : blk W (w.heap.size + 1) Z10 35
theorem reS.new (w : World) (L : List Value) : reS w L ((w.alloc (.cells L.toArray 35)).alloc (.cells Z10.toArray 35)) := by
  refine ⟨(blk.new w _ 35).alloc _, ?_⟩
  have := blk.new (w.alloc (.cells L.toArray 35)) Z10 35
  simpa using this
theorem reS.below {w : World} {L : List Value} {W W' : World} (h : reS w L W) (hb : Below W.heap.size W W') : reS w L W' := ⟨h.p.below hb, h.r.below hb⟩
theorem reS.kept {w : World} {L : List Value} {W W' : World} (h : reS w L W) (hp : W'.heap[w.heap.size]? = W.heap[w.heap.size]?) (hr : W'.heap[w.heap.size + 1]? = W.heap[w.heap.size + 1]?) : reS w L W' := ⟨h.p.kept hp, h.r.kept hr⟩
abbrev Z8 : List Value := [.int .i64 0, .int .i64 0, .int .i64 0, .bool false, .int .u32 0, .bool false, .int .i64 0, .slice none 0 0]
theorem rowQ8.glt {B T E g n k : Nat} {bs : List R8} {W : World} (h : rowQ8 B T E g n k bs W) : B ≤ g := by
  obtain ⟨rs, h1, _⟩ := h
  exact h1.lt.1
theorem none8 (W : World) : isBytes W none 0 0 [] := ⟨rfl, Nat.le_refl _, fun q hq => (by cases hq), fun h => absurd rfl h⟩
theorem rowQ8.ghi {B T E g n k : Nat} {bs : List R8} {W : World} (h : rowQ8 B T E g n k bs W) : g < T := by
  obtain ⟨rs, h1, _, _, h2, _⟩ := h
  exact h2
end Go.Proofs.YtaamahohdnbpiaaGreat
namespace Go.Proofs.YtaamahohdnbpiaaGreat
open Go.RowKit
set_option linter.unusedVariables false
theorem ring5.base {w0 w W : World} {g room first : Nat} {L : List R5} (h : ring5 w0 W g room first L) (hb : Below w0.heap.size w0 w) : ring5 w W g room first L := fun i hi => by
  obtain ⟨ao, m, c, h1, h2⟩ := h i hi
  exact ⟨ao, m, c, h1, h2.below hb⟩
theorem ring8.base {w0 w W : World} {g room first : Nat} {L : List R8} (h : ring8 w0 W g room first L) (hb : Below w0.heap.size w0 w) : ring8 w W g room first L := fun i hi => by
  obtain ⟨ao, m, c, h1, h2⟩ := h i hi
  exact ⟨ao, m, c, h1, h2.below hb⟩
def toldQ (w : World) (H : Ho) (e : Ending) (w' : World) : Prop := ∃ s : Wh, e = .returned (.agg (hoL H s.sl).toArray) ∧ St w.heap.size w' (fun W => isHo W H s.sl) ∧ whS w.heap.size w'.heap.size w' s ∧ whD s ∧ whE s ∧ Below w.heap.size w w'
end Go.Proofs.YtaamahohdnbpiaaGreat
