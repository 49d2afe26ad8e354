import Derived.Test.YtnefmdjodjpopaaAU
namespace Go.Proofs.Ytnefmdjodjpopaa
open Go.RowKit

/-- what impl.Decode hands back of a walk -/
def decK (k : Wk) : Wk := if k.code = 1 ∨ k.code = 2 then k else Wk.zero
theorem de_res {w w1 : World} (h : Below (w.alloc (.cells #[.bool false, .int .u32 0, .bool false, .int .i64 0, .slice none 0 0] 33)).heap.size (w.alloc (.cells #[.bool false, .int .u32 0, .bool false, .int .i64 0, .slice none 0 0] 33)) w1) :
    w1.heap[w.heap.size]? = some (.cells #[.bool false, .int .u32 0, .bool false, .int .i64 0, .slice none 0 0] 33 (0, 0)) ∧ Below w.heap.size w w1 := by
  refine ⟨(h.block _ (by simp)).trans (heap_alloc_new w _), ?_⟩
  exact ((Below.refl w.heap.size w).alloc (Nat.le_refl _) _).trans (h.mono (by simp))
theorem ownsB.lower {w : World} {B B' : Nat} {v : Value} {l : List Nat} (h : ownsB w B v l) (hB : B' ≤ B) : ownsB w B' v l := by
  obtain ⟨h1, h2 | ⟨g, cap, cur, rfl, hb, rest⟩⟩ := h
  · exact ⟨h1, .inl h2⟩
  · exact ⟨h1, .inr ⟨g, cap, cur, rfl, Nat.le_trans hB hb, rest⟩⟩
/-- what stands behind the stores into the result's block -/
structure endF (w0 : World) (B g : Nat) (v : Value) (l : List Nat) (W : World) : Prop where
  own : ownsB W B v l
  blk : ∃ cs, W.heap[g]? = some (.cells cs 33 (0, 0))
  bel : Below B w0 W
  le : B ≤ g
theorem endF.set {w0 : World} {B g : Nat} {v : Value} {l : List Nat} {W : World} (h : endF w0 B g v l W) (j : Nat) (x : Value) : endF w0 B g v l (W.setCell ⟨g, j, none⟩ x) := by
  obtain ⟨cs, hc⟩ := h.blk
  refine ⟨h.own.otherBlock (fun i hi => heap_setCell_other W ⟨g, j, none⟩ i x (fun e => ?_)), ⟨_, heap_setCell_same W g j _ _ x hc⟩, h.bel.setCell (by exact h.le) x, h.le⟩
  obtain ⟨c, fz, hc2⟩ := h.own.kind i hi
  have e' : i = g := e
  rw [e', hc] at hc2
  cases hc2
theorem endF.set5 {w0 : World} {B g : Nat} {v : Value} {l : List Nat} {W : World} (h : endF w0 B g v l W) (x0 x1 x2 x3 x4 : Value) : endF w0 B g v l (((((W.setCell ⟨g, 0, none⟩ x0).setCell ⟨g, 1, none⟩ x1).setCell ⟨g, 2, none⟩ x2).setCell ⟨g, 3, none⟩ x3).setCell ⟨g, 4, none⟩ x4) :=
  ((((h.set 0 x0).set 1 x1).set 2 x2).set 3 x3).set 4 x4
theorem endF.drew {w0 : World} {B g : Nat} {v : Value} {l : List Nat} {W : World} (h : endF w0 B g v l W) : endF w0 B g v l W.drew := by
  obtain ⟨cs, hc⟩ := h.blk
  exact ⟨h.own.otherBlock (fun _ _ => rfl), ⟨cs, hc⟩, h.bel.drew, h.le⟩

set_option maxHeartbeats 4000000 in
theorem decode_any (s : ByteArray) (w : World) :
    Calls Try.prog 38 #[.string s] w fun e w' => ∃ ao cap, e = .returned (.tuple #[frV (decK (walkZ s)).ext (decK (walkZ s)).id (decK (walkZ s)).rtr ((decK (walkZ s)).dlc : Int) ao (decK (walkZ s)).data.length cap, .int .i64 ((walkZ s).code : Int)]) ∧ ownsB w' w.heap.size (.slice ao (decK (walkZ s)).data.length cap) (decK (walkZ s)).data ∧ Below w.heap.size w w' := by
  go_enter Try.func38, Try.ntmps38
  go_wp2_with fail
  refine (walkOver_z s _).mono ?_
  rintro e w1 ⟨ao, cap, rfl, ho, hb1⟩
  obtain ⟨hr, hb⟩ := de_res hb1
  have ho' : ownsB w1 w.heap.size (.slice ao (walkZ s).data.length cap) (walkZ s).data := ho.lower (by simp)
  clear hb1 ho
  generalize hz : walkZ s = k at *
  have HZ : Hid (walkZ s = k) := hz
  clear hz
  unfold Wk.val
  have hw : wkAt (w1.alloc (.cells #[.int .i64 (k.field : Int), .int .i64 (k.taken : Int), .int .i32 (k.last.1 : Int), .int .i64 (k.last.2 : Int), .int .i64 (k.sum : Int), .int .i64 (k.crc : Int), .bool k.ext, .int .u32 (k.id : Int), .bool k.rtr, .int .i64 (k.dlc : Int), .slice ao k.data.length cap, .int .i64 (k.code : Int)] 78)) w1.heap.size k (.slice ao k.data.length cap) := heap_alloc_new w1 _
  have he : endF w w.heap.size w.heap.size (.slice ao k.data.length cap) k.data (w1.alloc (.cells #[.int .i64 (k.field : Int), .int .i64 (k.taken : Int), .int .i32 (k.last.1 : Int), .int .i64 (k.last.2 : Int), .int .i64 (k.sum : Int), .int .i64 (k.crc : Int), .bool k.ext, .int .u32 (k.id : Int), .bool k.rtr, .int .i64 (k.dlc : Int), .slice ao k.data.length cap, .int .i64 (k.code : Int)] 78)) := ⟨World.ownsRow.alloc ho' _, ⟨_, (Below.heap_alloc w1 _ w.heap.size (lt_of_block hr)).trans hr⟩, hb.alloc hb.size _, Nat.le_refl _⟩
  have hrr : (w1.alloc (.cells #[.int .i64 (k.field : Int), .int .i64 (k.taken : Int), .int .i32 (k.last.1 : Int), .int .i64 (k.last.2 : Int), .int .i64 (k.sum : Int), .int .i64 (k.crc : Int), .bool k.ext, .int .u32 (k.id : Int), .bool k.rtr, .int .i64 (k.dlc : Int), .slice ao k.data.length cap, .int .i64 (k.code : Int)] 78)).heap[w.heap.size]? = some (.cells #[.bool false, .int .u32 0, .bool false, .int .i64 0, .slice none 0 0] 33 (0, 0)) := (Below.heap_alloc w1 _ w.heap.size (lt_of_block hr)).trans hr
  obtain ⟨c0, c1, c2, c3, c4, c5, c6, c7, c8, c9, c10, c11⟩ := hw.cells
  have d0 : (w1.alloc (.cells #[.int .i64 (k.field : Int), .int .i64 (k.taken : Int), .int .i32 (k.last.1 : Int), .int .i64 (k.last.2 : Int), .int .i64 (k.sum : Int), .int .i64 (k.crc : Int), .bool k.ext, .int .u32 (k.id : Int), .bool k.rtr, .int .i64 (k.dlc : Int), .slice ao k.data.length cap, .int .i64 (k.code : Int)] 78)).cell? ⟨w.heap.size, 0, none⟩ = some (.bool false) := by simp [World.cell?, hrr]
  have d1 : (w1.alloc (.cells #[.int .i64 (k.field : Int), .int .i64 (k.taken : Int), .int .i32 (k.last.1 : Int), .int .i64 (k.last.2 : Int), .int .i64 (k.sum : Int), .int .i64 (k.crc : Int), .bool k.ext, .int .u32 (k.id : Int), .bool k.rtr, .int .i64 (k.dlc : Int), .slice ao k.data.length cap, .int .i64 (k.code : Int)] 78)).cell? ⟨w.heap.size, 1, none⟩ = some (.int .u32 0) := by simp [World.cell?, hrr]
  have d2 : (w1.alloc (.cells #[.int .i64 (k.field : Int), .int .i64 (k.taken : Int), .int .i32 (k.last.1 : Int), .int .i64 (k.last.2 : Int), .int .i64 (k.sum : Int), .int .i64 (k.crc : Int), .bool k.ext, .int .u32 (k.id : Int), .bool k.rtr, .int .i64 (k.dlc : Int), .slice ao k.data.length cap, .int .i64 (k.code : Int)] 78)).cell? ⟨w.heap.size, 2, none⟩ = some (.bool false) := by simp [World.cell?, hrr]
  have d3 : (w1.alloc (.cells #[.int .i64 (k.field : Int), .int .i64 (k.taken : Int), .int .i32 (k.last.1 : Int), .int .i64 (k.last.2 : Int), .int .i64 (k.sum : Int), .int .i64 (k.crc : Int), .bool k.ext, .int .u32 (k.id : Int), .bool k.rtr, .int .i64 (k.dlc : Int), .slice ao k.data.length cap, .int .i64 (k.code : Int)] 78)).cell? ⟨w.heap.size, 3, none⟩ = some (.int .i64 0) := by simp [World.cell?, hrr]
  have d4 : (w1.alloc (.cells #[.int .i64 (k.field : Int), .int .i64 (k.taken : Int), .int .i32 (k.last.1 : Int), .int .i64 (k.last.2 : Int), .int .i64 (k.sum : Int), .int .i64 (k.crc : Int), .bool k.ext, .int .u32 (k.id : Int), .bool k.rtr, .int .i64 (k.dlc : Int), .slice ao k.data.length cap, .int .i64 (k.code : Int)] 78)).cell? ⟨w.heap.size, 4, none⟩ = some (.slice none 0 0) := by simp [World.cell?, hrr]
  have z0 : (w1.alloc (.cells #[.int .i64 (k.field : Int), .int .i64 (k.taken : Int), .int .i32 (k.last.1 : Int), .int .i64 (k.last.2 : Int), .int .i64 (k.sum : Int), .int .i64 (k.crc : Int), .bool k.ext, .int .u32 (k.id : Int), .bool k.rtr, .int .i64 (k.dlc : Int), .slice ao k.data.length cap, .int .i64 (k.code : Int)] 78)).frozen? ⟨w.heap.size, 0, none⟩ = false := by simp [World.frozen?, hrr]
  have z1 : (w1.alloc (.cells #[.int .i64 (k.field : Int), .int .i64 (k.taken : Int), .int .i32 (k.last.1 : Int), .int .i64 (k.last.2 : Int), .int .i64 (k.sum : Int), .int .i64 (k.crc : Int), .bool k.ext, .int .u32 (k.id : Int), .bool k.rtr, .int .i64 (k.dlc : Int), .slice ao k.data.length cap, .int .i64 (k.code : Int)] 78)).frozen? ⟨w.heap.size, 1, none⟩ = false := by simp [World.frozen?, hrr]
  have z2 : (w1.alloc (.cells #[.int .i64 (k.field : Int), .int .i64 (k.taken : Int), .int .i32 (k.last.1 : Int), .int .i64 (k.last.2 : Int), .int .i64 (k.sum : Int), .int .i64 (k.crc : Int), .bool k.ext, .int .u32 (k.id : Int), .bool k.rtr, .int .i64 (k.dlc : Int), .slice ao k.data.length cap, .int .i64 (k.code : Int)] 78)).frozen? ⟨w.heap.size, 2, none⟩ = false := by simp [World.frozen?, hrr]
  have z3 : (w1.alloc (.cells #[.int .i64 (k.field : Int), .int .i64 (k.taken : Int), .int .i32 (k.last.1 : Int), .int .i64 (k.last.2 : Int), .int .i64 (k.sum : Int), .int .i64 (k.crc : Int), .bool k.ext, .int .u32 (k.id : Int), .bool k.rtr, .int .i64 (k.dlc : Int), .slice ao k.data.length cap, .int .i64 (k.code : Int)] 78)).frozen? ⟨w.heap.size, 3, none⟩ = false := by simp [World.frozen?, hrr]
  have z4 : (w1.alloc (.cells #[.int .i64 (k.field : Int), .int .i64 (k.taken : Int), .int .i32 (k.last.1 : Int), .int .i64 (k.last.2 : Int), .int .i64 (k.sum : Int), .int .i64 (k.crc : Int), .bool k.ext, .int .u32 (k.id : Int), .bool k.rtr, .int .i64 (k.dlc : Int), .slice ao k.data.length cap, .int .i64 (k.code : Int)] 78)).frozen? ⟨w.heap.size, 4, none⟩ = false := by simp [World.frozen?, hrr]
  have HE : Hid (endF w w.heap.size w.heap.size (.slice ao k.data.length cap) k.data (w1.alloc (.cells #[.int .i64 (k.field : Int), .int .i64 (k.taken : Int), .int .i32 (k.last.1 : Int), .int .i64 (k.last.2 : Int), .int .i64 (k.sum : Int), .int .i64 (k.crc : Int), .bool k.ext, .int .u32 (k.id : Int), .bool k.rtr, .int .i64 (k.dlc : Int), .slice ao k.data.length cap, .int .i64 (k.code : Int)] 78))) := he
  clear hr hb hw he hrr ho'
  by_cases hc : k.code = 1 ∨ k.code = 2
  · have HD : Hid (decK (walkZ s) = k) := by unfold Hid; rw [HZ.out]; unfold decK; rw [if_pos hc]
    have h12 : (((k.code : Int) != 1) = false ∧ ((k.code : Int) != 2) = true) ∨ (((k.code : Int) != 1) = true ∧ ((k.code : Int) != 2) = false) := by
      rcases hc with h | h <;> rw [h] <;> decide
    clear hc
    rcases h12 with ⟨h1, h2⟩ | ⟨h1, h2⟩
    · go_wp2
      generalize w1.alloc (.cells #[.int .i64 (k.field : Int), .int .i64 (k.taken : Int), .int .i32 (k.last.1 : Int), .int .i64 (k.last.2 : Int), .int .i64 (k.sum : Int), .int .i64 (k.crc : Int), .bool k.ext, .int .u32 (k.id : Int), .bool k.rtr, .int .i64 (k.dlc : Int), .slice ao k.data.length cap, .int .i64 (k.code : Int)] 78) = W at *
      generalize w1.heap.size = b at *
      go_region
      all_goals
        go_wp2
        refine bodyPost_ret (v := .tuple #[frV k.ext k.id k.rtr (k.dlc : Int) ao k.data.length cap, .int .i64 (k.code : Int)]) ?_ rfl ⟨ao, cap, by rw [HD.out, HZ.out], ?_⟩
        · simp [results, Try.results38, go_sem, d0, d1, d2, d3, d4]
        · rw [HD.out]
          have := HE.out.drew.set5 (.bool k.ext) (.int .u32 (k.id : Int)) (.bool k.rtr) (.int .i64 (k.dlc : Int)) (.slice ao k.data.length cap)
          exact ⟨this.own, this.bel⟩
    · go_wp2
      generalize w1.alloc (.cells #[.int .i64 (k.field : Int), .int .i64 (k.taken : Int), .int .i32 (k.last.1 : Int), .int .i64 (k.last.2 : Int), .int .i64 (k.sum : Int), .int .i64 (k.crc : Int), .bool k.ext, .int .u32 (k.id : Int), .bool k.rtr, .int .i64 (k.dlc : Int), .slice ao k.data.length cap, .int .i64 (k.code : Int)] 78) = W at *
      generalize w1.heap.size = b at *
      go_region
      all_goals
        go_wp2
        refine bodyPost_ret (v := .tuple #[frV k.ext k.id k.rtr (k.dlc : Int) ao k.data.length cap, .int .i64 (k.code : Int)]) ?_ rfl ⟨ao, cap, by rw [HD.out, HZ.out], ?_⟩
        · simp [results, Try.results38, go_sem, d0, d1, d2, d3, d4]
        · rw [HD.out]
          have := HE.out.drew.set5 (.bool k.ext) (.int .u32 (k.id : Int)) (.bool k.rtr) (.int .i64 (k.dlc : Int)) (.slice ao k.data.length cap)
          exact ⟨this.own, this.bel⟩
  · have HD : Hid (decK (walkZ s) = Wk.zero) := by unfold Hid; rw [HZ.out]; unfold decK; rw [if_neg hc]
    have h1 : ((k.code : Int) != 1) = true := by simp; omega
    have h2 : ((k.code : Int) != 2) = true := by simp; omega
    clear hc
    go_wp2
    generalize w1.alloc (.cells #[.int .i64 (k.field : Int), .int .i64 (k.taken : Int), .int .i32 (k.last.1 : Int), .int .i64 (k.last.2 : Int), .int .i64 (k.sum : Int), .int .i64 (k.crc : Int), .bool k.ext, .int .u32 (k.id : Int), .bool k.rtr, .int .i64 (k.dlc : Int), .slice ao k.data.length cap, .int .i64 (k.code : Int)] 78) = W at *
    generalize w1.heap.size = b at *
    go_region
    all_goals
      go_wp2
      refine bodyPost_ret (v := .tuple #[frV false 0 false 0 none 0 0, .int .i64 (k.code : Int)]) ?_ rfl ⟨none, 0, by rw [HD.out, HZ.out]; rfl, ?_⟩
      · simp [results, Try.results38, go_sem, d0, d1, d2, d3, d4]
      · rw [HD.out]
        have := HE.out.drew.set5 (.bool false) (.int .u32 0) (.bool false) (.int .i64 0) (.slice none 0 0)
        exact ⟨own_none _ _, this.bel⟩
end Go.Proofs.Ytnefmdjodjpopaa
