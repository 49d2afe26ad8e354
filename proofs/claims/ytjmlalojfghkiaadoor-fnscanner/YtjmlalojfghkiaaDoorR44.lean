import Derived.Test.YtjmlalojfghkiaaDoorR43
namespace Go.Proofs.YtjmlalojfghkiaaDoor.J
open Go.RowKit
theorem judge_same (s : ByteArray) : judgeV (walkZ s) = sjV (swZ s).1 (swZ s).2.1 (swZ s).2.2 := by
  unfold walkZ swZ
  by_cases hk : okT s 4000 = true
  · rw [if_pos hk, if_pos hk]
    obtain ⟨h1, h2, -⟩ := walk_all (lt s) (lt_isL hk)
    unfold judgeV sjV
    rw [h1]
    by_cases hg : goesOnB (swF (lt s) (lt s).length 0).1 = true
    · obtain ⟨h3, h4, h5⟩ := h2 hg
      rw [if_pos hg, if_pos hg, h3, h4, h5]
    · rw [if_neg hg, if_neg hg]
  · rw [if_neg hk, if_neg hk]
    rfl
theorem sjV_shape (c : Nat) (p : List Nat) (d : Bool) : ∃ c' f' : Nat, ∃ d' o' : Bool, sjV c p d = .agg #[.int .i64 (c' : Int), .int .i64 (f' : Int), .bool d', .bool o'] := by
  unfold sjV
  split
  · exact ⟨_, _, _, _, rfl⟩
  · exact ⟨_, 0, _, _, rfl⟩
theorem vd_cells {w w2 : World} {c f : Nat} {d o : Bool} (x : Obj) (h : Below (w.alloc (.cells #[.int .i64 (c : Int), .int .i64 (f : Int), .bool d, .bool o] 40)).heap.size (w.alloc (.cells #[.int .i64 (c : Int), .int .i64 (f : Int), .bool d, .bool o] 40)) w2) :
    (w2.alloc x).cell? ⟨w.heap.size, 0, none⟩ = some (.int .i64 (c : Int)) ∧ (w2.alloc x).cell? ⟨w.heap.size, 1, none⟩ = some (.int .i64 (f : Int)) ∧ (w2.alloc x).cell? ⟨w.heap.size, 2, none⟩ = some (.bool d) ∧ (w2.alloc x).cell? ⟨w.heap.size, 3, none⟩ = some (.bool o) := by
  have e : (w2.alloc x).heap[w.heap.size]? = some (.cells #[.int .i64 (c : Int), .int .i64 (f : Int), .bool d, .bool o] 40 (0, 0)) := by
    have hz := h.size
    rw [Below.heap_alloc w2 x _ (Nat.lt_of_lt_of_le (by simp) hz)]
    exact (h.block _ (by simp)).trans (heap_alloc_new w _)
  refine ⟨?_, ?_, ?_, ?_⟩ <;> simp [World.cell?, e]
end Go.Proofs.YtjmlalojfghkiaaDoor.J
