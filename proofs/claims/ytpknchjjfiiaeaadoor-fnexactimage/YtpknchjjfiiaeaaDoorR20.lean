import Derived.Test.YtpknchjjfiiaeaaDoorR19
import Derived.Test.YtpknchjjfiiaeaaDoorR16
import Derived.Deep.RegionHeld3
namespace Go.Proofs.YtpknchjjfiiaeaaDoor
open Go.RowKit
set_option linter.unusedVariables false
theorem Tryd.info56 : (Tryd.prog.info? 56).map (fun i => (i.zero, i.size, i.bytes)) = some (some (.agg #[.int .i64 0, .int .i64 0, .int .i64 0]), 3, 24) := by kernel_rfl
/-- a row of spans of one's own -/
def ownsS (w : World) (B : Nat) (v : Value) (S : List (Nat × Nat × Nat)) : Prop := w.ownsRow B 56 3 v S.length (spV S)
theorem ownsS.kind {w : World} {B : Nat} {v : Value} {S : List (Nat × Nat × Nat)} (h : ownsS w B v S) : ∀ g, v.ownBlock = some g → ∃ c fz, w.heap[g]? = some (.cells c 56 fz) := by
  intro g hg
  obtain ⟨_, ⟨rfl, _⟩ | ⟨g', cap, cur, rfl, _, hh, _⟩⟩ := h
  · simp [Value.ownBlock] at hg
  · simp [Value.ownBlock] at hg
    subst hg
    exact ⟨cur, _, hh⟩
theorem ownsS.otherBlock {w w' : World} {B : Nat} {v : Value} {S : List (Nat × Nat × Nat)} (h : ownsS w B v S) (hk : ∀ g, v.ownBlock = some g → w'.heap[g]? = w.heap[g]?) : ownsS w' B v S := by
  obtain ⟨h1, ⟨h2, h3⟩ | ⟨g, cap, cur, h2, h3, hh, h4⟩⟩ := h
  · exact ⟨h1, .inl ⟨h2, h3⟩⟩
  · refine ⟨h1, .inr ⟨g, cap, cur, h2, h3, ?_, h4⟩⟩
    rw [hk g (by rw [h2]; rfl)]
    exact hh
theorem app_span {ops : Array Oper} {rest : List Oper} {o : Oper} {a : Act} {Q : Exit → Act → World → Prop} (w0 wr : World) (hgd : o.guard = none) (s x : Operand)
    (ho : o.op = .call { callee := .builtin .append, args := #[s, x], argTypes := #[38, 38] })
    (B : Nat) (v : Value) (S : List (Nat × Nat × Nat)) (y : Nat × Nat × Nat) (c0 c1 c2 : Int) (h0 : c0 = (y.1 : Int)) (h1 : c1 = (y.2.1 : Int)) (h2 : c2 = (y.2.2 : Int)) (hs : a.eval s = v) (hown : ownsS wr B v S)
    (hx : a.eval x = .slice (some ⟨wr.heap.size, 0, none⟩) 1 1) (hlen : S.length ≤ 1000000) (hB : B ≤ wr.heap.size) (hbel : Below B w0 wr)
    (h : ∀ v' w', ownsS w' B v' (S ++ [y]) → Below B w0 w' → Lib.OthersKept 56 none wr w' → B ≤ w'.heap.size → wpList Tryd.prog ops Q rest (a.put o.dst v') w') :
    wpList Tryd.prog ops Q (o :: rest) a (wr.alloc (.cells #[.int .i64 c0, .int .i64 c1, .int .i64 c2] 56)) := by
  subst h0 h1 h2
  obtain ⟨i0, hi, hz0, hz1, hz2⟩ := info_parts Tryd.info56
  refine wpList_append_own _ hgd s x 38 ho B 56 i0 (.agg #[.int .i64 0, .int .i64 0, .int .i64 0]) 3 24 Tryd.underlying38 hi hz0 hz1 hz2 rfl (by decide) v S.length (spV S) hs (World.ownsRow.alloc hown _) ⟨wr.heap.size, 0, none⟩ 1 1 [.int .i64 (y.1 : Int), .int .i64 (y.2.1 : Int), .int .i64 (y.2.2 : Int)] hx rfl ?_ ?_ ?_ ?_ ?_ ?_
  · intro j u hj
    match j, hj with
    | 0, hj => simp at hj; subst hj; simp [Addr.add]
    | 1, hj => simp at hj; subst hj; simp [Addr.add]
    | 2, hj => simp at hj; subst hj; simp [Addr.add]
  · intro u hu; simp at hu; rcases hu with rfl | rfl | rfl <;> rfl
  · unfold maxLen; omega
  · omega
  · simp; omega
  · intro v' w' ho' hg _
    have hr : ∀ k, v.ownBlock = some k → B ≤ k := fun k hk => (World.ownsRow.lt hown k hk).1
    refine h v' w' ?_ ((hbel.alloc hB _).grown hg (by simp; omega) hr) (((Lib.OthersKept.refl 56 none wr).alloc _).grown hg ?_) (Nat.le_trans (by simp; omega) hg.size)
    · have e1 : spV (S ++ [y]) = spV S ++ [.int .i64 (y.1 : Int), .int .i64 (y.2.1 : Int), .int .i64 (y.2.2 : Int)] := by simp [spV]
      unfold ownsS
      rw [e1, List.length_append]
      exact ho'
    · intro g hg'
      exact ownsS.kind (B := B) (S := S) (World.ownsRow.alloc hown _) g hg'
/-- the writer behind calls that leave its blocks alone -/
theorem bwS.below {w0 W W' : World} {b : Nat} {o : List Nat} {st : Bool} {r : Nat × Nat} (h : bwS w0 b o st r W) (hb : Below W.heap.size W W') : bwS w0 b o st r W' := by
  obtain ⟨⟨v, hh, own⟩, hbel⟩ := h
  have hz := (bw5 hh).2.2
  exact ⟨⟨v, (hb.block b hz).trans hh, own.below hb⟩, hbel.trans (hb.mono (Nat.le_of_lt hz))⟩
theorem bwS.spans {w0 W W' : World} {b B : Nat} {o : List Nat} {st : Bool} {r : Nat × Nat} (h : bwS w0 b o st r W) (hb : Below B W W') (hB : b < B) (hk : Lib.OthersKept 56 none W W') : bwS w0 b o st r W' := by
  obtain ⟨⟨v, hh, own⟩, hbel⟩ := h
  refine ⟨⟨v, (hb.block b hB).trans hh, own.otherBlock fun g hg => ?_⟩, hbel.trans (hb.mono (Nat.le_of_lt hB))⟩
  obtain ⟨c, fz, hc⟩ := own.kind g hg
  rw [hc]
  exact hk g _ hc (by simp) (by intro c' fz' e; cases e)
theorem bwS.since {w0 W : World} {b : Nat} {o : List Nat} {st : Bool} {r : Nat × Nat} (h : bwS w0 b o st r W) : bwS W b o st r W := ⟨h.row, Below.refl _ _⟩
theorem ownsS.writer {W W' : World} {b B : Nat} {v : Value} {S : List (Nat × Nat × Nat)} (h : ownsS W B v S) (hB : b < B) (hk : Lib.OthersKept 60 (some b) W W') : ownsS W' B v S := by
  refine h.otherBlock fun g hg => ?_
  obtain ⟨c, fz, hc⟩ := h.kind g hg
  rw [hc]
  have := (World.ownsRow.lt h g hg).1
  exact hk g _ hc (by intro e; simp at e; omega) (by intro c' fz' e; cases e)
theorem ownsS.below {w w' : World} {B : Nat} {v : Value} {S : List (Nat × Nat × Nat)} (h : ownsS w B v S) (hb : Below w.heap.size w w') : ownsS w' B v S :=
  h.otherBlock fun g hg => hb.block g (World.ownsRow.lt h g hg).2
end Go.Proofs.YtpknchjjfiiaeaaDoor
