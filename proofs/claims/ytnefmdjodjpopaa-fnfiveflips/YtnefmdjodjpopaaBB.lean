import Derived.Test.YtnefmdjodjpopaaBA
import Derived.Maps.AppendAt
namespace Go.Proofs.Ytnefmdjodjpopaa
open Go.RowKit

/-- one letter put behind a row of letters of its own; every other block stands -/
theorem app_byte3 {ops : Array Oper} {rest : List Oper} {o : Oper} {a : Act} {Q : Exit → Act → World → Prop} (w0 wr : World) (hgd : o.guard = none) (s x : Operand)
    (ho : o.op = .call { callee := .builtin .append, args := #[s, x], argTypes := #[28, 28] })
    (B : Nat) (v : Value) (l : List Nat) (c : Nat) (ci : Int) (hci : ci = (c : Int)) (hs : a.eval s = v) (hown : ownsB wr B v l)
    (hx : a.eval x = .slice (some ⟨wr.heap.size, 0, none⟩) 1 1) (hlen : l.length ≤ 100000000) (hB : B ≤ wr.heap.size) (hbel : Below B w0 wr)
    (h : ∀ v' w', ownsB w' B v' (l ++ [c]) → Below B w0 w' → (∀ g, g < wr.heap.size → v.ownBlock ≠ some g → w'.heap[g]? = wr.heap[g]? ∧ v'.ownBlock ≠ some g) → wr.heap.size ≤ w'.heap.size → wpList Try.prog ops Q rest (a.put o.dst v') w') :
    wpList Try.prog ops Q (o :: rest) a (wr.alloc (.cells #[.int .u8 ci] 5)) := by
  subst hci
  obtain ⟨i0, hi, hz0, hz1, hz2⟩ := info_parts Try.info5
  refine wpList_append_own_at _ hgd s x 28 ho B 5 i0 (.int .u8 0) 1 1 Try.underlying28 hi hz0 hz1 hz2 rfl (by decide) v l.length (bv l) hs (World.ownsRow.alloc hown _) ⟨wr.heap.size, 0, none⟩ 1 1 [.int .u8 (c : Int)] hx rfl ?_ ?_ ?_ ?_ ?_ ?_
  · intro j u hj
    match j, hj with
    | 0, hj => simp at hj; subst hj; simp [Addr.add]
  · intro u hu; simp at hu; subst hu; rfl
  · unfold maxLen; omega
  · omega
  · simp; omega
  · intro v' w' ho' hg _ hor
    have hr : ∀ k, v.ownBlock = some k → B ≤ k := fun k hk => (World.ownsRow.lt hown k hk).1
    have e1 : bv (l ++ [c]) = bv l ++ [.int .u8 (c : Int)] := by simp [bv]
    refine h v' w' ?_ ((hbel.alloc hB _).grown hg (by simp; omega) hr) (fun g hgl hne => ⟨?_, ?_⟩) (Nat.le_trans (by simp) hg.size)
    · unfold ownsB
      rw [e1, List.length_append]
      exact ho'
    · exact (hg.block g (by simp; omega) (fun e => hne e.symm)).trans (Below.heap_alloc wr _ g hgl)
    · rcases hor with hor | hor <;> rw [hor]
      · exact hne
      · intro e
        simp at e
        omega
/-- a row of letters of its own, read as bytes -/
theorem ownsB.bytes {w : World} {B : Nat} {v : Value} {l : List Nat} (h : ownsB w B v l) (hl : ∀ x ∈ l, x < 256) : ∃ ao cap, v = .slice ao l.length cap ∧ isBytes w ao l.length cap l := by
  by_cases he : l = []
  · subst he
    obtain ⟨_, ⟨rfl, _⟩ | ⟨g, cap, cur, rfl, _⟩⟩ := h
    · exact ⟨none, 0, rfl, rfl, Nat.le_refl _, hl, fun h => absurd rfl h⟩
    · exact ⟨_, cap, rfl, rfl, Nat.zero_le _, hl, fun h => absurd rfl h⟩
  · obtain ⟨g, cap, hv, h1, h2, h3, h4, h5⟩ := h.open he
    refine ⟨some ⟨g, 0, none⟩, cap, hv, rfl, h3, hl, fun _ => ⟨g, 0, rfl, fun j hj => ?_⟩⟩
    have := h5.cell j hj
    rw [Nat.zero_add, this]
    simp [hj]

/-- one letter of the model's walk: the code, the plain letters, whether a stuff letter is due -/
def swStep (L : List Nat) (i : Nat) (st : Nat × List Nat × Bool) : Nat × List Nat × Bool :=
  let c := L.getD i 0
  let p := if st.2.2 = true then st.2.1 else st.2.1 ++ [c]
  (if st.2.2 = true then (if c = L.getD (i - 1) 0 then 3 else 0) else lookL st.2.1 c, p,
    dueF (fun t => L.getD t 0) (i + 1) && (decide (fieldL p ≤ 10) || decide (fieldL p = 11)))
def sw (L : List Nat) : Nat → Nat × List Nat × Bool
  | 0 => (0, [], false)
  | i + 1 => swStep L i (sw L i)
/-- the model's walk from letter i on, with as many letters left as said -/
def swF (L : List Nat) : Nat → Nat → Nat × List Nat × Bool
  | 0, i => sw L i
  | f + 1, i => if goesOnB (sw L i).1 = true then swF L f (i + 1) else (7, (sw L i).2.1, false)
theorem sw_len (L : List Nat) (i : Nat) : (sw L i).2.1.length ≤ i := by
  induction i with
  | zero => exact Nat.le_refl _
  | succ i ih =>
    show (if (sw L i).2.2 = true then (sw L i).2.1 else (sw L i).2.1 ++ [L.getD i 0]).length ≤ i + 1
    split
    · omega
    · rw [List.length_append, List.length_singleton]; omega
theorem sw_small (L : List Nat) (h : ∀ x ∈ L, M.isL x) (i : Nat) (hi : i ≤ L.length) : ∀ x ∈ (sw L i).2.1, M.isL x := by
  induction i with
  | zero => intro x hx; cases hx
  | succ i ih =>
    have ih := ih (by omega)
    show ∀ x ∈ (if (sw L i).2.2 = true then (sw L i).2.1 else (sw L i).2.1 ++ [L.getD i 0]), M.isL x
    split
    · exact ih
    · intro x hx
      rw [List.mem_append, List.mem_singleton] at hx
      rcases hx with hx | rfl
      · exact ih x hx
      · have hi' : i < L.length := by omega
        have e : L.getD i 0 = L[i] := by simp [hi']
        rw [e]
        exact h _ (List.getElem_mem hi')
end Go.Proofs.Ytnefmdjodjpopaa
