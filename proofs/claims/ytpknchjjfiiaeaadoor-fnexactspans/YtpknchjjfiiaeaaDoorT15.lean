import Derived.Test.YtpknchjjfiiaeaaDoorT14
import Derived.Lib.OthersKept
namespace Go.Proofs.YtpknchjjfiiaeaaDoor
open Go.RowKit
def wv (l : List Nat) : List Value := l.map (fun x : Nat => Value.int .u64 (x : Int))
theorem wv_at (l : List Nat) (j : Nat) (h : j < l.length) : (wv l)[j]? = some (Value.int .u64 (l[j] : Int)) := by simp [wv, h]
/-- the slice v is a row of letters that the call itself made, in blocks from B on -/
def ownsW (w : World) (B : Nat) (v : Value) (l : List Nat) : Prop := w.ownsRow B 60 1 v l.length (wv l)
theorem ownsW.kind {w : World} {B : Nat} {v : Value} {l : List Nat} (h : ownsW w B v l) : ∀ g, v.ownBlock = some g → ∃ c fz, w.heap[g]? = some (.cells c 60 fz) := by
  intro g hg
  obtain ⟨_, ⟨rfl, _⟩ | ⟨g', cap, cur, rfl, _, hh, _⟩⟩ := h
  · simp [Value.ownBlock] at hg
  · simp [Value.ownBlock] at hg
    subst hg
    exact ⟨cur, _, hh⟩
/-- one letter put behind a row of letters that the call itself made; all other blocks stand -/
theorem app_word2 {ops : Array Oper} {rest : List Oper} {o : Oper} {a : Act} {Q : Exit → Act → World → Prop} (w0 wr : World) (hgd : o.guard = none) (s x : Operand)
    (ho : o.op = .call { callee := .builtin .append, args := #[s, x], argTypes := #[27, 27] })
    (B : Nat) (v : Value) (l : List Nat) (c : Nat) (ci : Int) (hci : ci = (c : Int)) (hs : a.eval s = v) (hown : ownsW wr B v l)
    (hx : a.eval x = .slice (some ⟨wr.heap.size, 0, none⟩) 1 1) (hlen : l.length ≤ 1000000) (hB : B ≤ wr.heap.size) (hbel : Below B w0 wr)
    (h : ∀ v' w', ownsW w' B v' (l ++ [c]) → Below B w0 w' → Lib.OthersKept 60 none wr w' → B ≤ w'.heap.size → wpList Tryd.prog ops Q rest (a.put o.dst v') w') :
    wpList Tryd.prog ops Q (o :: rest) a (wr.alloc (.cells #[.int .u64 ci] 60)) := by
  subst hci
  obtain ⟨i0, hi, hz0, hz1, hz2⟩ := info_parts Tryd.info60
  refine wpList_append_own _ hgd s x 27 ho B 60 i0 (.int .u64 0) 1 8 Tryd.underlying27 hi hz0 hz1 hz2 rfl (by decide) v l.length (wv l) hs (World.ownsRow.alloc hown _) ⟨wr.heap.size, 0, none⟩ 1 1 [.int .u64 (c : Int)] hx rfl ?_ ?_ ?_ ?_ ?_ ?_
  · intro j u hj
    match j, hj with
    | 0, hj => simp at hj; subst hj; simp [Addr.add]
  · intro u hu; simp at hu; subst hu; rfl
  · unfold maxLen; omega
  · omega
  · simp; omega
  · intro v' w' ho' hg _
    have hr : ∀ k, v.ownBlock = some k → B ≤ k := fun k hk => (World.ownsRow.lt hown k hk).1
    refine h v' w' ?_ ((hbel.alloc hB _).grown hg (by simp; omega) hr) (((Lib.OthersKept.refl 60 none wr).alloc _).grown hg ?_) (Nat.le_trans (by simp; omega) hg.size)
    · have e1 : wv (l ++ [c]) = wv l ++ [.int .u64 (c : Int)] := by simp [wv]
      unfold ownsW
      rw [e1, List.length_append]
      exact ho'
    · intro g hg'
      exact ownsW.kind (B := B) (l := l) (World.ownsRow.alloc hown _) g hg'
theorem ownsW.open {w : World} {B : Nat} {v : Value} {l : List Nat} (h : ownsW w B v l) (hl : l ≠ []) :
    ∃ g cap, v = .slice (some ⟨g, 0, none⟩) l.length cap ∧ B ≤ g ∧ g < w.heap.size ∧ l.length ≤ cap ∧ cap ≤ maxLen ∧ rowW w g l.length (fun t => l.getD t 0) := by
  have h' := h
  obtain ⟨_, h1 | ⟨g, cap, cur, rfl, hb, hh, hc, hm, hsz, htk⟩⟩ := h
  · exact absurd (List.length_eq_zero_iff.1 h1.2) hl
  · refine ⟨g, cap, rfl, hb, (World.ownsRow.lt h' g rfl).2, hc, hm, fun t ht => ?_, fun t ht => ?_⟩
    · rw [World.ownsRow.cellAt h' t (by omega), wv_at l t ht]; simp [List.getD, ht]
    · exact World.ownsRow.frozenAt h' t
theorem ownsW.stored {w : World} {B g cap : Nat} {l : List Nat} (h : ownsW w B (.slice (some ⟨g, 0, none⟩) l.length cap) l) (j x : Nat) : ownsW (w.setCell ⟨g, j, none⟩ (.int .u64 (x : Int))) B (.slice (some ⟨g, 0, none⟩) l.length cap) (l.set j x) := by
  have := (World.ownsRow.stored h j (.int .u64 (x : Int))).1
  unfold ownsW
  have e : wv (l.set j x) = (wv l).set j (.int .u64 (x : Int)) := by simp [wv, List.map_set]
  rw [e, List.length_set]
  exact this
/-- the bit at i, 0 behind the end -/
def fb (s : ByteArray) (i : Nat) : Nat := if h : i < s.size then (if s[i].toNat = 49 then 1 else 0) else 0
/-- the first j bits of word q -/
def PV (s : ByteArray) (q : Nat) : Nat → Nat
  | 0 => 0
  | j + 1 => 2 * PV s q j + fb s (64 * q + j)
theorem fb_lt (s : ByteArray) (i : Nat) : fb s i < 2 := by
  unfold fb
  split
  · split <;> decide
  · decide
theorem PV_lt (s : ByteArray) (q j : Nat) : PV s q j < 2 ^ j := by
  induction j with
  | zero => simp [PV]
  | succ j ih =>
    have := fb_lt s (64 * q + j)
    simp only [PV, Nat.pow_succ]
    omega
theorem ownsW.words {w : World} {B : Nat} {ao : Option Addr} {n cap : Nat} {l : List Nat} (h : ownsW w B (.slice ao n cap) l) (hn : n = l.length) (hs : ∀ x ∈ l, x < 18446744073709551616) (hc : n ≤ cap) : isWords w ao n cap l := by
  refine ⟨hn, hc, hs, fun hl => ?_⟩
  obtain ⟨g, cap', e, _, _, _, _, hr⟩ := h.open hl
  cases e
  refine ⟨g, 0, rfl, fun j hj => ?_⟩
  rw [Nat.zero_add, hr.cell j hj, getD_at l j hj]
theorem ownsW.otherBlock {w w' : World} {B : Nat} {v : Value} {l : List Nat} (h : ownsW w B v l) (hk : ∀ g, v.ownBlock = some g → w'.heap[g]? = w.heap[g]?) : ownsW w' B v l := by
  obtain ⟨h1, h2 | ⟨g, cap, cur, rfl, hb, hh, rest⟩⟩ := h
  · exact ⟨h1, .inl h2⟩
  · exact ⟨h1, .inr ⟨g, cap, cur, rfl, hb, (hk g (by simp [Value.ownBlock])).trans hh, rest⟩⟩
theorem ownsW.setCellO {w : World} {B : Nat} {v : Value} {l : List Nat} (h : ownsW w B v l) (b j : Nat) (x : Value) (hb : b < B) : ownsW (w.setCell ⟨b, j, none⟩ x) B v l :=
  h.otherBlock fun g hg => heap_setCell_other w ⟨b, j, none⟩ g x (by have := (World.ownsRow.lt h g hg).1; show g ≠ b; omega)
end Go.Proofs.YtpknchjjfiiaeaaDoor
