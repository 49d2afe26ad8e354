import Derived.Test.YtfbeaekddgpmmaaGreatDoorProg
import Derived.WalkKit
import Derived.WalkSpells
import Derived.WalkLawsBesides
import Derived.Deep.QuietTactic
import Derived.BigQuiet
import Derived.Test.YtfbeaekddgpmmaaGreatDoorK03
namespace Go.Proofs.YtfbeaekddgpmmaaGreatDoor.J
open Go.RowKit
theorem ret_int {k : IntKind} {a b : Int} (h : a = b) : Ending.returned (.int k a) = .returned (.int k b) := by rw [h]
theorem ret_bool {a b : Bool} (h : a = b) : Ending.returned (.bool a) = .returned (.bool b) := by rw [h]
/-- one letter of a bit text -/
def okC (c : UInt8) : Bool := c == 48 || c == 49
theorem Tryz.info5 : (Tryz.prog.info? 5).map (fun i => (i.zero, i.size, i.bytes)) = some (some (.int .u8 0), 1, 1) := by kernel_rfl
def bv (l : List Nat) : List Value := l.map (fun x : Nat => Value.int .u8 (x : Int))
theorem bv_at (l : List Nat) (j : Nat) (h : j < l.length) : (bv l)[j]? = some (Value.int .u8 (l[j] : Int)) := by simp [bv, h]
/-- the slice v is a row of letters that the call itself made, in blocks from B on -/
def ownsB (w : World) (B : Nat) (v : Value) (l : List Nat) : Prop := w.ownsRow B 5 1 v l.length (bv l)
/-- one letter put behind a row of letters that the call itself made -/
theorem app_byte {ops : Array Oper} {rest : List Oper} {o : Oper} {a : Act} {Q : Exit → Act → World → Prop} (w0 wr : World) (hgd : o.guard = none) (s x : Operand)
    (ho : o.op = .call { callee := .builtin .append, args := #[s, x], argTypes := #[63, 63] })
    (B : Nat) (v : Value) (l : List Nat) (c : Nat) (ci : Int) (hci : ci = (c : Int)) (hs : a.eval s = v) (hown : ownsB wr B v l)
    (hx : a.eval x = .slice (some ⟨wr.heap.size, 0, none⟩) 1 1) (hlen : l.length ≤ 100000000) (hB : B ≤ wr.heap.size) (hbel : Below B w0 wr)
    (h : ∀ v' w', ownsB w' B v' (l ++ [c]) → Below B w0 w' → B ≤ w'.heap.size → wpList Tryz.prog ops Q rest (a.put o.dst v') w') :
    wpList Tryz.prog ops Q (o :: rest) a (wr.alloc (.cells #[.int .u8 ci] 5)) := by
  subst hci
  obtain ⟨i0, hi, hz0, hz1, hz2⟩ := info_parts Tryz.info5
  refine wpList_append_own _ hgd s x 63 ho B 5 i0 (.int .u8 0) 1 1 Tryz.underlying63 hi hz0 hz1 hz2 rfl (by decide) v l.length (bv l) hs (World.ownsRow.alloc hown _) ⟨wr.heap.size, 0, none⟩ 1 1 [.int .u8 (c : Int)] hx rfl ?_ ?_ ?_ ?_ ?_ ?_
  · intro j u hj
    match j, hj with
    | 0, hj => simp at hj; subst hj; simp [Addr.add]
  · intro u hu; simp at hu; subst hu; rfl
  · unfold maxLen; omega
  · omega
  · simp; omega
  · intro v' w' ho' hg _
    have hr : ∀ k, v.ownBlock = some k → B ≤ k := fun k hk => (World.ownsRow.lt hown k hk).1
    refine h v' w' ?_ ((hbel.alloc hB _).grown hg (by simp; omega) hr) (Nat.le_trans (by simp; omega) hg.size)
    have e1 : bv (l ++ [c]) = bv l ++ [.int .u8 (c : Int)] := by simp [bv]
    unfold ownsB
    rw [e1, List.length_append]
    exact ho'
/-- the row of letters, cell by cell -/
structure rowB (w : World) (g n : Nat) (f : Nat → Nat) : Prop where
  cell : ∀ t, t < n → w.cell? ⟨g, t, none⟩ = some (.int .u8 (f t : Int))
  free : ∀ t, t < n → w.frozen? ⟨g, t, none⟩ = false
theorem ownsB.open {w : World} {B : Nat} {v : Value} {l : List Nat} (h : ownsB w B v l) (hl : l ≠ []) :
    ∃ g cap, v = .slice (some ⟨g, 0, none⟩) l.length cap ∧ B ≤ g ∧ g < w.heap.size ∧ l.length ≤ cap ∧ cap ≤ maxLen ∧ rowB w g l.length (fun t => l.getD t 0) := by
  have h' := h
  obtain ⟨_, h1 | ⟨g, cap, cur, rfl, hb, hh, hc, hm, hsz, htk⟩⟩ := h
  · exact absurd (List.length_eq_zero_iff.1 h1.2) hl
  · refine ⟨g, cap, rfl, hb, (World.ownsRow.lt h' g rfl).2, hc, hm, fun t ht => ?_, fun t ht => ?_⟩
    · rw [World.ownsRow.cellAt h' t (by omega), bv_at l t ht]; simp [List.getD, ht]
    · exact World.ownsRow.frozenAt h' t
theorem rowB.of {w : World} {g n : Nat} {f f' : Nat → Nat} (h : rowB w g n f) (he : ∀ t, t < n → f t = f' t) : rowB w g n f' :=
  ⟨fun t ht => by rw [← he t ht]; exact h.cell t ht, h.free⟩
theorem rowB.set {w : World} {g n : Nat} {f f' : Nat → Nat} (h : rowB w g n f) (t0 : Nat) (ht0 : t0 < n) (x : Int) (hx : x = (f' t0 : Int)) (he : ∀ t, t < n → t ≠ t0 → f t = f' t) : rowB (w.setCell ⟨g, t0, none⟩ (.int .u8 x)).drew g n f' := by
  refine ⟨fun t ht => ?_, fun t ht => ?_⟩
  · rw [World.cell?_drew]
    by_cases e : t = t0
    · subst e
      rw [World.cell?_setCell_same _ _ _ (h.cell t ht), hx]
    · rw [World.cell?_setCell_other _ _ _ _ (by intro hh; exact e (by simpa using hh.symm)), h.cell t ht, he t ht e]
  · rw [World.frozen?_drew, World.frozen?_setCell]
    exact h.free t ht
end Go.Proofs.YtfbeaekddgpmmaaGreatDoor.J
