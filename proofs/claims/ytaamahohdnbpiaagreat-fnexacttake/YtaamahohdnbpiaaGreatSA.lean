import Derived.Test.YtaamahohdnbpiaaGreatProg
import Derived.WalkKit
import Derived.WalkSpells
import Derived.WalkLawsBesides
import Derived.Deep.QuietTactic
import Derived.BigQuiet
import Derived.Below
import Derived.Laws.BitsAllLaws
import Derived.Laws.IdiomStrings
import Derived.Deep.RegionWith
import Derived.Deep.MidRow
import Derived.Maps.AppendAt
namespace Go.Proofs.YtaamahohdnbpiaaGreat
open Go.RowKit
theorem ret_int {k : IntKind} {a b : Int} (h : a = b) : Ending.returned (.int k a) = .returned (.int k b) := by rw [h]
theorem ret_bool {a b : Bool} (h : a = b) : Ending.returned (.bool a) = .returned (.bool b) := by rw [h]
theorem getD_at (l : List Nat) (k : Nat) (h : k < l.length) : l.getD k 0 = l[k] := by simp [List.getD, h]
theorem bcell {W w1 : World} (hb : Below W.heap.size W w1) : (∀ b o, b < W.heap.size → w1.cell? ⟨b, o, none⟩ = W.cell? ⟨b, o, none⟩) ∧ (∀ b o, b < W.heap.size → w1.frozen? ⟨b, o, none⟩ = W.frozen? ⟨b, o, none⟩) :=
  ⟨fun b o h => hb.cell (p := ⟨b, o, none⟩) h, fun b o h => hb.frozen (p := ⟨b, o, none⟩) h⟩
theorem Tryz.info5 : (Tryz.prog.info? 5).map (fun i => (i.zero, i.size, i.bytes)) = some (some (.int .u8 0), 1, 1) := by kernel_rfl
def bv (l : List Nat) : List Value := l.map (fun x : Nat => Value.int .u8 (x : Int))
theorem bv_length (l : List Nat) : (bv l).length = l.length := by simp [bv]
theorem bv_append (l m : List Nat) : bv (l ++ m) = bv l ++ bv m := by simp [bv]
theorem bv_at (l : List Nat) (j : Nat) (h : j < l.length) : (bv l)[j]? = some (Value.int .u8 (l[j] : Int)) := by simp [bv, h]
/-- the slice v is a row of letters that the call itself made, in blocks from B on -/
def ownsB (w : World) (B : Nat) (v : Value) (l : List Nat) : Prop := w.ownsRow B 5 1 v l.length (bv l)
/-- one letter put behind a row of letters that the call itself made -/
theorem app_byte {ops : Array Oper} {rest : List Oper} {o : Oper} {a : Act} {Q : Exit → Act → World → Prop} (w0 wr : World) (hgd : o.guard = none) (s x : Operand)
    (ho : o.op = .call { callee := .builtin .append, args := #[s, x], argTypes := #[22, 22] })
    (B : Nat) (v : Value) (l : List Nat) (c : Nat) (ci : Int) (hci : ci = (c : Int)) (hs : a.eval s = v) (hown : ownsB wr B v l)
    (hx : a.eval x = .slice (some ⟨wr.heap.size, 0, none⟩) 1 1) (hlen : l.length ≤ 100000000) (hB : B ≤ wr.heap.size) (hbel : Below B w0 wr)
    (h : ∀ v' w', ownsB w' B v' (l ++ [c]) → Below B w0 w' → B ≤ w'.heap.size → wpList Tryz.prog ops Q rest (a.put o.dst v') w') :
    wpList Tryz.prog ops Q (o :: rest) a (wr.alloc (.cells #[.int .u8 ci] 5)) := by
  subst hci
  obtain ⟨i0, hi, hz0, hz1, hz2⟩ := info_parts Tryz.info5
  refine wpList_append_own _ hgd s x 22 ho B 5 i0 (.int .u8 0) 1 1 Tryz.underlying22 hi hz0 hz1 hz2 rfl (by decide) v l.length (bv l) hs (World.ownsRow.alloc hown _) ⟨wr.heap.size, 0, none⟩ 1 1 [.int .u8 (c : Int)] hx rfl ?_ ?_ ?_ ?_ ?_ ?_
  · intro j u hj
    match j, hj with
    | 0, hj => simp at hj; subst hj; simp [Addr.add]
  · intro u hu; simp at hu; subst hu; rfl
  · unfold maxLen; omega
  · omega
  · simp; omega
  · intro v' w' ho' hg _
    have hr : ∀ k, v.ownBlock = some k → B ≤ k := fun k hk => (World.ownsRow.lt hown k hk).1
    refine h v' w' ?_ ((hbel.alloc hB _).grown hg (by simp; omega) hr) (Nat.le_trans (by simp; omega) hg.size)
    have e1 : bv (l ++ [c]) = bv l ++ [.int .u8 (c : Int)] := by simp [bv]
    unfold ownsB
    rw [e1, List.length_append]
    exact ho'
theorem own_nil (w : World) (B : Nat) (hB : B ≤ w.heap.size) : ownsB (w.alloc (.cells #[] 5)) B (.slice (some ⟨w.heap.size, 0, none⟩) 0 0) [] :=
  World.ownsRow_made w #[] 0 hB (by decide) rfl
/-- the row of letters, cell by cell -/
structure rowB (w : World) (g n : Nat) (f : Nat → Nat) : Prop where
  cell : ∀ t, t < n → w.cell? ⟨g, t, none⟩ = some (.int .u8 (f t : Int))
  free : ∀ t, t < n → w.frozen? ⟨g, t, none⟩ = false
theorem rowB.of {w : World} {g n : Nat} {f f' : Nat → Nat} (h : rowB w g n f) (he : ∀ t, t < n → f t = f' t) : rowB w g n f' :=
  ⟨fun t ht => by rw [← he t ht]; exact h.cell t ht, h.free⟩
theorem rowB.set {w : World} {g n : Nat} {f f' : Nat → Nat} (h : rowB w g n f) (t0 : Nat) (ht0 : t0 < n) (x : Int) (hx : x = (f' t0 : Int)) (he : ∀ t, t < n → t ≠ t0 → f t = f' t) : rowB (w.setCell ⟨g, t0, none⟩ (.int .u8 x)).drew g n f' := by
  refine ⟨fun t ht => ?_, fun t ht => ?_⟩
  · rw [World.cell?_drew]
    by_cases e : t = t0
    · subst e
      rw [World.cell?_setCell_same _ _ _ (h.cell t ht), hx]
    · rw [World.cell?_setCell_other _ _ _ _ (by intro hh; exact e (by simpa using hh.symm)), h.cell t ht, he t ht e]
  · rw [World.frozen?_drew, World.frozen?_setCell]
    exact h.free t ht
theorem make_zeroB {ops : Array Oper} {rest : List Oper} {o : Oper} {a : Act} {Q : Exit → Act → World → Prop} (w : World)
    (hg : o.guard = none) (l c : Operand) (hop : o.op = Op.makeSlice 22 l c) (C : Int) (n : Nat) (hl : a.eval l = .int .i64 C) (hc : a.eval c = .int .i64 C) (hC : C = (n : Int)) (hn : n ≤ 100000000)
    (hK : ∀ w', rowB w' w.heap.size n (fun _ => 0) → w.grownBy w' none → w.heap.size < w'.heap.size → wpList Tryz.prog ops Q rest (a.put o.dst (.slice (some ⟨w.heap.size, 0, none⟩) n n)) w') :
    wpList Tryz.prog ops Q (o :: rest) a w := by
  obtain ⟨i0, hi, hz0, hz1, hz2⟩ := info_parts Tryz.info5
  refine wpList_make_full w hg l c 22 hop w.heap.size 5 i0 (.int .u8 0) 1 Tryz.underlying22 hi hz0 hz1 .i64 .i64 C C n hl hc hC hC (by rw [hz2]; omega) (by unfold maxLen; omega) (Nat.le_refl _) ?_
  intro w' ho hgr
  refine hK w' ⟨fun t ht => ?_, fun t ht => World.ownsRow.frozenAt ho t⟩ hgr (World.ownsRow.lt ho _ rfl).2
  rw [World.ownsRow.cellAt ho t (by omega)]
  have e : (madeCells (Value.int IntKind.u8 0).cells (n * 1)).toList = List.replicate (n * 1) (.int .u8 0) := toList_madeCells_one _ _
  rw [e, Nat.mul_one, List.getElem?_replicate, if_pos ht]
  rfl
theorem rowB.set' {w : World} {g n : Nat} {f f' : Nat → Nat} (h : rowB w g n f) (t0 : Nat) (ht0 : t0 < n) (x : Int) (hx : x = (f' t0 : Int)) (he : ∀ t, t < n → t ≠ t0 → f t = f' t) : rowB (w.setCell ⟨g, t0, none⟩ (.int .u8 x)) g n f' :=
  ⟨fun t ht => by have := (h.set t0 ht0 x hx he).cell t ht; rwa [World.cell?_drew] at this, fun t ht => by rw [World.frozen?_setCell]; exact h.free t ht⟩
end Go.Proofs.YtaamahohdnbpiaaGreat
