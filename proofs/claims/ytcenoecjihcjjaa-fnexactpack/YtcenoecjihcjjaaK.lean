import Derived.Test.YtcenoecjihcjjaaF
import Derived.Lib.OthersKept
namespace Go.Proofs.Ytcenoecjihcjjaa
open Go.RowKit

def wv (l : List Nat) : List Value := l.map (fun x : Nat => Value.int .u64 (x : Int))
theorem wv_length (l : List Nat) : (wv l).length = l.length := by simp [wv]
theorem wv_append (l m : List Nat) : wv (l ++ m) = wv l ++ wv m := by simp [wv]
theorem wv_at (l : List Nat) (j : Nat) (h : j < l.length) : (wv l)[j]? = some (Value.int .u64 (l[j] : Int)) := by simp [wv, h]

/-- the slice v is a row of letters that the call itself made, in blocks from B on -/
def ownsW (w : World) (B : Nat) (v : Value) (l : List Nat) : Prop := w.ownsRow B 54 1 v l.length (wv l)

/-- one letter put behind a row of letters that the call itself made -/
theorem app_word {ops : Array Oper} {rest : List Oper} {o : Oper} {a : Act} {Q : Exit → Act → World → Prop} (w0 wr : World) (hgd : o.guard = none) (s x : Operand)
    (ho : o.op = .call { callee := .builtin .append, args := #[s, x], argTypes := #[28, 28] })
    (B : Nat) (v : Value) (l : List Nat) (c : Nat) (ci : Int) (hci : ci = (c : Int)) (hs : a.eval s = v) (hown : ownsW wr B v l)
    (hx : a.eval x = .slice (some ⟨wr.heap.size, 0, none⟩) 1 1) (hlen : l.length ≤ 1000000) (hB : B ≤ wr.heap.size) (hbel : Below B w0 wr)
    (h : ∀ v' w', ownsW w' B v' (l ++ [c]) → Below B w0 w' → B ≤ w'.heap.size → wpList Try.prog ops Q rest (a.put o.dst v') w') :
    wpList Try.prog ops Q (o :: rest) a (wr.alloc (.cells #[.int .u64 ci] 54)) := by
  subst hci
  obtain ⟨i0, hi, hz0, hz1, hz2⟩ := info_parts Try.info54
  refine wpList_append_own _ hgd s x 28 ho B 54 i0 (.int .u64 0) 1 8 Try.underlying28 hi hz0 hz1 hz2 rfl (by decide) v l.length (wv l) hs (World.ownsRow.alloc hown _) ⟨wr.heap.size, 0, none⟩ 1 1 [.int .u64 (c : Int)] hx rfl ?_ ?_ ?_ ?_ ?_ ?_
  · intro j u hj
    match j, hj with
    | 0, hj => simp at hj; subst hj; simp [Addr.add]
  · intro u hu; simp at hu; subst hu; rfl
  · unfold maxLen; omega
  · omega
  · simp; omega
  · intro v' w' ho' hg _
    have hr : ∀ k, v.ownBlock = some k → B ≤ k := fun k hk => (World.ownsRow.lt hown k hk).1
    refine h v' w' ?_ ((hbel.alloc hB _).grown hg (by simp; omega) hr) (Nat.le_trans (by simp; omega) hg.size)
    have e1 : wv (l ++ [c]) = wv l ++ [.int .u64 (c : Int)] := by simp [wv]
    unfold ownsW
    rw [e1, List.length_append]
    exact ho'

theorem ownsW.kind {w : World} {B : Nat} {v : Value} {l : List Nat} (h : ownsW w B v l) : ∀ g, v.ownBlock = some g → ∃ c fz, w.heap[g]? = some (.cells c 54 fz) := by
  intro g hg
  obtain ⟨_, ⟨rfl, _⟩ | ⟨g', cap, cur, rfl, _, hh, _⟩⟩ := h
  · simp [Value.ownBlock] at hg
  · simp [Value.ownBlock] at hg
    subst hg
    exact ⟨cur, _, hh⟩
/-- one letter put behind a row of letters that the call itself made; all other blocks stand -/
theorem app_word2 {ops : Array Oper} {rest : List Oper} {o : Oper} {a : Act} {Q : Exit → Act → World → Prop} (w0 wr : World) (hgd : o.guard = none) (s x : Operand)
    (ho : o.op = .call { callee := .builtin .append, args := #[s, x], argTypes := #[28, 28] })
    (B : Nat) (v : Value) (l : List Nat) (c : Nat) (ci : Int) (hci : ci = (c : Int)) (hs : a.eval s = v) (hown : ownsW wr B v l)
    (hx : a.eval x = .slice (some ⟨wr.heap.size, 0, none⟩) 1 1) (hlen : l.length ≤ 1000000) (hB : B ≤ wr.heap.size) (hbel : Below B w0 wr)
    (h : ∀ v' w', ownsW w' B v' (l ++ [c]) → Below B w0 w' → Lib.OthersKept 54 none wr w' → B ≤ w'.heap.size → wpList Try.prog ops Q rest (a.put o.dst v') w') :
    wpList Try.prog ops Q (o :: rest) a (wr.alloc (.cells #[.int .u64 ci] 54)) := by
  subst hci
  obtain ⟨i0, hi, hz0, hz1, hz2⟩ := info_parts Try.info54
  refine wpList_append_own _ hgd s x 28 ho B 54 i0 (.int .u64 0) 1 8 Try.underlying28 hi hz0 hz1 hz2 rfl (by decide) v l.length (wv l) hs (World.ownsRow.alloc hown _) ⟨wr.heap.size, 0, none⟩ 1 1 [.int .u64 (c : Int)] hx rfl ?_ ?_ ?_ ?_ ?_ ?_
  · intro j u hj
    match j, hj with
    | 0, hj => simp at hj; subst hj; simp [Addr.add]
  · intro u hu; simp at hu; subst hu; rfl
  · unfold maxLen; omega
  · omega
  · simp; omega
  · intro v' w' ho' hg _
    have hr : ∀ k, v.ownBlock = some k → B ≤ k := fun k hk => (World.ownsRow.lt hown k hk).1
    refine h v' w' ?_ ((hbel.alloc hB _).grown hg (by simp; omega) hr) (((Lib.OthersKept.refl 54 none wr).alloc _).grown hg ?_) (Nat.le_trans (by simp; omega) hg.size)
    · have e1 : wv (l ++ [c]) = wv l ++ [.int .u64 (c : Int)] := by simp [wv]
      unfold ownsW
      rw [e1, List.length_append]
      exact ho'
    · intro g hg'
      exact ownsW.kind (B := B) (l := l) (World.ownsRow.alloc hown _) g hg'

theorem own_nilW (w : World) (B : Nat) (hB : B ≤ w.heap.size) : ownsW (w.alloc (.cells #[] 54)) B (.slice (some ⟨w.heap.size, 0, none⟩) 0 0) [] :=
  World.ownsRow_made w #[] 0 hB (by decide) rfl
theorem ownsW.open {w : World} {B : Nat} {v : Value} {l : List Nat} (h : ownsW w B v l) (hl : l ≠ []) :
    ∃ g cap, v = .slice (some ⟨g, 0, none⟩) l.length cap ∧ B ≤ g ∧ g < w.heap.size ∧ l.length ≤ cap ∧ cap ≤ maxLen ∧ rowW w g l.length (fun t => l.getD t 0) := by
  have h' := h
  obtain ⟨_, h1 | ⟨g, cap, cur, rfl, hb, hh, hc, hm, hsz, htk⟩⟩ := h
  · exact absurd (List.length_eq_zero_iff.1 h1.2) hl
  · refine ⟨g, cap, rfl, hb, (World.ownsRow.lt h' g rfl).2, hc, hm, fun t ht => ?_, fun t ht => ?_⟩
    · rw [World.ownsRow.cellAt h' t (by omega), wv_at l t ht]; simp [List.getD, ht]
    · exact World.ownsRow.frozenAt h' t
theorem ownsW.stored {w : World} {B g cap : Nat} {l : List Nat} (h : ownsW w B (.slice (some ⟨g, 0, none⟩) l.length cap) l) (j x : Nat) : ownsW (w.setCell ⟨g, j, none⟩ (.int .u64 (x : Int))) B (.slice (some ⟨g, 0, none⟩) l.length cap) (l.set j x) := by
  have := (World.ownsRow.stored h j (.int .u64 (x : Int))).1
  unfold ownsW
  have e : wv (l.set j x) = (wv l).set j (.int .u64 (x : Int)) := by simp [wv, List.map_set]
  rw [e, List.length_set]
  exact this
/-- the first j letters marked, from k on -/
def mkL (k : Nat) : Nat → List Nat → List Nat
  | 0, l => l
  | j + 1, l => (mkL k j l).set j (k + j)
theorem mkL_len (k j : Nat) (l : List Nat) : (mkL k j l).length = l.length := by
  induction j with
  | zero => rfl
  | succ j ih => show ((mkL k j l).set j (k + j)).length = _; rw [List.length_set, ih]
theorem mkL_at (k j : Nat) (l : List Nat) (i : Nat) (hi : i < j) (hj : j ≤ l.length) : (mkL k j l).getD i 0 = k + i := by
  induction j with
  | zero => omega
  | succ j ih =>
    show ((mkL k j l).set j (k + j)).getD i 0 = _
    have hl := mkL_len k j l
    by_cases e : i = j
    · subst e
      have h2 : i < l.length := by omega
      simp [List.getD_eq_getElem?_getD, hl, h2]
    · have := ih (by omega) (by omega)
      rw [List.getD_eq_getElem?_getD] at this ⊢
      rw [List.getElem?_set_ne (by omega)]
      exact this
theorem below_row {w0 w : World} {B g : Nat} (h : Below B w0 w) (hg : B ≤ g) (j : Nat) (x : Value) : Below B w0 (w.setCell ⟨g, j, none⟩ x) := h.setCell (by exact hg) x
set_option maxHeartbeats 1000000 in
theorem markWordS_any (w : World) (B : Nat) (ao : Option Addr) (n cap k : Nat) (l : List Nat) (h : ownsW w B (.slice ao n cap) l) (hn : n = l.length) (hk : k + n ≤ 200) :
    Calls Try.prog 30 #[.slice ao n cap, .int .i64 (k : Int)] w fun e w' => e = .returned (.int .i64 ((k + n : Nat) : Int)) ∧ ownsW w' B (.slice ao n cap) (mkL k n l) ∧ Below B w w' ∧ ∀ b, (∀ a, ao = some a → a.block ≠ b) → w'.heap[b]? = w.heap[b]? := by
  by_cases hl : l = []
  · subst hl
    have hn' : n = 0 := hn
    subst hn'
    have H : Hid (ownsW w B (.slice ao 0 cap) []) := h
    clear h hn
    go_enter Try.func30, Try.ntmps30
    go_wp2
    go_loopw [1, 5] (fun kk i wr => i = .int .i64 0 ∧ kk = .int .i64 (k : Int) ∧ wr = w) (fun _ _ _ => 0)
    case atStart => exact ⟨rfl, rfl, rfl⟩
    case round =>
      obtain ⟨rfl, rfl, rfl⟩ := hrel
      go_wp2
      go_ret
      exact ⟨rfl, H.out, Below.refl _ _, fun _ _ => rfl⟩
  · obtain ⟨g, cap', hv, hgB, hgz, hcap, -, -⟩ := h.open hl
    cases hv
    have H : Hid (ownsW w B (.slice (some ⟨g, 0, none⟩) l.length cap) l) := h
    clear h
    go_enter Try.func30, Try.ntmps30
    go_wp2
    go_loopw [1, 5] (fun kk i wr => ∃ j : Nat, j ≤ l.length ∧ i = .int .i64 (j : Int) ∧ kk = .int .i64 ((k + j : Nat) : Int) ∧ ownsW wr B (.slice (some ⟨g, 0, none⟩) l.length cap) (mkL k j l) ∧ Below B w wr ∧ ∀ b, g ≠ b → wr.heap[b]? = w.heap[b]?) (fun _ i _ => l.length - (intOf i).toNat)
    case atStart => exact ⟨0, Nat.zero_le _, rfl, rfl, H.out, Below.refl _ _, fun _ _ => rfl⟩
    case round =>
      obtain ⟨j, hj, rfl, rfl, ho, hb, hoth⟩ := hrel
      by_cases hlt : j < l.length
      · have hrow : rowW wr g l.length (fun t => (mkL k j l).getD t 0) := by
          have ho' := ho
          rw [← mkL_len k j l] at ho'
          obtain ⟨g', c', e, -, -, -, -, hr⟩ := ho'.open (by intro e; have := mkL_len k j l; rw [e] at this; simp at this; omega)
          cases e
          rw [mkL_len k j l] at hr
          exact hr
        have hc := hrow.cell j hlt
        have hf := hrow.free j hlt
        have st : ownsW (wr.setCell ⟨g, j, none⟩ (.int .u64 ((k + j : Nat) : Int))) B (.slice (some ⟨g, 0, none⟩) l.length cap) (mkL k (j + 1) l) := by
          have ho' := ho
          rw [← mkL_len k j l] at ho'
          have := ho'.stored j (k + j)
          rw [mkL_len k j l] at this
          exact this
        have hb2 := below_row hb hgB j (.int .u64 ((k + j : Nat) : Int))
        have HST : Hid (ownsW (wr.setCell ⟨g, j, none⟩ (.int .u64 ((k + j : Nat) : Int))) B (.slice (some ⟨g, 0, none⟩) l.length cap) (mkL k (j + 1) l) ∧ Below B w (wr.setCell ⟨g, j, none⟩ (.int .u64 ((k + j : Nat) : Int))) ∧ ∀ b, g ≠ b → (wr.setCell ⟨g, j, none⟩ (.int .u64 ((k + j : Nat) : Int))).heap[b]? = w.heap[b]?) := ⟨st, hb2, fun b hb' => (heap_setCell_other wr ⟨g, j, none⟩ b _ (fun e => hb' e.symm)).trans (hoth b hb')⟩
        have hkj : k + j ≤ 200 := by omega
        have hu : IntKind.u64.wrap ((k : Int) + (j : Int)) = (k : Int) + (j : Int) := by simp [IntKind.wrap, IntKind.bits, IntKind.signed]; omega
        clear st hb2 hrow ho hb hoth
        go_wp2
        go_roundw
        case rel => exact ⟨j + 1, by omega, by go_num, by go_num, HST.out.1, HST.out.2.1, HST.out.2.2⟩
        case measure => simp [intOf]; omega
      · have : j = l.length := by omega
        subst this
        have HST : Hid (ownsW wr B (.slice (some ⟨g, 0, none⟩) l.length cap) (mkL k l.length l) ∧ Below B w wr ∧ ∀ b, g ≠ b → wr.heap[b]? = w.heap[b]?) := ⟨ho, hb, hoth⟩
        clear ho hb hoth
        go_wp2
        go_ret
        exact ⟨rfl, HST.out.1, HST.out.2.1, fun b hb' => HST.out.2.2 b (hb' _ rfl)⟩

set_option maxHeartbeats 1000000 in
theorem heldWordS_any (w : World) (B : Nat) (ao : Option Addr) (n cap k : Nat) (l : List Nat) (h : ownsW w B (.slice ao n cap) (mkL k n l)) (hn : n = l.length) (hk : k + n ≤ 200) :
    Calls Try.prog 31 #[.slice ao n cap, .int .i64 (k : Int)] w fun e w' => e = .returned (.int .i64 ((k + n : Nat) : Int)) ∧ ∃ q, w' = w.drewN q := by
  by_cases hl : l = []
  · subst hl
    have hn' : n = 0 := hn
    subst hn'
    clear h hn
    go_enter Try.func31, Try.ntmps31
    go_wp2
    go_loopw [1, 5] (fun kk i wr => i = .int .i64 0 ∧ kk = .int .i64 (k : Int) ∧ wr = w) (fun _ _ _ => 0)
    case atStart => exact ⟨rfl, rfl, rfl⟩
    case round =>
      obtain ⟨rfl, rfl, rfl⟩ := hrel
      go_wp2
      go_ret
      exact ⟨rfl, 0, rfl⟩
  · subst hn
    have hl' : mkL k l.length l ≠ [] := by intro e; have := mkL_len k l.length l; rw [e] at this; simp at this; exact hl (List.eq_nil_of_length_eq_zero this.symm)
    obtain ⟨g, cap', hv, hgB, hgz, hcap, -, hrow⟩ := h.open hl'
    rw [mkL_len] at hv hrow
    cases hv
    have HR : Hid (∀ q j, j < l.length → (w.drewN q).cell? ⟨g, j, none⟩ = some (.int .u64 ((k + j : Nat) : Int))) := by
      intro q j hj
      have := hrow.cell j hj
      rw [mkL_at k l.length l j hj (Nat.le_refl _)] at this
      exact (below_drewN (Below.refl w.heap.size w) q).cell (by exact hgz) |>.trans this
    clear h hrow
    go_enter Try.func31, Try.ntmps31
    go_wp2
    go_loopw [1, 5] (fun kk i wr => ∃ j q : Nat, j ≤ l.length ∧ i = .int .i64 (j : Int) ∧ kk = .int .i64 ((k + j : Nat) : Int) ∧ wr = w.drewN q) (fun _ i _ => l.length - (intOf i).toNat)
    case atStart => exact ⟨0, 0, Nat.zero_le _, rfl, rfl, rfl⟩
    case round =>
      obtain ⟨j, q, hj, rfl, rfl, rfl⟩ := hrel
      by_cases hlt : j < l.length
      · have hc := HR.out q j hlt
        have hkj : k + j ≤ 200 := by omega
        have hu : IntKind.u64.wrap ((k : Int) + (j : Int)) = (k : Int) + (j : Int) := by simp [IntKind.wrap, IntKind.bits, IntKind.signed]; omega
        generalize hW : w.drewN q = W at *
        have HW : Hid (W = w.drewN q) := hW.symm
        clear hW
        go_wp2
        go_roundw
        case rel => exact ⟨j + 1, q, by omega, by go_num, by go_num, HW.out⟩
        case measure => simp [intOf]; omega
      · have : j = l.length := by omega
        subst this
        go_wp2
        go_ret
        exact ⟨rfl, q, rfl⟩
end Go.Proofs.Ytcenoecjihcjjaa
