import Derived.Test.YtfbeaekddgpmmaaGreatDoorK12
import Derived.Test.YtfbeaekddgpmmaaGreatDoorK20
import Derived.Test.YtfbeaekddgpmmaaGreatDoorK14
namespace Go.Proofs.YtfbeaekddgpmmaaGreatDoor
open Go.RowKit Kd
set_option linter.unusedVariables false
abbrev Hd := Option Addr × Nat × Nat
abbrev hdV (h : Hd) : Value := .slice h.1 h.2.1 h.2.2
/-- a kind of records: their type and cells, and the rows that hang on them -/
structure Kn (α : Type) where
  T : Nat
  k : Nat
  enc : α → Hd → List Value
  TD : Nat
  kD : Nat
  dn : α → Nat
  dv : α → List Value
/-- a row of records of one's own -/
structure rcR {α : Type} (K : Kn α) (B : Nat) (v : Value) (rs : List (α × Hd)) (W : World) : Prop where
  own : W.ownsRow B K.T K.k v rs.length (rs.flatMap fun r => K.enc r.1 r.2)
  dat : ∀ r ∈ rs, W.ownsRow B K.TD K.kD (hdV r.2) (K.dn r.1) (K.dv r.1)
  dis : rs.Pairwise fun a b => ∀ x, a.2.1 = some x → b.2.1 ≠ some x
theorem ownsRow_at {w w' : World} {B E sz n : Nat} {v : Value} {xs : List Value} (h : w.ownsRow B E sz v n xs) (he : ∀ g k, v = .slice (some ⟨g, 0, none⟩) n k → w'.heap[g]? = w.heap[g]?) : w'.ownsRow B E sz v n xs := by
  obtain ⟨h1, h2 | ⟨g, cap, cur, hv', hb, hg, rest⟩⟩ := h
  · exact ⟨h1, .inl h2⟩
  · exact ⟨h1, .inr ⟨g, cap, cur, hv', hb, (he g cap hv').trans hg, rest⟩⟩
theorem ownsRow_lt {w : World} {B E sz n : Nat} {v : Value} {xs : List Value} (h : w.ownsRow B E sz v n xs) {g k m : Nat} (hv : v = .slice (some ⟨g, 0, none⟩) m k) : g < w.heap.size ∧ B ≤ g := by
  obtain ⟨h1, ⟨h2, _⟩ | ⟨g', cap, cur, hv', hb, hg, rest⟩⟩ := h
  · rw [h2] at hv; cases hv
  · rw [hv'] at hv
    cases hv
    exact ⟨lt_of_some hg, hb⟩
theorem ownsRow_kind {w : World} {B E sz n : Nat} {v : Value} {xs : List Value} (h : w.ownsRow B E sz v n xs) {g k m : Nat} (hv : v = .slice (some ⟨g, 0, none⟩) m k) : ∃ c, w.heap[g]? = some (Obj.cells c E (0, 0)) := by
  obtain ⟨h1, ⟨h2, _⟩ | ⟨g', cap, cur, hv', hb, hg, rest⟩⟩ := h
  · rw [h2] at hv; cases hv
  · rw [hv'] at hv
    cases hv
    exact ⟨_, hg⟩
theorem ownsRow_shape {w : World} {B E sz n : Nat} {v : Value} {xs : List Value} (h : w.ownsRow B E sz v n xs) : (v = .slice none 0 0 ∧ n = 0) ∨ ∃ g k, v = .slice (some ⟨g, 0, none⟩) n k ∧ B ≤ g ∧ g < w.heap.size ∧ n ≤ k := by
  obtain ⟨h1, h2 | ⟨g', cap, cur, hv', hb, hg, hc, rest⟩⟩ := h
  · exact .inl h2
  · exact .inr ⟨g', cap, hv', hb, lt_of_some hg, hc⟩
theorem ownsRow_lower {w : World} {B B' E sz n : Nat} {v : Value} {xs : List Value} (h : w.ownsRow B E sz v n xs) (hB : B' ≤ B) : w.ownsRow B' E sz v n xs := by
  obtain ⟨h1, h2 | ⟨g', cap, cur, hv', hb, rest⟩⟩ := h
  · exact ⟨h1, .inl h2⟩
  · exact ⟨h1, .inr ⟨g', cap, cur, hv', by omega, rest⟩⟩
/-- what a walk leaves alone: blocks below B, and blocks whose type is none of S -/
structure Ky (S : List Nat) (B : Nat) (W V : World) : Prop where
  low : Below B W V
  keep : ∀ (g : Nat) c T f, W.heap[g]? = some (Obj.cells c T f) → T ∉ S → V.heap[g]? = W.heap[g]?
theorem Ky.refl (S : List Nat) (B : Nat) (W : World) : Ky S B W W := ⟨Below.refl _ _, fun _ _ _ _ _ _ => rfl⟩
theorem Ky.trans {S : List Nat} {B : Nat} {W V U : World} (h : Ky S B W V) (k : Ky S B V U) : Ky S B W U :=
  ⟨h.low.trans k.low, fun g c T f hg hT => by
    have e := h.keep g c T f hg hT
    exact (k.keep g c T f (e.trans hg) hT).trans e⟩
theorem Ky.of {S : List Nat} {B : Nat} {W V : World} (h : Below W.heap.size W V) (hB : B ≤ W.heap.size) : Ky S B W V := ⟨h.mono hB, fun g c T f hg _ => h.block g (lt_of_some hg)⟩
theorem Ky.below {S : List Nat} {B : Nat} {W V U : World} (h : Ky S B W V) (k : Below V.heap.size V U) (hB : B ≤ V.heap.size) : Ky S B W U := h.trans (Ky.of k hB)
theorem Ky.mono {S S' : List Nat} {B B' : Nat} {W V : World} (h : Ky S B W V) (hS : ∀ x ∈ S, x ∈ S') (hB : B' ≤ B) : Ky S' B' W V := ⟨h.low.mono hB, fun g c T f hg hT => h.keep g c T f hg fun hx => hT (hS T hx)⟩
theorem Ky.size {S : List Nat} {B : Nat} {W V : World} (h : Ky S B W V) : W.heap.size ≤ V.heap.size := h.low.size
theorem Ky.grown {S : List Nat} {B : Nat} {W V U : World} {g : Option Nat} (h : Ky S B W V) (hg : V.grownBy U g) (hB : B ≤ V.heap.size) (hk : ∀ x, g = some x → B ≤ x ∧ ∃ c T f, V.heap[x]? = some (Obj.cells c T f) ∧ T ∈ S) : Ky S B W U :=
  h.trans ⟨(Below.refl _ _).grown hg hB fun k hk' => (hk k hk').1, fun x c T f hx hT => hg.block x (lt_of_some hx) fun e => by
    obtain ⟨_, c', T', f', e', hT'⟩ := hk x e.symm
    rw [hx] at e'
    injection e' with e'
    injection e' with _ e' _
    subst e'
    exact hT hT'⟩
theorem Ky.setCells {S : List Nat} {B : Nat} {W V : World} (h : Ky S B W V) (b o : Nat) (vs : List Value) (hB : B ≤ b) (hk : ∃ c T f, V.heap[b]? = some (Obj.cells c T f) ∧ T ∈ S) : Ky S B W (V.setCells b o vs) :=
  h.trans ⟨setCells_below hB o vs (Below.refl _ _), fun x c T f hx hT => setCells_other b x (fun e => by
    subst e
    obtain ⟨c', T', f', e', hT'⟩ := hk
    rw [hx] at e'
    injection e' with e'
    injection e' with _ e' _
    subst e'
    exact hT hT') vs V o⟩
theorem Ky.setCell {S : List Nat} {B : Nat} {W V : World} (h : Ky S B W V) (b o : Nat) (v : Value) (hB : B ≤ b) (hk : ∃ c T f, V.heap[b]? = some (Obj.cells c T f) ∧ T ∈ S) : Ky S B W (V.setCell ⟨b, o, none⟩ v) := h.setCells b o [v] hB hk
theorem Ky.row {S : List Nat} {B : Nat} {W V : World} (h : Ky S B W V) {B' E sz n : Nat} {v : Value} {xs : List Value} (ho : W.ownsRow B' E sz v n xs) (hE : E ∉ S) : V.ownsRow B' E sz v n xs :=
  ownsRow_at ho fun g k e => by
    obtain ⟨c, hc⟩ := ownsRow_kind ho e
    exact h.keep g c E _ hc hE
theorem Ky.blk {S : List Nat} {B : Nat} {W V : World} (h : Ky S B W V) {b T : Nat} {l : List Value} (hb : blk W b l T) (hT : T ∉ S) : blk V b l T := (h.keep b _ T _ hb hT).trans hb
section
variable {α : Type} {K : Kn α} {B : Nat} {v : Value} {rs : List (α × Hd)} {W V : World}
theorem rcR.ky (h : rcR K B v rs W) {S : List Nat} {B' : Nat} (hk : Ky S B' W V) (h1 : K.T ∉ S) (h2 : K.TD ∉ S) : rcR K B v rs V :=
  ⟨hk.row h.own h1, fun r hr => hk.row (h.dat r hr) h2, h.dis⟩
theorem rcR.below (h : rcR K B v rs W) (hb : Below W.heap.size W V) : rcR K B v rs V := h.ky (Ky.of (S := []) hb (Nat.le_refl _)) (by simp) (by simp)
theorem rcR.lower (h : rcR K B v rs W) {B' : Nat} (hB : B' ≤ B) : rcR K B' v rs W := ⟨ownsRow_lower h.own hB, fun r hr => ownsRow_lower (h.dat r hr) hB, h.dis⟩
theorem rcR.e1 (K : Kn α) (W : World) (hB : B ≤ W.heap.size) : rcR K B (.slice (some ⟨W.heap.size, 0, none⟩) 0 0) [] (W.alloc (.cells #[] K.T)) :=
  ⟨World.ownsRow_made W #[] 0 hB (by decide) (by simp), fun r hr => (by cases hr), List.Pairwise.nil⟩
theorem rcR.e0 (K : Kn α) (W : World) : rcR K B (.slice none 0 0) [] W :=
  ⟨World.ownsRow_nil W B K.T K.k, fun r hr => (by cases hr), List.Pairwise.nil⟩
/-- a row that is newer than the rest lies apart from it -/
theorem rcR.fresh (h : rcR K B v rs W) {V : World} {B' E sz n : Nat} {hd : Hd} {xs : List Value} (hB : W.heap.size ≤ B') (ho : V.ownsRow B' E sz (hdV hd) n xs) : ∀ r ∈ rs, ∀ x, r.2.1 = some x → hd.1 ≠ some x := by
  intro r hr x hx he
  rcases ownsRow_shape ho with ⟨e, _⟩ | ⟨g, k, e, h1, _⟩
  · injection e with e _ _
    rw [e] at he; cases he
  · injection e with e _ _
    rcases ownsRow_shape (h.dat r hr) with ⟨e', _⟩ | ⟨g', k', e', _, h2, _⟩
    · injection e' with e' _ _
      rw [e'] at hx; cases hx
    · injection e' with e' _ _
      rw [e'] at hx
      rw [e] at he
      cases hx
      cases he
      omega
/-- one record more -/
theorem rcR.app (h : rcR K B v rs W) (hne : K.TD ≠ K.T) (r0 : α × Hd) (hd : W.ownsRow B K.TD K.kD (hdV r0.2) (K.dn r0.1) (K.dv r0.1)) (hf : ∀ r ∈ rs, ∀ x, r.2.1 = some x → r0.2.1 ≠ some x) {v' : Value}
    (ho : V.ownsRow B K.T K.k v' (rs.length + 1) (rs.flatMap (fun r => K.enc r.1 r.2) ++ K.enc r0.1 r0.2)) (hg : W.grownBy V v.ownBlock) : rcR K B v' (rs ++ [r0]) V := by
  have hk : ∀ {n : Nat} {x : Value} {xs : List Value}, W.ownsRow B K.TD K.kD x n xs → V.ownsRow B K.TD K.kD x n xs := fun hh => ownsRow_at hh fun g k e => by
    obtain ⟨c, hc⟩ := ownsRow_kind hh e
    refine hg.block g (lt_of_some hc) fun e' => ?_
    rcases ownsRow_shape h.own with ⟨e2, _⟩ | ⟨g2, k2, e2, _⟩
    · rw [e2] at e'; cases e'
    · obtain ⟨c2, hc2⟩ := ownsRow_kind h.own e2
      rw [e2] at e'
      cases e'
      rw [hc] at hc2
      injection hc2 with hc2
      injection hc2 with _ hc2 _
      exact hne hc2
  refine ⟨?_, fun r hr => ?_, ?_⟩
  · rw [List.length_append, List.flatMap_append]
    simpa using ho
  · rcases List.mem_append.1 hr with hr | hr
    · exact hk (h.dat r hr)
    · have : r = r0 := by simpa using hr
      subst this
      exact hk hd
  · rw [List.pairwise_append]
    exact ⟨h.dis, by simp, fun a ha b hb x hx => by
      have : b = r0 := by simpa using hb
      subst this
      exact hf a ha x hx⟩
theorem rcR.grow (h : rcR K B v rs W) {S : List Nat} (hS : K.T ∈ S) (hg : W.grownBy V v.ownBlock) (hB : B ≤ W.heap.size) : Ky S B W V :=
  (Ky.refl S B W).grown hg hB fun x e => by
    rcases ownsRow_shape h.own with ⟨e2, _⟩ | ⟨g2, k2, e2, h2, _⟩
    · rw [e2] at e; cases e
    · obtain ⟨c2, hc2⟩ := ownsRow_kind h.own e2
      rw [e2] at e
      cases e
      exact ⟨h2, _, _, _, hc2, hS⟩
end
/-- one record put behind a row that the call itself made -/
theorem app_row {ops : Array Oper} {rest : List Oper} {o : Oper} {a : Act} {Q : Exit → Act → World → Prop} {w : World} (hgd : o.guard = none) (s x : Operand) (T E : TypeId) (Z : Value) (sz by_ : Nat) (hi0 : (Tryz.prog.info? E).map (fun i => (i.zero, i.size, i.bytes)) = some (some Z, sz, by_)) (hu : Tryz.prog.underlying T = some (.slice E)) (hZ : Z.cells.size = sz) (hsz : 0 < sz) (hby : by_ ≤ 1000)
    (ho : o.op = .call { callee := .builtin .append, args := #[s, x], argTypes := #[T, T] })
    (B n : Nat) (v : Value) (xs : List Value) (hs : a.eval s = v) (hown : w.ownsRow B E sz v n xs) (b : Nat) (news : List Value) (hx : a.eval x = .slice (some ⟨b, 0, none⟩) 1 1) (hl : news.length = sz) (hb : w.heap[b]? = some (.cells news.toArray E)) (h1 : ∀ u ∈ news, u.oneCell' = true) (hn : n ≤ 1000000) (hB : B ≤ w.heap.size)
    (h : ∀ g' k' w', w'.ownsRow B E sz (.slice (some ⟨g', 0, none⟩) (n + 1) k') (n + 1) (xs ++ news) → w.grownBy w' v.ownBlock → (v.ownBlock = some g' ∨ g' = w.heap.size) → wpList Tryz.prog ops Q rest (a.put o.dst (.slice (some ⟨g', 0, none⟩) (n + 1) k')) w') :
    wpList Tryz.prog ops Q (o :: rest) a w := by
  obtain ⟨i0, hi, hz0, hz1, hz2⟩ := info_parts hi0
  have hmul : (n + 1) * by_ ≤ (n + 1) * 1000 := Nat.mul_le_mul_left _ hby
  obtain ⟨v', w', hr, h2, h3, h4, h5⟩ := run_append_own_at (P := Tryz.prog) w B T o.type E i0 Z sz by_ hu hi hz0 hz1 hz2 hZ hsz v n xs hown ⟨b, 0, none⟩ 1 1 news (by rw [hl, Nat.one_mul]) (by
    intro j u hj
    have := range_block hb j u hj
    rw [Addr.add_lit]
    exact this) h1 (by unfold maxLen; omega) (by omega) hB
  have hne : v' ≠ .slice none 0 0 := by
    intro e
    obtain ⟨_, e1⟩ := h4.1 e
    cases e1
  obtain ⟨g', k', rfl, q1, q2, q3, q4⟩ := own_slice h2 hne
  refine wpList_plain hgd fun K hK => ?_
  unfold Oper.wp execOp
  simp only [ho, resolve, invoke, builtin, Sem.run_bind, Sem.run_pure, Result.andThen_ok, List.map_toArray, List.map_cons, List.map_nil, hs, hx, hr]
  refine hK _ _ (h g' k' w' h2 h3 ?_)
  rcases h5 with h | h
  · left
    rw [← h]; rfl
  · right
    simpa [Value.ownBlock] using h
/-- the bytes of a record: none, or in a block other than g -/
def hd (W : World) (g : Nat) (h : Hd) : Prop := h.2.1 ≤ 1048576 ∧ h.2.1 ≤ h.2.2 ∧ ((h.1 = none ∧ h.2.1 = 0) ∨ ∃ b, h.1 = some ⟨b, 0, none⟩ ∧ b ≠ g ∧ rowF W b h.2.1)
theorem hd.up {W W' : World} {g : Nat} {h : Hd} (H : hd W g h) (hr : ∀ x N, rowF W x N → rowF W' x N) : hd W' g h := by
  obtain ⟨h1, h2, h3⟩ := H
  refine ⟨h1, h2, ?_⟩
  rcases h3 with h3 | ⟨b, e, hn, hf⟩
  · exact Or.inl h3
  · exact Or.inr ⟨b, e, hn, hr _ _ hf⟩
/-- no two of the rows of bytes are one -/
def dst (hs : Nat → Hd) (n : Nat) : Prop := ∀ i j, i < j → j < n → ∀ b, (hs i).1 = some ⟨b, 0, none⟩ → (hs j).1 ≠ some ⟨b, 0, none⟩
/-- no row of bytes lies below B -/
def abv (B : Nat) (hs : Nat → Hd) (n : Nat) : Prop := ∀ j, j < n → ∀ b, (hs j).1 = some ⟨b, 0, none⟩ → B ≤ b
theorem markHd (B : Nat) (W : World) (g : Nat) (a : Option Addr) (m cc C : Nat) (H : hd W g (a, m, cc)) (hB : ∀ b, a = some ⟨b, 0, none⟩ → B ≤ b) (hC : C ≤ 10000000000000000) :
    Calls Tryz.prog 41 #[.slice a m cc, .int .i64 (C : Int)] W fun o w' => o = .returned (.int .i64 ((C + m : Nat) : Int)) ∧ (∀ b, a = some ⟨b, 0, none⟩ → mkB w' b m C) ∧ (∀ x N, rowF W x N → rowF w' x N) ∧ (∀ x, a ≠ some ⟨x, 0, none⟩ → w'.heap[x]? = W.heap[x]?) ∧ w'.heap.size = W.heap.size ∧ Below B W w' := by
  obtain ⟨h1, h2, ⟨e, hm⟩ | ⟨b, e, hn, hf⟩⟩ := H
  · simp only at e hm
    subst e
    subst hm
    refine (markByte_none W cc C).mono ?_
    rintro o w' ⟨rfl, rfl⟩
    exact ⟨rfl, fun b hb => absurd hb (by simp), fun _ _ h => h, fun _ _ => rfl, rfl, Below.refl _ _⟩
  · simp only at e hf h1 h2
    subst e
    refine (markByteS_any W b m cc C hf h2 h1 hC).mono ?_
    rintro o w' ⟨rfl, q1, q2, q3, q4, q5⟩
    exact ⟨rfl, fun b' hb => by cases hb; exact q1, q2, fun x hx => q3 x (fun e => hx (by rw [e])), q4, q5.mono (hB b rfl)⟩
theorem heldHd (W : World) (g : Nat) (a : Option Addr) (m cc C : Nat) (H : hd W g (a, m, cc)) (hk : ∀ b, a = some ⟨b, 0, none⟩ → mkB W b m C) (hC : C ≤ 10000000000000000) :
    Calls Tryz.prog 43 #[.slice a m cc, .int .i64 (C : Int)] W fun o w' => o = .returned (.int .i64 ((C + m : Nat) : Int)) ∧ w' = W := by
  obtain ⟨h1, h2, ⟨e, hm⟩ | ⟨b, e, hn, hf⟩⟩ := H
  · simp only at e hm
    subst e
    subst hm
    exact (heldByte_none W cc C)
  · simp only at e hf h1 h2
    subst e
    exact heldByteS_any W b m cc C (hk b rfl) h2 h1 hC
/-- n orders at g, their bytes as hs tells -/
structure sh11 (W : World) (g n : Nat) (hs : Nat → Hd) : Prop where
  row : rowF W g (n * 11)
  dat : ∀ j, j < n → W.cell? ⟨g, j * 11 + 8, none⟩ = some (.slice (hs j).1 (hs j).2.1 (hs j).2.2) ∧ hd W g (hs j)
/-- the number of marks behind j orders -/
def cn11 (c : Nat) (hs : Nat → Hd) : Nat → Nat
  | 0 => c
  | j + 1 => cn11 c hs j + 10 + (hs j).2.1
theorem cn11_le (c n : Nat) (hs : Nat → Hd) (h : ∀ j, j < n → (hs j).2.1 ≤ 1048576) : ∀ j, j ≤ n → cn11 c hs j ≤ c + j * 1048587 := by
  intro j
  induction j with
  | zero => intro _; exact Nat.le_refl _
  | succ j ih =>
    intro hj
    have h1 := ih (by omega)
    have h2 := h j (by omega)
    simp only [cn11]
    omega
def m11w (C : Nat) : List Value := [Value.int .i64 ((C : Int)), Value.int .i64 ((C : Int) + 1), Value.int .i64 ((C : Int) + 1 + 1), Value.int .i64 ((C : Int) + 1 + 1 + 1), Value.bool (((C : Int) + 4) % 3 == 0), Value.int .u32 (((C : Int) + 1 + 1 + 1 + 1 + 1) % 4294967296), Value.bool (((C : Int) + 6) % 3 == 0), Value.int .i64 ((C : Int) + 1 + 1 + 1 + 1 + 1 + 1 + 1)]
def m11x (D : Nat) : List Value := [Value.int .i64 (D : Int), Value.int .i64 ((D : Int) + 1)]
/-- an order marked from C on -/
structure mk11 (W : World) (g o C : Nat) (h : Hd) : Prop where
  row : ∀ t (ht : t < 8), W.cell? ⟨g, o + t, none⟩ = some ((m11w C)[t]'(by simpa [m11w] using ht))
  dat : ∀ b, h.1 = some ⟨b, 0, none⟩ → mkB W b h.2.1 (C + 8)
  end9 : W.cell? ⟨g, o + 9, none⟩ = some (.int .i64 ((C + 8 + h.2.1 : Nat) : Int))
  end10 : W.cell? ⟨g, o + 10, none⟩ = some (.int .i64 (((C + 8 + h.2.1 : Nat) : Int) + 1))
theorem mk11.up {W W' : World} {g o C : Nat} {h : Hd} (H : mk11 W g o C h) (hg : W'.heap[g]? = W.heap[g]?) (hb : ∀ b, h.1 = some ⟨b, 0, none⟩ → W'.heap[b]? = W.heap[b]?) : mk11 W' g o C h :=
  ⟨fun t ht => cell_up (H.row t ht) hg, fun b e t ht => cell_up (H.dat b e t ht) (hb b e), cell_up H.end9 hg, cell_up H.end10 hg⟩
theorem sh11.up {W W' : World} {g n : Nat} {hs : Nat → Hd} (H : sh11 W g n hs) (hg : W'.heap[g]? = W.heap[g]?) (hr : ∀ x N, rowF W x N → rowF W' x N) : sh11 W' g n hs :=
  ⟨H.row.up hg, fun j hj => ⟨cell_up (H.dat j hj).1 hg, (H.dat j hj).2.up hr⟩⟩
set_option maxHeartbeats 8000000 in
set_option maxRecDepth 20000 in
theorem markOrderS_gen (B : Nat) (w : World) (g n cap c : Nat) (hs : Nat → Hd) (h : sh11 w g n hs) (hcp : n ≤ cap) (hn : n ≤ 1048576) (hc : c ≤ 20000000000000) (hB : B ≤ g) (hB2 : abv B hs n) :
    Calls Tryz.prog 19 #[.slice (some ⟨g, 0, none⟩) n cap, .int .i64 (c : Int)] w fun o w' => o = .returned (.int .i64 (cn11 c hs n : Int)) ∧ (dst hs n → ∀ j, j < n → mk11 w' g (j * 11) (cn11 c hs j) (hs j)) ∧ sh11 w' g n hs ∧ (∀ x N, rowF w x N → rowF w' x N) ∧ (∀ x, x ≠ g → (∀ j, j < n → (hs j).1 ≠ some ⟨x, 0, none⟩) → w'.heap[x]? = w.heap[x]?) ∧ w'.heap.size = w.heap.size ∧ Below B w w' := by
  have HSH : Hid (sh11 w g n hs) := h
  have HB2 : Hid (abv B hs n) := hB2
  have HLE : Hid (∀ j, j ≤ n → cn11 c hs j ≤ c + j * 1048587) := cn11_le c n hs (fun j hj => (h.dat j hj).2.1)
  clear h hB2
  go_enter Tryz.func19, Tryz.ntmps19
  go_wp2
  go_loopw [1, 5] (fun kk i wr => ∃ k : Nat, k ≤ n ∧ i = .int .i64 (k : Int) ∧ kk = .int .i64 (cn11 c hs k : Int) ∧ (dst hs n → ∀ j, j < k → mk11 wr g (j * 11) (cn11 c hs j) (hs j)) ∧ sh11 wr g n hs ∧ (∀ x N, rowF w x N → rowF wr x N) ∧ (∀ x, x ≠ g → (∀ j, j < n → (hs j).1 ≠ some ⟨x, 0, none⟩) → wr.heap[x]? = w.heap[x]?) ∧ wr.heap.size = w.heap.size ∧ Below B w wr) (fun _ i _ => n - (intOf i).toNat)
  case atStart => exact ⟨0, Nat.zero_le _, rfl, rfl, fun _ j hj => absurd hj (Nat.not_lt_zero _), HSH.out, fun _ _ h => h, fun _ _ _ => rfl, rfl, Below.refl _ _⟩
  case round =>
    obtain ⟨k, hk, rfl, rfl, hdone, hsh, hrow, hoth, hsz, hb⟩ := hrel
    by_cases hlt : k < n
    · have hkn : k * 11 + 11 ≤ n * 11 := by omega
      obtain ⟨⟨v0, z0⟩, f0⟩ := hsh.row (k * 11) (by omega)
      obtain ⟨⟨v1, z1⟩, f1⟩ := hsh.row (k * 11 + 1) (by omega)
      obtain ⟨⟨v2, z2⟩, f2⟩ := hsh.row (k * 11 + 2) (by omega)
      obtain ⟨⟨v3, z3⟩, f3⟩ := hsh.row (k * 11 + 3) (by omega)
      obtain ⟨⟨v4, z4⟩, f4⟩ := hsh.row (k * 11 + 4) (by omega)
      obtain ⟨⟨v5, z5⟩, f5⟩ := hsh.row (k * 11 + 5) (by omega)
      obtain ⟨⟨v6, z6⟩, f6⟩ := hsh.row (k * 11 + 6) (by omega)
      obtain ⟨⟨v7, z7⟩, f7⟩ := hsh.row (k * 11 + 7) (by omega)
      obtain ⟨zd, hh⟩ := hsh.dat k hlt
      have HD : Hid ((dst hs n → ∀ j, j < k → mk11 wr g (j * 11) (cn11 c hs j) (hs j)) ∧ sh11 wr g n hs ∧ (∀ x N, rowF w x N → rowF wr x N) ∧ (∀ x, x ≠ g → (∀ j, j < n → (hs j).1 ≠ some ⟨x, 0, none⟩) → wr.heap[x]? = w.heap[x]?) ∧ wr.heap.size = w.heap.size ∧ Below B w wr) := ⟨hdone, hsh, hrow, hoth, hsz, hb⟩
      clear hdone hsh hrow hoth hsz hb
      have HCN : Hid (cn11 c hs (k + 1) = cn11 c hs k + 10 + (hs k).2.1) := rfl
      have hC1 : cn11 c hs k ≤ 30000000000000 := by have := HLE.out k hk; omega
      generalize hC : cn11 c hs k = C at *
      have HC : Hid (cn11 c hs k = C) := hC
      clear hC
      have HAB : Hid (∀ b, (hs k).1 = some ⟨b, 0, none⟩ → B ≤ b) := HB2.out k hlt
      obtain ⟨t, ht⟩ : ∃ t, hs k = t := ⟨_, rfl⟩
      have HT : Hid (hs k = t) := ht
      rw [ht] at zd hh HCN HAB
      clear ht
      obtain ⟨a, m, cc⟩ := t
      simp only at zd
      have hm : m ≤ 1048576 := hh.1
      have e4 : ((C : Int) + 1 + 1 + 1 + 1).tmod 3 = (((C + 4) % 3 : Nat) : Int) := by rw [Int.tmod_eq_emod_of_nonneg (by omega)]; omega
      have e6 : ((C : Int) + 1 + 1 + 1 + 1 + 1 + 1).tmod 3 = (((C + 6) % 3 : Nat) : Int) := by rw [Int.tmod_eq_emod_of_nonneg (by omega)]; omega
      have HBY : Hid (∀ W, (∀ x N, rowF wr x N → rowF W x N) → Calls Tryz.prog 41 #[.slice a m cc, .int .i64 ((C : Int) + 1 + 1 + 1 + 1 + 1 + 1 + 1 + 1)] W fun o w' => o = .returned (.int .i64 ((C + 8 + m : Nat) : Int)) ∧ (∀ b, a = some ⟨b, 0, none⟩ → mkB w' b m (C + 8)) ∧ (∀ x N, rowF W x N → rowF w' x N) ∧ (∀ x, a ≠ some ⟨x, 0, none⟩ → w'.heap[x]? = W.heap[x]?) ∧ w'.heap.size = W.heap.size ∧ Below B W w') := fun W hW => by
        have := markHd B W g a m cc (C + 8) (hh.up hW) HAB.out (by omega)
        have e : (((C + 8 : Nat)) : Int) = (C : Int) + 1 + 1 + 1 + 1 + 1 + 1 + 1 + 1 := by omega
        rw [e] at this
        exact this
      have HH : Hid (hd wr g (a, m, cc)) := hh
      clear hh
      have hD1 : C + 8 + m ≤ 40000000000000 := by omega
      obtain ⟨D, hD⟩ : ∃ D, C + 8 + m = D := ⟨_, rfl⟩
      have HDD : Hid (C + 8 + m = D) := hD
      rw [hD] at HBY hD1
      clear hD
      go_wp2_with (first | (go_at_call 41; refine (HBY.out _ (fun x N h => h.setRow g (m11w C) wr (k * 11))).mono ?_; rintro o w5 ⟨rfl, q1, q2, q3, q4, q5⟩; obtain ⟨⟨v9, z9⟩, f9⟩ := (q2 g (n * 11) (HD.out.2.1.row.setRow g (m11w C) wr (k * 11))) (k * 11 + 9) (by omega); obtain ⟨⟨v10, z10⟩, f10⟩ := (q2 g (n * 11) (HD.out.2.1.row.setRow g (m11w C) wr (k * 11))) (k * 11 + 10) (by omega); have HQ : Hid ((∀ b, a = some ⟨b, 0, none⟩ → mkB w5 b m (C + 8)) ∧ (∀ x N, rowF (setRow wr g (k * 11) (m11w C)) x N → rowF w5 x N) ∧ (∀ x, a ≠ some ⟨x, 0, none⟩ → w5.heap[x]? = (setRow wr g (k * 11) (m11w C)).heap[x]?) ∧ w5.heap.size = (setRow wr g (k * 11) (m11w C)).heap.size ∧ Below B (setRow wr g (k * 11) (m11w C)) w5) := ⟨q1, q2, q3, q4, q5⟩; clear q1 q2 q3 q4 q5))
      obtain ⟨q1, q2, q3, q4, q5⟩ := HQ.out
      obtain ⟨r1, r0, r2, r3, r4, r5⟩ := HD.out
      have hT := HT.out
      have hC := HC.out
      have hDD := HDD.out
      have hl : (m11w C).length = 8 := rfl
      have hl2 : (m11x D).length = 2 := rfl
      have hag : a ≠ some ⟨g, 0, none⟩ := by
        rcases HH.out.2.2 with ⟨e, _⟩ | ⟨b, e, hne, _⟩
        · intro h; rw [h] at e; cases e
        · intro h; rw [h] at e; cases e; exact hne rfl
      have hgb := q3 g hag
      have hrf : ∀ x N, rowF wr x N → rowF (setRow w5 g (k * 11 + 9) (m11x D)) x N := fun x N h => (q2 x N (h.setRow g (m11w C) wr (k * 11))).setRow g (m11x D) w5 (k * 11 + 9)
      have hkb : ∀ x, x ≠ g → (setRow w5 g (k * 11 + 9) (m11x D)).heap[x]? = w5.heap[x]? := fun x hx => setRow_block g x hx (m11x D) w5 (k * 11 + 9)
      have hcl : ∀ t v, (t < k * 11 + 9 ∨ k * 11 + 11 ≤ t) → (setRow wr g (k * 11) (m11w C)).cell? ⟨g, t, none⟩ = some v → (setRow w5 g (k * 11 + 9) (m11x D)).cell? ⟨g, t, none⟩ = some v := fun t v ht hv => (Kd.setRow_other g (m11x D) w5 (k * 11 + 9) t (by omega)).trans (cell_up hv hgb)
      have hw6 : Hid (World.setCell (World.setCell w5 ⟨g, k * 11 + 9, none⟩ (.int .i64 (D : Int))) ⟨g, k * 11 + 10, none⟩ (.int .i64 ((D : Int) + 1)) = setRow w5 g (k * 11 + 9) (m11x D)) := rfl
      rw [hw6.out]
      refine ⟨⟨k + 1, by omega, by go_num, by rw [HCN.out]; congr 1; omega, fun hd j hj => ?_, ⟨hrf _ _ r0.row, fun j hj => ⟨hcl _ _ (by omega) ((Kd.setRow_other g (m11w C) wr (k * 11) (j * 11 + 8) (by omega)).trans (r0.dat j hj).1), (r0.dat j hj).2.up hrf⟩⟩, fun x N h => hrf x N (r2 x N h), fun x hx hj => (hkb x hx).trans ((q3 x (by have := hj k hlt; rw [hT] at this; exact this)).trans ((setRow_block g x hx (m11w C) wr (k * 11)).trans (r3 x hx hj))), by rw [Kd.setRow_size, q4, Kd.setRow_size]; exact r4, setRow_below g B hB w (m11x D) w5 (k * 11 + 9) ((setRow_below g B hB w (m11w C) wr (k * 11) r5).trans q5)⟩, by simp [intOf]; omega⟩
      by_cases e : j = k
      · subst e
        rw [hT, hC]
        refine ⟨fun t ht => hcl _ _ (by omega) (setRow_at g (m11w C) wr (j * 11) t (by omega) (r0.row (j * 11 + t) (by omega)).1), fun b hb t ht => cell_up (q1 b hb t ht) (hkb b (fun e => hag (by subst e; exact hb))), ?_, ?_⟩
        · have := setRow_at g (m11x D) w5 (j * 11 + 9) 0 (by simp [m11x]) ⟨_, z9⟩
          simp only at hDD ⊢
          rw [hDD]
          exact this
        · have := setRow_at g (m11x D) w5 (j * 11 + 9) 1 (by simp [m11x]) ⟨_, z10⟩
          simp only at hDD ⊢
          rw [hDD]
          exact this
      · have hj' : j < k := by omega
        have H0 := r1 hd j hj'
        have hbg : ∀ b, (hs j).1 = some ⟨b, 0, none⟩ → b ≠ g ∧ a ≠ some ⟨b, 0, none⟩ := fun b hb => by
          constructor
          · rcases (r0.dat j (by omega)).2.2.2 with ⟨e, _⟩ | ⟨b', e, hne, _⟩
            · rw [hb] at e; cases e
            · rw [hb] at e; cases e; exact hne
          · have := hd j k hj' hlt b hb
            rw [hT] at this
            exact this
        exact ⟨fun t ht => hcl _ _ (by omega) ((Kd.setRow_other g (m11w C) wr (k * 11) (j * 11 + t) (by omega)).trans (H0.row t ht)), fun b hb t ht => cell_up (H0.dat b hb t ht) ((hkb b (hbg b hb).1).trans ((q3 b (hbg b hb).2).trans (setRow_block g b (hbg b hb).1 (m11w C) wr (k * 11)))), hcl _ _ (by omega) ((Kd.setRow_other g (m11w C) wr (k * 11) (j * 11 + 9) (by omega)).trans H0.end9), hcl _ _ (by omega) ((Kd.setRow_other g (m11w C) wr (k * 11) (j * 11 + 10) (by omega)).trans H0.end10)⟩
    · have hkn : k = n := by omega
      subst hkn
      go_wp2
      go_ret
      exact ⟨rfl, hdone, hsh, hrow, hoth, hsz, hb⟩
set_option maxHeartbeats 8000000 in
set_option maxRecDepth 20000 in
theorem heldOrderS_gen (w : World) (g n cap c : Nat) (hs : Nat → Hd) (h : sh11 w g n hs) (hm : ∀ j, j < n → mk11 w g (j * 11) (cn11 c hs j) (hs j)) (hcp : n ≤ cap) (hn : n ≤ 1048576) (hc : c ≤ 20000000000000) :
    Calls Tryz.prog 21 #[.slice (some ⟨g, 0, none⟩) n cap, .int .i64 (c : Int)] w fun o w' => o = .returned (.int .i64 (cn11 c hs n : Int)) ∧ w' = w := by
  have HSH : Hid (sh11 w g n hs) := h
  have HM : Hid (∀ j, j < n → mk11 w g (j * 11) (cn11 c hs j) (hs j)) := hm
  have HLE : Hid (∀ j, j ≤ n → cn11 c hs j ≤ c + j * 1048587) := cn11_le c n hs (fun j hj => (h.dat j hj).2.1)
  clear h hm
  go_enter Tryz.func21, Tryz.ntmps21
  go_wp2
  go_loopw [1, 5] (fun kk i wr => ∃ k : Nat, k ≤ n ∧ i = .int .i64 (k : Int) ∧ kk = .int .i64 (cn11 c hs k : Int) ∧ wr = w) (fun _ i _ => n - (intOf i).toNat)
  case atStart => exact ⟨0, Nat.zero_le _, rfl, rfl, rfl⟩
  case round =>
    obtain ⟨k, hk, rfl, rfl, rfl⟩ := hrel
    by_cases hlt : k < n
    · have hx := HM.out k hlt
      obtain ⟨zd, hh⟩ := HSH.out.dat k hlt
      have HCN : Hid (cn11 c hs (k + 1) = cn11 c hs k + 10 + (hs k).2.1) := rfl
      have hC1 : cn11 c hs k ≤ 30000000000000 := by have := HLE.out k hk; omega
      generalize hC : cn11 c hs k = C at *
      have HC : Hid (cn11 c hs k = C) := hC
      clear hC
      obtain ⟨t, ht⟩ : ∃ t, hs k = t := ⟨_, rfl⟩
      rw [ht] at zd hh HCN hx
      clear ht
      obtain ⟨a, m, cc⟩ := t
      simp only at zd
      have hm : m ≤ 1048576 := hh.1
      have x0 : wr.cell? ⟨g, k * 11, none⟩ = some (.int .i64 ((C : Int))) := hx.row 0 (by omega)
      have x1 : wr.cell? ⟨g, k * 11 + 1, none⟩ = some (.int .i64 ((C : Int) + 1)) := hx.row 1 (by omega)
      have x2 : wr.cell? ⟨g, k * 11 + 2, none⟩ = some (.int .i64 ((C : Int) + 1 + 1)) := hx.row 2 (by omega)
      have x3 : wr.cell? ⟨g, k * 11 + 3, none⟩ = some (.int .i64 ((C : Int) + 1 + 1 + 1)) := hx.row 3 (by omega)
      have x4 : wr.cell? ⟨g, k * 11 + 4, none⟩ = some (.bool (((C : Int) + 4) % 3 == 0)) := hx.row 4 (by omega)
      have x5 : wr.cell? ⟨g, k * 11 + 5, none⟩ = some (.int .u32 (((C : Int) + 1 + 1 + 1 + 1 + 1) % 4294967296)) := hx.row 5 (by omega)
      have x6 : wr.cell? ⟨g, k * 11 + 6, none⟩ = some (.bool (((C : Int) + 6) % 3 == 0)) := hx.row 6 (by omega)
      have x7 : wr.cell? ⟨g, k * 11 + 7, none⟩ = some (.int .i64 ((C : Int) + 1 + 1 + 1 + 1 + 1 + 1 + 1)) := hx.row 7 (by omega)
      have x9 := hx.end9
      have x10 := hx.end10
      have hdat := hx.dat
      have e4 : ((C : Int) + 1 + 1 + 1 + 1).tmod 3 = (((C + 4) % 3 : Nat) : Int) := by rw [Int.tmod_eq_emod_of_nonneg (by omega)]; omega
      have e6 : ((C : Int) + 1 + 1 + 1 + 1 + 1 + 1).tmod 3 = (((C + 6) % 3 : Nat) : Int) := by rw [Int.tmod_eq_emod_of_nonneg (by omega)]; omega
      have HB := hidYY (heldHd wr g a m cc (C + 8) hh hdat (by omega))
      rw [show (((C + 8 : Nat)) : Int) = (C : Int) + 1 + 1 + 1 + 1 + 1 + 1 + 1 + 1 by omega] at HB
      simp only at x9 x10
      have hD1 : C + 8 + m ≤ 40000000000000 := by omega
      obtain ⟨D, hD⟩ : ∃ D, C + 8 + m = D := ⟨_, rfl⟩
      have HDD : Hid (C + 8 + m = D) := hD
      rw [hD] at HB hD1 x9 x10
      clear hx hh hdat hD
      have hnz : ¬ (D : Int) < 0 := by omega
      go_wp2_with (first | (go_at_call 43; refine HB.out.mono ?_; rintro o w5 ⟨rfl, rfl⟩))
      refine ⟨⟨k + 1, by omega, by go_num, by rw [HCN.out]; have := HDD.out; congr 1; omega, trivial⟩, by simp [intOf]; omega⟩
    · have hkn : k = n := by omega
      subst hkn
      go_wp2
      go_ret
      exact ⟨rfl, rfl⟩
end Go.Proofs.YtfbeaekddgpmmaaGreatDoor
namespace Go.Proofs.YtfbeaekddgpmmaaGreatDoor
open Go.RowKit Kd H
set_option linter.unusedVariables false
/-- the filters of a setup: none, or in a block other than g -/
def hf (W : World) (g : Nat) (h : Hd) : Prop := h.2.1 ≤ 1000 ∧ h.2.1 ≤ h.2.2 ∧ ((h.1 = none ∧ h.2.1 = 0) ∨ ∃ b, h.1 = some ⟨b, 0, none⟩ ∧ b ≠ g ∧ rowZ W b (h.2.1 * 3))
/-- the filters at b are marked from C on -/
def mkFs (W : World) (b m C : Nat) : Prop := ∀ j, j < m → at3 W b (j * 3) (mkF (C + 3 * j))
theorem markFilter_none (w : World) (cap C : Nat) : Calls Tryz.prog 40 #[.slice none 0 cap, .int .i64 (C : Int)] w fun o w' => o = .returned (.int .i64 (C : Int)) ∧ w' = w := by
  go_enter Tryz.func40, Tryz.ntmps40
  go_wp2
  go_loopw [1, 5] (fun kk i wr => i = .int .i64 0 ∧ kk = .int .i64 (C : Int) ∧ wr = w) (fun _ _ _ => 0)
  case atStart => exact ⟨rfl, rfl, rfl⟩
  case round =>
    obtain ⟨rfl, rfl, rfl⟩ := hrel
    go_wp2
    go_ret
    exact ⟨rfl, rfl⟩
theorem heldFilter_none (w : World) (cap C : Nat) : Calls Tryz.prog 42 #[.slice none 0 cap, .int .i64 (C : Int)] w fun o w' => o = .returned (.int .i64 (C : Int)) ∧ w' = w := by
  go_enter Tryz.func42, Tryz.ntmps42
  go_wp2
  go_loopw [1, 5] (fun kk i wr => i = .int .i64 0 ∧ kk = .int .i64 (C : Int) ∧ wr = w) (fun _ _ _ => 0)
  case atStart => exact ⟨rfl, rfl, rfl⟩
  case round =>
    obtain ⟨rfl, rfl, rfl⟩ := hrel
    go_wp2
    go_ret
    exact ⟨rfl, rfl⟩
theorem hf.up {W W' : World} {g : Nat} {h : Hd} (H : hf W g h) (hr : ∀ b, h.1 = some ⟨b, 0, none⟩ → b ≠ g → W'.heap[b]? = W.heap[b]?) : hf W' g h := by
  obtain ⟨h1, h2, h3⟩ := H
  refine ⟨h1, h2, ?_⟩
  rcases h3 with h3 | ⟨b, e, hn, hz⟩
  · exact Or.inl h3
  · exact Or.inr ⟨b, e, hn, hz.up (hr b e hn)⟩
theorem markHf (B : Nat) (W : World) (g : Nat) (a : Option Addr) (m cc C : Nat) (H : hf W g (a, m, cc)) (hB : ∀ b, a = some ⟨b, 0, none⟩ → B ≤ b) (hC : C ≤ 100000) :
    Calls Tryz.prog 40 #[.slice a m cc, .int .i64 (C : Int)] W fun o w' => o = .returned (.int .i64 ((C + 3 * m : Nat) : Int)) ∧ (∀ b, a = some ⟨b, 0, none⟩ → mkFs w' b m C) ∧ hf w' g (a, m, cc) ∧ (∀ x, a ≠ some ⟨x, 0, none⟩ → w'.heap[x]? = W.heap[x]?) ∧ w'.heap.size = W.heap.size ∧ Below B W w' := by
  obtain ⟨h1, h2, ⟨e, hm⟩ | ⟨b, e, hn, hf⟩⟩ := H
  · simp only at e hm
    subst e
    subst hm
    refine (markFilter_none W cc C).mono ?_
    rintro o w' ⟨rfl, rfl⟩
    exact ⟨rfl, fun b hb => absurd hb (by simp), ⟨h1, h2, .inl ⟨rfl, rfl⟩⟩, fun _ _ => rfl, rfl, Below.refl _ _⟩
  · simp only at e hf h1 h2
    subst e
    refine (markFilterS_big W b m cc C hf h2 (by omega) hC).mono ?_
    rintro o w' ⟨rfl, q1, q2, q3, q4, q5⟩
    exact ⟨rfl, fun b' hb => by cases hb; exact q1, ⟨h1, h2, .inr ⟨b, rfl, hn, q2⟩⟩, fun x hx => q3 x (fun e => hx (by rw [e])), q4, q5.mono (hB b rfl)⟩
theorem heldHf (W : World) (a : Option Addr) (m cc C : Nat) (H : m ≤ 1000 ∧ m ≤ cc ∧ ((a = none ∧ m = 0) ∨ ∃ b, a = some ⟨b, 0, none⟩)) (hk : ∀ b, a = some ⟨b, 0, none⟩ → mkFs W b m C) (hC : C ≤ 100000) :
    Calls Tryz.prog 42 #[.slice a m cc, .int .i64 (C : Int)] W fun o w' => o = .returned (.int .i64 ((C + 3 * m : Nat) : Int)) ∧ Below W.heap.size W w' := by
  obtain ⟨h1, h2, ⟨e, hm⟩ | ⟨b, e⟩⟩ := H
  · subst e
    subst hm
    refine (heldFilter_none W cc C).mono ?_
    rintro o w' ⟨rfl, rfl⟩
    exact ⟨rfl, Below.refl _ _⟩
  · subst e
    exact heldFilterS_big W b m cc C (hk b rfl) h2 (by omega) hC
/-- n setups at g, their filters as hs tells -/
structure sh6 (W : World) (g n : Nat) (hs : Nat → Hd) : Prop where
  row : rowF W g (n * 6)
  dat : ∀ j, j < n → W.cell? ⟨g, j * 6 + 5, none⟩ = some (.slice (hs j).1 (hs j).2.1 (hs j).2.2) ∧ hf W g (hs j)
/-- the number of marks behind j setups -/
def cn6 (c : Nat) (hs : Nat → Hd) : Nat → Nat
  | 0 => c
  | j + 1 => cn6 c hs j + 5 + 3 * (hs j).2.1
theorem cn6_le (c n : Nat) (hs : Nat → Hd) (h : ∀ j, j < n → (hs j).2.1 ≤ 1000) : ∀ j, j ≤ n → cn6 c hs j ≤ c + j * 3005 := by
  intro j
  induction j with
  | zero => intro _; exact Nat.le_refl _
  | succ j ih =>
    intro hj
    have h1 := ih (by omega)
    have h2 := h j (by omega)
    simp only [cn6]
    omega
def m6w (C : Nat) : List Value := [Value.int .i64 ((C : Int)), Value.int .i64 ((C : Int) + 1), Value.int .i64 ((C : Int) + 1 + 1), Value.int .i64 ((C : Int) + 1 + 1 + 1), Value.int .i64 ((C : Int) + 1 + 1 + 1 + 1)]
/-- a setup marked from C on -/
structure mk6 (W : World) (g o C : Nat) (h : Hd) : Prop where
  row : ∀ t (ht : t < 5), W.cell? ⟨g, o + t, none⟩ = some ((m6w C)[t]'(by simpa [m6w] using ht))
  dat : ∀ b, h.1 = some ⟨b, 0, none⟩ → mkFs W b h.2.1 (C + 5)
theorem mk6.up {W W' : World} {g o C : Nat} {h : Hd} (H : mk6 W g o C h) (hg : W'.heap[g]? = W.heap[g]?) (hb : ∀ b, h.1 = some ⟨b, 0, none⟩ → W'.heap[b]? = W.heap[b]?) : mk6 W' g o C h :=
  ⟨fun t ht => cell_up (H.row t ht) hg, fun b e j hj => (H.dat b e j hj).up (hb b e)⟩
theorem sh6.up {W W' : World} {g n : Nat} {hs : Nat → Hd} (H : sh6 W g n hs) (hg : W'.heap[g]? = W.heap[g]?) (hr : ∀ j, j < n → ∀ b, (hs j).1 = some ⟨b, 0, none⟩ → W'.heap[b]? = W.heap[b]?) : sh6 W' g n hs :=
  ⟨H.row.up hg, fun j hj => ⟨cell_up (H.dat j hj).1 hg, (H.dat j hj).2.up fun b hb _ => hr j hj b hb⟩⟩
set_option maxHeartbeats 8000000 in
set_option maxRecDepth 20000 in
theorem markSetupS_gen (B : Nat) (w : World) (g n cap c : Nat) (hs : Nat → Hd) (h : sh6 w g n hs) (hcp : n ≤ cap) (hn : n ≤ 32) (hc : c ≤ 1) (hB : B ≤ g) (hB2 : abv B hs n) (hds : dst hs n) :
    Calls Tryz.prog 18 #[.slice (some ⟨g, 0, none⟩) n cap, .int .i64 (c : Int)] w fun o w' => o = .returned (.int .i64 (cn6 c hs n : Int)) ∧ (∀ j, j < n → mk6 w' g (j * 6) (cn6 c hs j) (hs j)) ∧ sh6 w' g n hs ∧ (∀ x, x ≠ g → (∀ j, j < n → (hs j).1 ≠ some ⟨x, 0, none⟩) → w'.heap[x]? = w.heap[x]?) ∧ w'.heap.size = w.heap.size ∧ Below B w w' := by
  have HSH : Hid (sh6 w g n hs) := h
  have HB2 : Hid (abv B hs n) := hB2
  have HDS := hidYY hds
  have HLE : Hid (∀ j, j ≤ n → cn6 c hs j ≤ c + j * 3005) := cn6_le c n hs (fun j hj => (h.dat j hj).2.1)
  clear h hB2 hds
  go_enter Tryz.func18, Tryz.ntmps18
  go_wp2
  go_loopw [1, 5] (fun kk i wr => ∃ k : Nat, k ≤ n ∧ i = .int .i64 (k : Int) ∧ kk = .int .i64 (cn6 c hs k : Int) ∧ (∀ j, j < k → mk6 wr g (j * 6) (cn6 c hs j) (hs j)) ∧ sh6 wr g n hs ∧ (∀ x, x ≠ g → (∀ j, j < n → (hs j).1 ≠ some ⟨x, 0, none⟩) → wr.heap[x]? = w.heap[x]?) ∧ wr.heap.size = w.heap.size ∧ Below B w wr) (fun _ i _ => n - (intOf i).toNat)
  case atStart => exact ⟨0, Nat.zero_le _, rfl, rfl, fun j hj => absurd hj (Nat.not_lt_zero _), HSH.out, fun _ _ _ => rfl, rfl, Below.refl _ _⟩
  case round =>
    obtain ⟨k, hk, rfl, rfl, hdone, hsh, hoth, hsz, hb⟩ := hrel
    by_cases hlt : k < n
    · have hkn : k * 6 + 6 ≤ n * 6 := by omega
      obtain ⟨⟨v0, z0⟩, f0⟩ := hsh.row (k * 6) (by omega)
      obtain ⟨⟨v1, z1⟩, f1⟩ := hsh.row (k * 6 + 1) (by omega)
      obtain ⟨⟨v2, z2⟩, f2⟩ := hsh.row (k * 6 + 2) (by omega)
      obtain ⟨⟨v3, z3⟩, f3⟩ := hsh.row (k * 6 + 3) (by omega)
      obtain ⟨⟨v4, z4⟩, f4⟩ := hsh.row (k * 6 + 4) (by omega)
      obtain ⟨zd, hh⟩ := hsh.dat k hlt
      have HD : Hid ((∀ j, j < k → mk6 wr g (j * 6) (cn6 c hs j) (hs j)) ∧ sh6 wr g n hs ∧ (∀ x, x ≠ g → (∀ j, j < n → (hs j).1 ≠ some ⟨x, 0, none⟩) → wr.heap[x]? = w.heap[x]?) ∧ wr.heap.size = w.heap.size ∧ Below B w wr) := ⟨hdone, hsh, hoth, hsz, hb⟩
      clear hdone hsh hoth hsz hb
      have HCN : Hid (cn6 c hs (k + 1) = cn6 c hs k + 5 + 3 * (hs k).2.1) := rfl
      have hC1 : cn6 c hs k ≤ 99990 := by have := HLE.out k hk; omega
      generalize hC : cn6 c hs k = C at *
      have HC : Hid (cn6 c hs k = C) := hC
      clear hC
      have HAB : Hid (∀ b, (hs k).1 = some ⟨b, 0, none⟩ → B ≤ b) := HB2.out k hlt
      obtain ⟨t, ht⟩ : ∃ t, hs k = t := ⟨_, rfl⟩
      have HT : Hid (hs k = t) := ht
      rw [ht] at zd hh HCN HAB
      clear ht
      obtain ⟨a, m, cc⟩ := t
      simp only at zd
      have HBY : Hid (∀ W, (∀ x, x ≠ g → W.heap[x]? = wr.heap[x]?) → Calls Tryz.prog 40 #[.slice a m cc, .int .i64 ((C : Int) + 1 + 1 + 1 + 1 + 1)] W fun o w' => o = .returned (.int .i64 ((C + 5 + 3 * m : Nat) : Int)) ∧ (∀ b, a = some ⟨b, 0, none⟩ → mkFs w' b m (C + 5)) ∧ hf w' g (a, m, cc) ∧ (∀ x, a ≠ some ⟨x, 0, none⟩ → w'.heap[x]? = W.heap[x]?) ∧ w'.heap.size = W.heap.size ∧ Below B W w') := fun W hW => by
        have := markHf B W g a m cc (C + 5) (hh.up fun b _ hb => hW b hb) HAB.out (by omega)
        have e : (((C + 5 : Nat)) : Int) = (C : Int) + 1 + 1 + 1 + 1 + 1 := by omega
        rw [e] at this
        exact this
      have HH : Hid (hf wr g (a, m, cc)) := hh
      clear hh
      go_wp2_with (first | (go_at_call 40; refine (HBY.out _ (fun x hx => setRow_block g x hx (m6w C) wr (k * 6))).mono ?_; rintro o w5 ⟨rfl, q1, q2, q3, q4, q5⟩; have HQ : Hid ((∀ b, a = some ⟨b, 0, none⟩ → mkFs w5 b m (C + 5)) ∧ hf w5 g (a, m, cc) ∧ (∀ x, a ≠ some ⟨x, 0, none⟩ → w5.heap[x]? = (setRow wr g (k * 6) (m6w C)).heap[x]?) ∧ w5.heap.size = (setRow wr g (k * 6) (m6w C)).heap.size ∧ Below B (setRow wr g (k * 6) (m6w C)) w5) := ⟨q1, q2, q3, q4, q5⟩; clear q1 q2 q3 q4 q5))
      obtain ⟨q1, q2, q3, q4, q5⟩ := HQ.out
      obtain ⟨r1, r0, r3, r4, r5⟩ := HD.out
      have hT := HT.out
      have hC := HC.out
      have hl : (m6w C).length = 5 := rfl
      have hag : a ≠ some ⟨g, 0, none⟩ := by
        rcases HH.out.2.2 with ⟨e, _⟩ | ⟨b, e, hne, _⟩
        · intro h; rw [h] at e; cases e
        · intro h; rw [h] at e; cases e; exact hne rfl
      have hgb := q3 g hag
      have hcl : ∀ t v, (setRow wr g (k * 6) (m6w C)).cell? ⟨g, t, none⟩ = some v → w5.cell? ⟨g, t, none⟩ = some v := fun t v hv => cell_up hv hgb
      have hjb : ∀ j, j < n → j ≠ k → ∀ b, (hs j).1 = some ⟨b, 0, none⟩ → w5.heap[b]? = wr.heap[b]? := fun j hj hjk b hb => by
        have hbg : b ≠ g := by
          rcases (r0.dat j hj).2.2.2 with ⟨e, _⟩ | ⟨b', e, hne, _⟩
          · rw [hb] at e; cases e
          · rw [hb] at e; cases e; exact hne
        have hba : a ≠ some ⟨b, 0, none⟩ := by
          intro ha
          rcases Nat.lt_or_gt_of_ne hjk with h | h
          · have := HDS.out j k h hlt b hb
            rw [hT] at this
            exact this ha
          · have := HDS.out k j h hj b (by rw [hT]; exact ha)
            exact this hb
        exact (q3 b hba).trans (setRow_block g b hbg (m6w C) wr (k * 6))
      refine ⟨⟨k + 1, by omega, by go_num, by rw [HCN.out]; congr 1, fun j hj => ?_, ⟨(r0.row.setRow g (m6w C) wr (k * 6)).up hgb, fun j hj => ⟨hcl _ _ ((Kd.setRow_other g (m6w C) wr (k * 6) (j * 6 + 5) (by omega)).trans (r0.dat j hj).1), ?_⟩⟩, fun x hx hj => (q3 x (by have := hj k hlt; rw [hT] at this; exact this)).trans ((setRow_block g x hx (m6w C) wr (k * 6)).trans (r3 x hx hj)), by rw [q4, Kd.setRow_size]; exact r4, (setRow_below g B hB w (m6w C) wr (k * 6) r5).trans q5⟩, by simp [intOf]; omega⟩
      · by_cases e : j = k
        · subst e
          rw [hT, hC]
          exact ⟨fun t ht => hcl _ _ (setRow_at g (m6w C) wr (j * 6) t (by omega) (r0.row (j * 6 + t) (by omega)).1), q1⟩
        · have H0 := r1 j (by omega)
          exact ⟨fun t ht => hcl _ _ ((Kd.setRow_other g (m6w C) wr (k * 6) (j * 6 + t) (by omega)).trans (H0.row t ht)), fun b hb i hi => (H0.dat b hb i hi).up (hjb j (by omega) e b hb)⟩
      · by_cases e : j = k
        · subst e
          rw [hT]
          exact q2
        · exact (r0.dat j hj).2.up fun b hb _ => hjb j hj e b hb
    · have hkn : k = n := by omega
      subst hkn
      go_wp2
      go_ret
      exact ⟨rfl, hdone, hsh, hoth, hsz, hb⟩
set_option maxHeartbeats 8000000 in
set_option maxRecDepth 20000 in
theorem heldSetupS_gen (w : World) (g n cap c : Nat) (hs : Nat → Hd) (h : sh6 w g n hs) (hm : ∀ j, j < n → mk6 w g (j * 6) (cn6 c hs j) (hs j)) (hcp : n ≤ cap) (hn : n ≤ 32) (hc : c ≤ 1) (hgl : g < w.heap.size) :
    Calls Tryz.prog 20 #[.slice (some ⟨g, 0, none⟩) n cap, .int .i64 (c : Int)] w fun o w' => o = .returned (.int .i64 (cn6 c hs n : Int)) ∧ Below w.heap.size w w' := by
  have HSH : Hid (sh6 w g n hs) := h
  have HM : Hid (∀ j, j < n → mk6 w g (j * 6) (cn6 c hs j) (hs j)) := hm
  have HLE : Hid (∀ j, j ≤ n → cn6 c hs j ≤ c + j * 3005) := cn6_le c n hs (fun j hj => (h.dat j hj).2.1)
  clear h hm
  go_enter Tryz.func20, Tryz.ntmps20
  go_wp2
  go_loopw [1, 5] (fun kk i wr => ∃ k : Nat, k ≤ n ∧ i = .int .i64 (k : Int) ∧ kk = .int .i64 (cn6 c hs k : Int) ∧ Below w.heap.size w wr) (fun _ i _ => n - (intOf i).toNat)
  case atStart => exact ⟨0, Nat.zero_le _, rfl, rfl, Below.refl _ _⟩
  case round =>
    obtain ⟨k, hk, rfl, rfl, hwr⟩ := hrel
    by_cases hlt : k < n
    · have hx := HM.out k hlt
      obtain ⟨zd', hh'⟩ := HSH.out.dat k hlt
      have hgb : wr.heap[g]? = w.heap[g]? := hwr.block g hgl
      have zd := cell_up zd' hgb
      have HCN : Hid (cn6 c hs (k + 1) = cn6 c hs k + 5 + 3 * (hs k).2.1) := rfl
      have hC1 : cn6 c hs k ≤ 99990 := by have := HLE.out k hk; omega
      generalize hC : cn6 c hs k = C at *
      have HC : Hid (cn6 c hs k = C) := hC
      clear hC zd'
      obtain ⟨t, ht⟩ : ∃ t, hs k = t := ⟨_, rfl⟩
      rw [ht] at zd hh' HCN hx
      clear ht
      obtain ⟨a, m, cc⟩ := t
      simp only at zd
      have x0 : wr.cell? ⟨g, k * 6, none⟩ = some (.int .i64 ((C : Int))) := cell_up (hx.row 0 (by omega)) hgb
      have x1 : wr.cell? ⟨g, k * 6 + 1, none⟩ = some (.int .i64 ((C : Int) + 1)) := cell_up (hx.row 1 (by omega)) hgb
      have x2 : wr.cell? ⟨g, k * 6 + 2, none⟩ = some (.int .i64 ((C : Int) + 1 + 1)) := cell_up (hx.row 2 (by omega)) hgb
      have x3 : wr.cell? ⟨g, k * 6 + 3, none⟩ = some (.int .i64 ((C : Int) + 1 + 1 + 1)) := cell_up (hx.row 3 (by omega)) hgb
      have x4 : wr.cell? ⟨g, k * 6 + 4, none⟩ = some (.int .i64 ((C : Int) + 1 + 1 + 1 + 1)) := cell_up (hx.row 4 (by omega)) hgb
      have hdat : ∀ b, a = some ⟨b, 0, none⟩ → mkFs wr b m (C + 5) := fun b hb j hj => (hx.dat b hb j hj).below hwr
      have HB := hidYY (heldHf wr a m cc (C + 5) ⟨hh'.1, hh'.2.1, by
        rcases hh'.2.2 with a3 | ⟨b, e, _⟩
        · exact .inl a3
        · exact .inr ⟨b, e⟩⟩ hdat (by omega))
      rw [show (((C + 5 : Nat)) : Int) = (C : Int) + 1 + 1 + 1 + 1 + 1 by omega] at HB
      obtain ⟨D, hD⟩ : ∃ D, C + 5 + 3 * m = D := ⟨_, rfl⟩
      have HDD : Hid (C + 5 + 3 * m = D) := hD
      have hD1 : D ≤ 1000000 := by have := hh'.1; simp only at this; omega
      rw [hD] at HB
      clear hx hh' hdat hD hgb
      have hnz : ¬ (D : Int) < 0 := by omega
      have HWR := hidYY hwr
      clear hwr
      go_wp2_with (first | (go_at_call 42; refine HB.out.mono ?_; rintro o w5 ⟨rfl, b5⟩))
      refine ⟨⟨k + 1, by omega, by go_num, by rw [HCN.out]; have := HDD.out; congr 1; omega, HWR.out.trans (b5.mono HWR.out.size)⟩, by simp [intOf]; omega⟩
    · have hkn : k = n := by omega
      subst hkn
      go_wp2
      go_ret
      exact ⟨rfl, hwr⟩
end Go.Proofs.YtfbeaekddgpmmaaGreatDoor
