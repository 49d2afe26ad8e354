import Derived.Test.YtfbeaekddgpmmaaGreatDoorProg
import Derived.WalkKit
import Derived.WalkSpells
import Derived.WalkLawsBesides
import Derived.Deep.QuietTactic
import Derived.BigQuiet
import Derived.Below
import Derived.Laws.BitsAllLaws
import Derived.Laws.IdiomStrings
import Derived.Deep.RegionWith
import Derived.Deep.MidRow
import Derived.Maps.AppendAt
namespace Go.Proofs.YtfbeaekddgpmmaaGreatDoor.Kd
open Go.RowKit
theorem ret_int {k : IntKind} {a b : Int} (h : a = b) : Ending.returned (.int k a) = .returned (.int k b) := by rw [h]
theorem ret_bool {a b : Bool} (h : a = b) : Ending.returned (.bool a) = .returned (.bool b) := by rw [h]
theorem Tryz.info5 : (Tryz.prog.info? 5).map (fun i => (i.zero, i.size, i.bytes)) = some (some (.int .u8 0), 1, 1) := by kernel_rfl
def bv (l : List Nat) : List Value := l.map (fun x : Nat => Value.int .u8 (x : Int))
theorem bv_at (l : List Nat) (j : Nat) (h : j < l.length) : (bv l)[j]? = some (Value.int .u8 (l[j] : Int)) := by simp [bv, h]
/-- the slice v is a row of letters that the call itself made, in blocks from B on -/
def ownsB (w : World) (B : Nat) (v : Value) (l : List Nat) : Prop := w.ownsRow B 5 1 v l.length (bv l)
/-- one letter put behind a row of letters that the call itself made -/
theorem app_byte {ops : Array Oper} {rest : List Oper} {o : Oper} {a : Act} {Q : Exit → Act → World → Prop} (w0 wr : World) (hgd : o.guard = none) (s x : Operand)
    (ho : o.op = .call { callee := .builtin .append, args := #[s, x], argTypes := #[63, 63] })
    (B : Nat) (v : Value) (l : List Nat) (c : Nat) (ci : Int) (hci : ci = (c : Int)) (hs : a.eval s = v) (hown : ownsB wr B v l)
    (hx : a.eval x = .slice (some ⟨wr.heap.size, 0, none⟩) 1 1) (hlen : l.length ≤ 100000000) (hB : B ≤ wr.heap.size) (hbel : Below B w0 wr)
    (h : ∀ v' w', ownsB w' B v' (l ++ [c]) → Below B w0 w' → B ≤ w'.heap.size → wpList Tryz.prog ops Q rest (a.put o.dst v') w') :
    wpList Tryz.prog ops Q (o :: rest) a (wr.alloc (.cells #[.int .u8 ci] 5)) := by
  subst hci
  obtain ⟨i0, hi, hz0, hz1, hz2⟩ := info_parts Tryz.info5
  refine wpList_append_own _ hgd s x 63 ho B 5 i0 (.int .u8 0) 1 1 Tryz.underlying63 hi hz0 hz1 hz2 rfl (by decide) v l.length (bv l) hs (World.ownsRow.alloc hown _) ⟨wr.heap.size, 0, none⟩ 1 1 [.int .u8 (c : Int)] hx rfl ?_ ?_ ?_ ?_ ?_ ?_
  · intro j u hj
    match j, hj with
    | 0, hj => simp at hj; subst hj; simp [Addr.add]
  · intro u hu; simp at hu; subst hu; rfl
  · unfold maxLen; omega
  · omega
  · simp; omega
  · intro v' w' ho' hg _
    have hr : ∀ k, v.ownBlock = some k → B ≤ k := fun k hk => (World.ownsRow.lt hown k hk).1
    refine h v' w' ?_ ((hbel.alloc hB _).grown hg (by simp; omega) hr) (Nat.le_trans (by simp; omega) hg.size)
    have e1 : bv (l ++ [c]) = bv l ++ [.int .u8 (c : Int)] := by simp [bv]
    unfold ownsB
    rw [e1, List.length_append]
    exact ho'
/-- the row of letters, cell by cell -/
structure rowB (w : World) (g n : Nat) (f : Nat → Nat) : Prop where
  cell : ∀ t, t < n → w.cell? ⟨g, t, none⟩ = some (.int .u8 (f t : Int))
  free : ∀ t, t < n → w.frozen? ⟨g, t, none⟩ = false
theorem rowB.of {w : World} {g n : Nat} {f f' : Nat → Nat} (h : rowB w g n f) (he : ∀ t, t < n → f t = f' t) : rowB w g n f' :=
  ⟨fun t ht => by rw [← he t ht]; exact h.cell t ht, h.free⟩
theorem rowB.set {w : World} {g n : Nat} {f f' : Nat → Nat} (h : rowB w g n f) (t0 : Nat) (ht0 : t0 < n) (x : Int) (hx : x = (f' t0 : Int)) (he : ∀ t, t < n → t ≠ t0 → f t = f' t) : rowB (w.setCell ⟨g, t0, none⟩ (.int .u8 x)).drew g n f' := by
  refine ⟨fun t ht => ?_, fun t ht => ?_⟩
  · rw [World.cell?_drew]
    by_cases e : t = t0
    · subst e
      rw [World.cell?_setCell_same _ _ _ (h.cell t ht), hx]
    · rw [World.cell?_setCell_other _ _ _ _ (by intro hh; exact e (by simpa using hh.symm)), h.cell t ht, he t ht e]
  · rw [World.frozen?_drew, World.frozen?_setCell]
    exact h.free t ht
/-- the slice v holds the letters l -/
structure isBytes (w : World) (a : Option Addr) (n cap : Nat) (l : List Nat) : Prop where
  len : n = l.length
  cap : n ≤ cap
  small : ∀ x ∈ l, x < 256
  cells : l ≠ [] → ∃ g off, a = some ⟨g, off, none⟩ ∧ ∀ j (h : j < l.length), w.cell? ⟨g, off + j, none⟩ = some (.int .u8 (l[j] : Int))
theorem isBytes.below {w w' : World} {a : Option Addr} {n cap : Nat} {l : List Nat} (h : isBytes w a n cap l) (hb : Below w.heap.size w w') : isBytes w' a n cap l := by
  refine ⟨h.len, h.cap, h.small, fun hl => ?_⟩
  obtain ⟨g, off, ha, hc⟩ := h.cells hl
  refine ⟨g, off, ha, fun j hj => ?_⟩
  have h1 := hc j hj
  rw [hb.cell (World.block_lt_of_cell? w _ h1)]
  exact h1
abbrev frV (e : Bool) (i : Nat) (r : Bool) (d : Int) (a : Option Addr) (n cap : Nat) : Value := .agg #[.bool e, .int .u32 (i : Int), .bool r, .int .i64 d, .slice a n cap]
abbrev frC (e : Bool) (i : Nat) (r : Bool) (d : Int) (a : Option Addr) (n cap : Nat) (T : TypeId) : Obj := .cells #[.bool e, .int .u32 (i : Int), .bool r, .int .i64 d, .slice a n cap] T
theorem isBytes.other {w w' : World} {g n cap : Nat} {l : List Nat} (h : isBytes w (some ⟨g, 0, none⟩) n cap l) (hk : w'.heap[g]? = w.heap[g]?) : isBytes w' (some ⟨g, 0, none⟩) n cap l := by
  refine ⟨h.len, h.cap, h.small, fun hl => ?_⟩
  obtain ⟨g', off, ha, hc⟩ := h.cells hl
  cases ha
  refine ⟨g, 0, rfl, fun t ht => ?_⟩
  have := hc t ht
  simp only [World.cell?, hk] at this ⊢
  exact this
theorem isBytes.setOther {w : World} {g n cap : Nat} {l : List Nat} (h : isBytes w (some ⟨g, 0, none⟩) n cap l) (b j : Nat) (v : Value) (hb : b ≠ g) : isBytes (w.setCell ⟨b, j, none⟩ v) (some ⟨g, 0, none⟩) n cap l := by
  refine ⟨h.len, h.cap, h.small, fun hl => ?_⟩
  obtain ⟨g', off, ha, hc⟩ := h.cells hl
  refine ⟨g', off, ha, fun t ht => ?_⟩
  cases ha
  rw [World.cell?_setCell_other _ _ _ _ (by intro hh; exact hb (congrArg Addr.block hh))]
  exact hc t ht
set_option maxHeartbeats 1000000 in
theorem eqByteS_same (w : World) (a1 a2 : Option Addr) (n1 c1 n2 c2 : Nat) (l : List Nat) (h1 : isBytes w a1 n1 c1 l) (h2 : isBytes w a2 n2 c2 l) (hn : n1 ≤ 1048576) :
    Calls Tryz.prog 82 #[.slice a1 n1 c1, .slice a2 n2 c2] w fun o w' => o = .returned (.bool true) ∧ ∃ q, w' = w.drewN q := by
  have e1 := h1.len
  have e2 := h2.len
  by_cases hl : l = []
  · subst hl
    have e1' : n1 = 0 := e1
    have e2' : n2 = 0 := e2
    subst e1' e2'
    clear e1 e2 h1 h2
    go_enter Tryz.func82, Tryz.ntmps82
    go_wp2
    go_loopw [5] (fun i wr => i = .int .i64 0 ∧ wr = w) (fun _ _ => 0)
    case atStart => exact ⟨rfl, rfl⟩
    case round =>
      obtain ⟨rfl, rfl⟩ := hrel
      go_wp2
      go_ret
      exact ⟨rfl, 0, rfl⟩
  · obtain ⟨g1, o1, rfl, k1⟩ := h1.cells hl
    obtain ⟨g2, o2, rfl, k2⟩ := h2.cells hl
    have hnn : n2 = n1 := by omega
    subst hnn
    have hn1 : n2 ≤ l.length := by omega
    clear e1 e2 h1 h2
    go_enter Tryz.func82, Tryz.ntmps82
    go_wp2
    go_loopw [5] (fun i wr => ∃ k : Nat, k ≤ n2 ∧ i = .int .i64 k ∧ ∃ q, wr = w.drewN q) (fun i _ => n2 - (intOf i).toNat)
    case atStart => exact ⟨0, Nat.zero_le _, rfl, 0, rfl⟩
    case round =>
      obtain ⟨k, hk, rfl, q, rfl⟩ := hrel
      by_cases hlt : k < n2
      · have c1 := k1 k (by omega)
        have c2 := k2 k (by omega)
        generalize l[k] = x at *
        go_wp2
        go_quiet (fail)
        go_wp2
        go_roundw
        case rel => exact ⟨k + 1, by omega, by go_num, _, rfl⟩
        case measure => simp [intOf]; omega
      · go_wp2
        go_ret
        exact ⟨rfl, _, rfl⟩
set_option maxHeartbeats 1000000 in
set_option maxRecDepth 20000 in
theorem eqFrame_same (w : World) (e : Bool) (i : Nat) (r : Bool) (d : Int) (a : Option Addr) (n cap : Nat) (l : List Nat) (h : isBytes w a n cap l) (a' : Option Addr) (n' cap' : Nat) (h' : isBytes w a' n' cap' l) (hn : n ≤ 1048576) :
    Calls Tryz.prog 70 #[frV e i r d a n cap, frV e i r d a' n' cap'] w fun o w' => o = .returned (.bool true) ∧ Below w.heap.size w w' := by
  have HH : Hid (isBytes w a n cap l) := h
  have HH' : Hid (isBytes w a' n' cap' l) := h'
  clear h h'
  have hE : (e != e) = false := by simp
  have hR : (r != r) = false := by simp
  have hD : (d != d) = false := by simp
  have hI : ((i : Int) != (i : Int)) = false := by simp
  have hbl : Below w.heap.size w ((w.alloc (frC e i r d a n cap 65)).alloc (frC e i r d a' n' cap' 65)) := ((Below.refl _ _).alloc (Nat.le_refl _) _).alloc (by simp) _
  have HB : Hid (Below w.heap.size w ((w.alloc (frC e i r d a n cap 65)).alloc (frC e i r d a' n' cap' 65))) := hbl
  clear hbl
  go_enter Tryz.func70, Tryz.ntmps70
  go_wp2_with (first | (go_at_call 82; refine (eqByteS_same _ _ _ _ _ _ _ l (HH.out.below HB.out) (HH'.out.below HB.out) hn).mono ?_; rintro o w1 ⟨rfl, q, rfl⟩))
  go_ret
  exact ⟨rfl, below_drewN HB.out q⟩
/-- a row of N cells that may be written -/
structure rowZ (w : World) (g N : Nat) : Prop where
  cell : ∀ t, t < N → ∃ v, w.cell? ⟨g, t, none⟩ = some v
  free : ∀ t, w.frozen? ⟨g, t, none⟩ = false
/-- values put into the cells from p on -/
def setRow (W : World) (g : Nat) : Nat → List Value → World
  | _, [] => W
  | p, v :: vs => setRow (W.setCell ⟨g, p, none⟩ v) g (p + 1) vs
theorem setRow_other (g : Nat) : ∀ (vs : List Value) (W : World) (p t : Nat), (t < p ∨ p + vs.length ≤ t) → (setRow W g p vs).cell? ⟨g, t, none⟩ = W.cell? ⟨g, t, none⟩ := by
  intro vs
  induction vs with
  | nil => intro W p t _; rfl
  | cons v vs ih =>
    intro W p t h
    simp only [List.length_cons] at h
    show (setRow (W.setCell ⟨g, p, none⟩ v) g (p + 1) vs).cell? _ = _
    rw [ih _ (p + 1) t (by omega), World.cell?_setCell_other _ _ _ _ (by intro e; simp at e; try omega)]
theorem setRow_block (g : Nat) (b : Nat) (hb : b ≠ g) : ∀ (vs : List Value) (W : World) (p : Nat), (setRow W g p vs).heap[b]? = W.heap[b]? := by
  intro vs
  induction vs with
  | nil => intro W p; rfl
  | cons v vs ih => intro W p; exact (ih _ (p + 1)).trans (heap_setCell_other W ⟨g, p, none⟩ b v hb)
theorem setRow_frozen (g : Nat) (q : Addr) : ∀ (vs : List Value) (W : World) (p : Nat), (setRow W g p vs).frozen? q = W.frozen? q := by
  intro vs
  induction vs with
  | nil => intro W p; rfl
  | cons v vs ih => intro W p; rw [setRow, ih, World.frozen?_setCell]
theorem setRow_below (g B : Nat) (hB : B ≤ g) (w0 : World) : ∀ (vs : List Value) (W : World) (p : Nat), Below B w0 W → Below B w0 (setRow W g p vs) := by
  intro vs
  induction vs with
  | nil => intro W p h; exact h
  | cons v vs ih => intro W p h; exact ih _ _ (h.setCell (p := ⟨g, p, none⟩) (by simpa using hB) v)
theorem setRow_at (g : Nat) : ∀ (vs : List Value) (W : World) (p t : Nat) (ht : t < vs.length), (∃ u, W.cell? ⟨g, p + t, none⟩ = some u) → (setRow W g p vs).cell? ⟨g, p + t, none⟩ = some vs[t] := by
  intro vs
  induction vs with
  | nil => intro W p t ht; cases ht
  | cons v vs ih =>
    intro W p t ht hu
    cases t with
    | zero =>
      obtain ⟨u, hu⟩ := hu
      show (setRow (W.setCell ⟨g, p, none⟩ v) g (p + 1) vs).cell? ⟨g, p, none⟩ = some v
      rw [setRow_other g vs _ (p + 1) p (by omega)]
      exact World.cell?_setCell_same _ _ _ hu
    | succ t =>
      have e : p + (t + 1) = p + 1 + t := by omega
      rw [e] at hu ⊢
      refine ih _ (p + 1) t (by simpa using ht) ?_
      rw [World.cell?_setCell_other _ _ _ _ (by intro e2; simp at e2; try omega)]
      exact hu
theorem setRow_size (g : Nat) : ∀ (vs : List Value) (W : World) (p : Nat), (setRow W g p vs).heap.size = W.heap.size := by
  intro vs
  induction vs with
  | nil => intro W p; rfl
  | cons v vs ih => intro W p; rw [setRow, ih]; simp
theorem rowZ.put {w : World} {g N : Nat} (h : rowZ w g N) (vs : List Value) (p : Nat) (_hp : p + vs.length ≤ N) : rowZ (setRow w g p vs) g N := by
  refine ⟨fun t ht => ?_, fun t => by rw [setRow_frozen]; exact h.free t⟩
  by_cases h1 : t < p ∨ p + vs.length ≤ t
  · rw [setRow_other g vs w p t h1]; exact h.cell t ht
  · have e : t = p + (t - p) := by omega
    have := setRow_at g vs w p (t - p) (by omega) (by rw [← e]; exact h.cell t ht)
    rw [← e] at this
    exact ⟨_, this⟩
theorem rowZ.below {w w' : World} {g N : Nat} (h : rowZ w g N) (hb : Below w.heap.size w w') (hg : g < w.heap.size) : rowZ w' g N :=
  ⟨fun t ht => by obtain ⟨v, hv⟩ := h.cell t ht; exact ⟨v, (hb.cell (by exact hg)).trans hv⟩, fun t => (hb.frozen (by exact hg)).trans (h.free t)⟩
/-- what holds of the blocks from B on, whatever becomes of those below -/
def St (B : Nat) (w : World) (p : World → Prop) : Prop := ∀ W, (∀ k, B ≤ k → k < w.heap.size → W.heap[k]? = w.heap[k]?) → p W
theorem St.now {B : Nat} {w : World} {p : World → Prop} (h : St B w p) : p w := h w fun _ _ _ => rfl
theorem St.below {B : Nat} {w w' : World} {p : World → Prop} (h : St B w p) (hb : Below w.heap.size w w') : St B w' p := fun W hW => h W fun k h1 h2 => (hW k h1 (Nat.lt_of_lt_of_le h2 hb.size)).trans (hb.block k h2)
theorem St.set {B : Nat} {w : World} {p : World → Prop} (h : St B w p) (b j : Nat) (hb : b < B) (v : Value) : St B (w.setCell ⟨b, j, none⟩ v) p := fun W hW => h W fun k h1 h2 => (hW k h1 (by simpa using h2)).trans (heap_setCell_other w ⟨b, j, none⟩ k v (by show k ≠ b; omega))
theorem St.mono {B B' : Nat} {w : World} {p : World → Prop} (h : St B w p) (hB : B' ≤ B) : St B' w p := fun W hW => h W fun k h1 h2 => hW k (by omega) h2
theorem cell_up {W w : World} {g o : Nat} {v : Value} (h : w.cell? ⟨g, o, none⟩ = some v) (he : W.heap[g]? = w.heap[g]?) : W.cell? ⟨g, o, none⟩ = some v := by
  simp only [World.cell?, he] at h ⊢
  exact h
theorem rowZ.up {W w : World} {g N : Nat} (h : rowZ w g N) (he : W.heap[g]? = w.heap[g]?) : rowZ W g N :=
  ⟨fun t ht => by obtain ⟨v, hv⟩ := h.cell t ht; exact ⟨v, cell_up hv he⟩, fun t => by have := h.free t; simp only [World.frozen?, he] at this ⊢; exact this⟩
theorem setCells_row (g : Nat) : ∀ (vs : List Value) (w : World) (p : Nat), w.setCells g p vs = setRow w g p vs := by
  intro vs
  induction vs with
  | nil => intro w p; rfl
  | cons v vs ih => intro w p; exact ih _ (p + 1)
theorem rowZ.there {w : World} {g N : Nat} (h : rowZ w g N) (p n : Nat) (hp : p + n ≤ N) : w.there g p n := fun j hj => by
  obtain ⟨v, hv⟩ := h.cell (p + j) (by omega)
  exact ⟨by rw [hv]; rfl, h.free _⟩
theorem setCells_block (b : Nat) (t : TypeId) : ∀ (vs old pre post : List Value) (w : World), old.length = vs.length → w.heap[b]? = some (.cells (pre ++ old ++ post).toArray t (0, 0)) → (w.setCells b pre.length vs).heap[b]? = some (.cells (pre ++ vs ++ post).toArray t (0, 0)) := by
  intro vs
  induction vs with
  | nil =>
    intro old pre post w hl h
    have : old = [] := List.length_eq_zero_iff.1 hl
    subst this
    exact h
  | cons v vs ih =>
    intro old pre post w hl h
    match old, hl with
    | o :: old', hl =>
      have h1 := heap_setCell_same w b pre.length _ _ v h
      have e : (pre ++ o :: old' ++ post).toArray.setIfInBounds pre.length v = ((pre ++ [v]) ++ old' ++ post).toArray := by simp
      have h2 := ih old' (pre ++ [v]) post (w.setCell ⟨b, pre.length, none⟩ v) (by simpa using hl) (by rw [← e]; exact h1)
      rw [List.length_append, List.length_singleton] at h2
      rw [List.append_assoc pre [v] vs] at h2
      exact h2
theorem range_block {w : World} {b : Nat} {l : List Value} {t : TypeId} {fr : Nat × Nat} (h : w.heap[b]? = some (.cells l.toArray t fr)) : w.rangeAt b 0 l := fun j v hv => by
  simp [World.cell?, h, hv]
theorem there_block {w : World} {b : Nat} {l : List Value} {t : TypeId} (h : w.heap[b]? = some (.cells l.toArray t (0, 0))) (o n : Nat) (ho : o + n ≤ l.length) : w.there b o n := fun j hj => by
  refine ⟨?_, ?_⟩
  · have : o + j < l.length := by omega
    simp [World.cell?, h, this]
  · simp [World.frozen?, h]
theorem setCells_other (b k : Nat) (hk : k ≠ b) (vs : List Value) (w : World) (o : Nat) : (w.setCells b o vs).heap[k]? = w.heap[k]? := by
  rw [setCells_row]; exact setRow_block b k hk vs w o
theorem St.setCells {B : Nat} {w : World} {p : World → Prop} (h : St B w p) (b o : Nat) (hb : b < B) (vs : List Value) : St B (w.setCells b o vs) p := fun W hW => h W fun k h1 h2 => (hW k h1 (by rw [setCells_row, setRow_size]; exact h2)).trans (setCells_other b k (by omega) vs w o)
theorem lt_of_some {w : World} {g : Nat} {o : Obj} (hg : w.heap[g]? = some o) : g < w.heap.size := by
  rcases Nat.lt_or_ge g w.heap.size with h | h
  · exact h
  · rw [Array.getElem?_eq_none h] at hg; cases hg
/-- a row that the call made, as a slice of its own -/
theorem own_slice {w : World} {B n E sz : Nat} {v : Value} {xs : List Value} (ho : w.ownsRow B E sz v n xs) (hv : v ≠ .slice none 0 0) :
    ∃ g cap, v = .slice (some ⟨g, 0, none⟩) n cap ∧ B ≤ g ∧ g < w.heap.size ∧ n ≤ cap ∧ ∀ W : World, W.heap[g]? = w.heap[g]? → ∀ t, t < n * sz → W.cell? ⟨g, t, none⟩ = xs[t]? := by
  rcases ho.2 with ⟨e, _⟩ | ⟨g, cap, cur, hv', hb, hg, hcp, hmx, hsz, htk⟩
  · exact absurd e hv
  · refine ⟨g, cap, hv', hb, lt_of_some hg, hcp, fun W hW t ht => ?_⟩
    have hcur : cur[t]? = xs[t]? := by rw [← htk, List.getElem?_take_of_lt ht, Array.getElem?_toList]
    have e : W.heap[g]? = some (.cells cur E (0, 0)) := hW.trans hg
    rw [← hcur]
    simp [World.cell?, e]
theorem results_cell {fn : Func} {x : Tmp} {T : TypeId} (h : fn.results = #[.cell x T]) (tmps : Array Value) (w : World) (b : Nat) (V : Value) (h2 : tmps.getD x undef = .pointer (some ⟨b, 0, none⟩)) (hL : (loadVar T ⟨b, 0, none⟩).run Tryz.prog w = .ok V w) : (results fn tmps).run Tryz.prog w = .ok V w := by
  simp only [Array.getD_eq_getD_getElem?] at h2
  simp [results, h, h2, asAddr, hL]
theorem results_cell_tmp {fn : Func} {x y : Tmp} {T : TypeId} (h : fn.results = #[.cell x T, .tmp y]) (tmps : Array Value) (w : World) (b : Nat) (V : Value) (h2 : tmps.getD x undef = .pointer (some ⟨b, 0, none⟩)) (hL : (loadVar T ⟨b, 0, none⟩).run Tryz.prog w = .ok V w) : (results fn tmps).run Tryz.prog w = .ok (.tuple #[V, tmps.getD y undef]) w := by
  simp only [Array.getD_eq_getD_getElem?] at h2
  simp [results, h, h2, asAddr, hL]
/-- block b is a variable that holds the cells l -/
def blk (w : World) (b : Nat) (l : List Value) (T : TypeId) : Prop := w.heap[b]? = some (.cells l.toArray T (0, 0))
theorem blk.new (w : World) (l : List Value) (T : TypeId) : blk (w.alloc (.cells l.toArray T)) w.heap.size l T := heap_alloc_new w _
theorem blk.alloc {w : World} {b : Nat} {l : List Value} {T : TypeId} (h : blk w b l T) (o : Obj) : blk (w.alloc o) b l T := (Below.heap_alloc _ _ _ (lt_of_some h)).trans h
theorem blk.below {w w' : World} {b : Nat} {l : List Value} {T : TypeId} (h : blk w b l T) (hb : Below w.heap.size w w') : blk w' b l T := (hb.block _ (lt_of_some h)).trans h
theorem blk.lt {w : World} {b : Nat} {l : List Value} {T : TypeId} (h : blk w b l T) : b < w.heap.size := lt_of_some h
theorem blk.put {w : World} {b : Nat} {T : TypeId} (pre old post vs : List Value) (h : blk w b (pre ++ old ++ post) T) (hl : old.length = vs.length) : blk (w.setCells b pre.length vs) b (pre ++ vs ++ post) T := setCells_block b T vs old pre post w hl h
theorem blk.other {w : World} {b b' : Nat} {l : List Value} {T : TypeId} (h : blk w b l T) (hb : b ≠ b') (o : Nat) (vs : List Value) : blk (w.setCells b' o vs) b l T := (setCells_other b' b hb vs w o).trans h
theorem blk.load {w : World} {b : Nat} {l : List Value} {T : TypeId} (h : blk w b l T) : w.rangeAt b 0 l := range_block h
theorem blk.there {w : World} {b : Nat} {l : List Value} {T : TypeId} (h : blk w b l T) (o n : Nat) (ho : o + n ≤ l.length) : w.there b o n := there_block h o n ho
theorem blk.cell {w : World} {b : Nat} {l : List Value} {T : TypeId} (h : blk w b l T) (o : Nat) (v : Value) (ho : l[o]? = some v) : w.cell? ⟨b, o, none⟩ = some v := by
  have := range_block h o v ho
  simpa using this
theorem blk.free {w : World} {b : Nat} {l : List Value} {T : TypeId} (h : blk w b l T) (o : Nat) : w.frozen? ⟨b, o, none⟩ = false := by
  unfold World.frozen?
  rw [h]
  simp
theorem blk.kept {w w' : World} {b : Nat} {l : List Value} {T : TypeId} (h : blk w b l T) (he : w'.heap[b]? = w.heap[b]?) : blk w' b l T := he.trans h
theorem setCells_below {B b : Nat} (hB : B ≤ b) {w0 w : World} (o : Nat) (vs : List Value) (h : Below B w0 w) : Below B w0 (w.setCells b o vs) := by rw [setCells_row]; exact setRow_below b B hB w0 vs w o h
theorem sz29 : (Tryz.prog.info? 65).map (·.size) = some 5 := by kernel_rfl
theorem blk.loadAt {w : World} {b : Nat} (pre mid post : List Value) {T : TypeId} (h : blk w b (pre ++ mid ++ post) T) : w.rangeAt b pre.length mid := by
  intro j v hv
  have hj : j < mid.length := (List.getElem?_eq_some_iff.1 hv).1
  refine h.cell _ _ ?_
  rw [List.append_assoc, List.getElem?_append_right (by omega), Nat.add_sub_cancel_left, List.getElem?_append_left hj]
  exact hv
theorem blk.set {w : World} {b : Nat} {l : List Value} {T : TypeId} (h : blk w b l T) (o : Nat) (v : Value) : blk (w.setCell ⟨b, o, none⟩ v) b (l.set o v) T := by
  have := heap_setCell_same w b o _ _ v h
  simpa [blk] using this
theorem blk.setOther {w : World} {b b' : Nat} {l : List Value} {T : TypeId} (h : blk w b l T) (hb : b ≠ b') (o : Nat) (v : Value) : blk (w.setCell ⟨b', o, none⟩ v) b l T := h.other hb o [v]
/-- the blocks from B on that W has are the same in W' -/
structure Kp (B : Nat) (W W' : World) : Prop where
  same : ∀ b, B ≤ b → b < W.heap.size → W'.heap[b]? = W.heap[b]?
  size : W.heap.size ≤ W'.heap.size
theorem Kp.refl (B : Nat) (W : World) : Kp B W W := ⟨fun _ _ _ => rfl, Nat.le_refl _⟩
theorem Kp.below {B : Nat} {W W' W'' : World} (h : Kp B W W') (hb : Below W'.heap.size W' W'') : Kp B W W'' := ⟨fun b h1 h2 => (hb.block b (Nat.lt_of_lt_of_le h2 h.size)).trans (h.same b h1 h2), Nat.le_trans h.size hb.size⟩
theorem Kp.grown {B : Nat} {W W' W'' : World} {g : Nat} (h : Kp B W W') (hg : W'.grownBy W'' (some g)) (hw : W.heap.size ≤ g) : Kp B W W'' := ⟨fun b h1 h2 => (hg.block b (Nat.lt_of_lt_of_le h2 h.size) (by intro e; cases e; omega)).trans (h.same b h1 h2), Nat.le_trans h.size hg.size⟩
theorem Kp.set {B : Nat} {W W' : World} (h : Kp B W W') (b o : Nat) (hb : b < B) (v : Value) : Kp B W (W'.setCell ⟨b, o, none⟩ v) := ⟨fun k h1 h2 => (heap_setCell_other _ _ _ _ (by show k ≠ b; omega)).trans (h.same k h1 h2), by simpa using h.size⟩
end Go.Proofs.YtfbeaekddgpmmaaGreatDoor.Kd
