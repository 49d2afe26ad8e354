import Derived.Shelf.SlicesE.Clone
import Derived.Test.YtaamahohdnbpiaaGreatB02
namespace Go.Proofs.YtaamahohdnbpiaaGreat
open Go.Shelf Go.RowKit
def Tryz.laysE41_ren : Go.Shelf.Ren := ⟨fun | 41 => 55 | n => n, fun | 22 => 30 | 23 => 85 | n => n, fun | n => n⟩
theorem Tryz.laysE41 : Go.Proofs.SlLaysE0.n41 Tryz.prog Tryz.laysE41_ren := {
  mixed := by kernel_rfl
  f41 := ⟨Tryz.f55.name, by kernel_rfl, Tryz.func55.trans (congrArg some (by kernel_rfl))⟩
  t4 := Tryz.underlying4
  a4 := Tryz.isAgg4
  z4 := Tryz.sizeOf4
  v4 := Tryz.zeroValue4
  t22 := Tryz.underlying30
  a22 := Tryz.isAgg30
  z22 := Tryz.sizeOf30
  v22 := Tryz.zeroValue30 }
/-- the cells of a row of filters -/
def c3 (bs : List R3) : List Value := bs.flatMap fun b => [.bool b.e, .int .u32 b.m, .int .u32 b.k]
theorem c3_len (bs : List R3) : (c3 bs).length = bs.length * 3 := by
  induction bs with
  | nil => rfl
  | cons b bs ih => simp only [c3, List.flatMap_cons, List.length_append, List.length_cons, List.length_nil] at ih ⊢; omega
theorem c3_at (bs : List R3) : ∀ j (h : j < bs.length), (c3 bs)[j * 3]? = some (.bool bs[j].e) ∧ (c3 bs)[j * 3 + 1]? = some (.int .u32 bs[j].m) ∧ (c3 bs)[j * 3 + 2]? = some (.int .u32 bs[j].k) := by
  induction bs with
  | nil => intro j h; exact absurd h (Nat.not_lt_zero _)
  | cons b bs ih =>
    intro j h
    cases j with
    | zero => exact ⟨rfl, rfl, rfl⟩
    | succ j =>
      have := ih j (by simpa using h)
      have e : ∀ t, (c3 (b :: bs))[(t + 3)]? = (c3 bs)[t]? := fun t => by simp [c3, List.flatMap_cons]
      have e0 : (j + 1) * 3 = j * 3 + 3 := by omega
      have e1 : (j + 1) * 3 + 1 = (j * 3 + 1) + 3 := by omega
      have e2 : (j + 1) * 3 + 2 = (j * 3 + 2) + 3 := by omega
      rw [e0, e, show j * 3 + 3 + 1 = (j * 3 + 1) + 3 by omega, e, show j * 3 + 3 + 2 = (j * 3 + 2) + 3 by omega, e]
      exact this
theorem c3_cell {w : World} {g n cap : Nat} {bs : List R3} (h : isR3s w (some ⟨g, 0, none⟩) n cap bs) (t : Nat) (u : Value) (hu : (c3 bs)[t]? = some u) : w.cell? ⟨g, 0 + t, none⟩ = some u := by
  have ht : t < bs.length * 3 := by
    have := (List.getElem?_eq_some_iff.mp hu).1
    rwa [c3_len] at this
  have hj : t / 3 < bs.length := by omega
  have hne : bs ≠ [] := by intro e; subst e; simp at hj
  obtain ⟨g', off, ha, hc⟩ := h.cells hne
  cases ha
  have x := hc (t / 3) hj
  obtain ⟨y0, y1, y2⟩ := c3_at bs (t / 3) hj
  have hr : t % 3 = 0 ∨ t % 3 = 1 ∨ t % 3 = 2 := by omega
  rcases hr with r | r | r
  · have e : t = t / 3 * 3 := by omega
    rw [← e] at y0
    have := x.c0
    rw [← e] at this
    rw [this, ← y0, hu]
  · have e : t = t / 3 * 3 + 1 := by omega
    rw [← e] at y1
    have := x.c1
    rw [Nat.add_assoc, ← e] at this
    rw [this, ← y1, hu]
  · have e : t = t / 3 * 3 + 2 := by omega
    rw [← e] at y2
    have := x.c2
    rw [Nat.add_assoc, ← e] at this
    rw [this, ← y2, hu]
theorem c3_one (bs : List R3) : ∀ u ∈ c3 bs, u.oneCell' = true := by
  intro u hu
  simp only [c3, List.mem_flatMap, List.mem_cons, List.not_mem_nil, or_false] at hu
  obtain ⟨b, _, rfl | rfl | rfl⟩ := hu <;> rfl
theorem clone_any (w : World) (g n cap : Nat) (bs : List R3) (h : isR3s w (some ⟨g, 0, none⟩) n cap bs) (hn : n ≤ 1048576) :
    Calls Tryz.prog 55 #[.slice (some ⟨g, 0, none⟩) n cap] w fun e w' => ∃ v', e = .returned v' ∧ w'.ownsRow w.heap.size 85 3 v' n (c3 bs) ∧ v' ≠ .slice none 0 0 ∧ Below w.heap.size w w' := by
  obtain ⟨i0, hi, hz0, hz1, hz2⟩ := info_parts Tryz.info85
  exact AnyE.slices_Clone Tryz.laysE41 i0 _ 3 12 hi hz0 hz1 hz2 rfl (by omega) Tryz.sizeOf85 g 0 n cap (c3 bs) w (by rw [c3_len, h.len]) (by unfold maxLen; omega) (by omega) (fun j u hj => c3_cell h j u hj) (c3_one bs)
end Go.Proofs.YtaamahohdnbpiaaGreat
namespace Go.Proofs.YtaamahohdnbpiaaGreat
open Go.RowKit
/-- the cells of a box without data that the marks from C on make -/
def m8 (C : Int) : List Value := [.int .i64 C, .int .i64 (C + 1), .int .i64 (C + 1 + 1), .bool (C % 3 == 0), .int .u32 (C + 1 + 1 + 1 + 1), .bool ((C + 5) % 3 == 0), .int .i64 (C + 1 + 1 + 1 + 1 + 1 + 1)]
structure atM (w : World) (g o : Nat) (C : Int) : Prop where
  row : ∀ t (h : t < 7), w.cell? ⟨g, o + t, none⟩ = some ((m8 C)[t]'(by simpa [m8] using h))
  dat : w.cell? ⟨g, o + 7, none⟩ = some (.slice none 0 0)
theorem atM.new {w : World} {g M : Nat} (h : rowZ w g M) (p : Nat) (hp : p + 8 ≤ M) (C : Int) (hd : w.cell? ⟨g, p + 7, none⟩ = some (.slice none 0 0)) : atM (setRow w g p (m8 C)) g p C :=
  ⟨fun t ht => setRow_at g (m8 C) w p t (by simpa [m8] using ht) (h.cell (p + t) (by omega)), (setRow_other g (m8 C) w p (p + 7) (by simp [m8])).trans hd⟩
theorem atM.keep {w : World} {g o : Nat} {C : Int} (h : atM w g o C) (vs : List Value) (p : Nat) (hp : o + 8 ≤ p ∨ p + vs.length ≤ o) : atM (setRow w g p vs) g o C :=
  ⟨fun t ht => (setRow_other g vs w p (o + t) (by omega)).trans (h.row t ht), (setRow_other g vs w p (o + 7) (by omega)).trans h.dat⟩
end Go.Proofs.YtaamahohdnbpiaaGreat
namespace Go.Proofs.YtaamahohdnbpiaaGreat
open Go.RowKit
theorem rowZ.up {W w : World} {g N : Nat} (h : rowZ w g N) (he : W.heap[g]? = w.heap[g]?) : rowZ W g N :=
  ⟨fun t ht => by obtain ⟨v, hv⟩ := h.cell t ht; exact ⟨v, cell_up hv he⟩, fun t => by have := h.free t; simp only [World.frozen?, he] at this ⊢; exact this⟩
theorem atM.up {W w : World} {g o : Nat} {C : Int} (h : atM w g o C) (he : W.heap[g]? = w.heap[g]?) : atM W g o C := ⟨fun t ht => cell_up (h.row t ht) he, cell_up h.dat he⟩
theorem cell_same {W w : World} {g : Nat} (he : W.heap[g]? = w.heap[g]?) (o : Nat) : W.cell? ⟨g, o, none⟩ = w.cell? ⟨g, o, none⟩ := by simp only [World.cell?, he]
end Go.Proofs.YtaamahohdnbpiaaGreat
namespace Go.Proofs.YtaamahohdnbpiaaGreat
open Go.RowKit
/-- the empty box -/
def bx0 : R8 := ⟨0, 0, 0, false, 0, false, 0, []⟩
end Go.Proofs.YtaamahohdnbpiaaGreat
namespace Go.Proofs.YtaamahohdnbpiaaGreat
open Go.RowKit
theorem setCells_block (b : Nat) (t : TypeId) : ∀ (vs old pre post : List Value) (w : World), old.length = vs.length → w.heap[b]? = some (.cells (pre ++ old ++ post).toArray t (0, 0)) → (w.setCells b pre.length vs).heap[b]? = some (.cells (pre ++ vs ++ post).toArray t (0, 0)) := by
  intro vs
  induction vs with
  | nil =>
    intro old pre post w hl h
    have : old = [] := List.length_eq_zero_iff.1 hl
    subst this
    exact h
  | cons v vs ih =>
    intro old pre post w hl h
    match old, hl with
    | o :: old', hl =>
      have h1 := heap_setCell_same w b pre.length _ _ v h
      have e : (pre ++ o :: old' ++ post).toArray.setIfInBounds pre.length v = ((pre ++ [v]) ++ old' ++ post).toArray := by simp
      have h2 := ih old' (pre ++ [v]) post (w.setCell ⟨b, pre.length, none⟩ v) (by simpa using hl) (by rw [← e]; exact h1)
      rw [List.length_append, List.length_singleton] at h2
      rw [List.append_assoc pre [v] vs] at h2
      exact h2
theorem range_block {w : World} {b : Nat} {l : List Value} {t : TypeId} {fr : Nat × Nat} (h : w.heap[b]? = some (.cells l.toArray t fr)) : w.rangeAt b 0 l := fun j v hv => by
  simp [World.cell?, h, hv]
theorem there_block {w : World} {b : Nat} {l : List Value} {t : TypeId} (h : w.heap[b]? = some (.cells l.toArray t (0, 0))) (o n : Nat) (ho : o + n ≤ l.length) : w.there b o n := fun j hj => by
  refine ⟨?_, ?_⟩
  · have : o + j < l.length := by omega
    simp [World.cell?, h, this]
  · simp [World.frozen?, h]
theorem setCells_other (b k : Nat) (hk : k ≠ b) (vs : List Value) (w : World) (o : Nat) : (w.setCells b o vs).heap[k]? = w.heap[k]? := by
  rw [setCells_row]; exact setRow_block b k hk vs w o
theorem St.setCells {B : Nat} {w : World} {p : World → Prop} (h : St B w p) (b o : Nat) (hb : b < B) (vs : List Value) : St B (w.setCells b o vs) p := fun W hW => h W fun k h1 h2 => (hW k h1 (by rw [setCells_row, setRow_size]; exact h2)).trans (setCells_other b k (by omega) vs w o)
theorem sz41 : (Tryz.prog.info? 35).map (·.size) = some 10 := by kernel_rfl
end Go.Proofs.YtaamahohdnbpiaaGreat
namespace Go.Proofs.YtaamahohdnbpiaaGreat
open Go.RowKit
/-- what stays true in impl.NewHost's last statement -/
structure nhS (w : World) (m b c d : Int) (W : World) : Prop where
  p : W.heap[w.heap.size]? = some (.cells [.int .i64 m, .int .i64 b, .int .i64 c, .int .i64 d].toArray 29)
  r : rowZ W (w.heap.size + 1) 10
  b : Below w.heap.size w W
  z : w.heap.size + 2 ≤ W.heap.size
theorem nhS.below {w : World} {m b c d : Int} {W W' : World} (h : nhS w m b c d W) (hb : Below W.heap.size W W') : nhS w m b c d W' :=
  ⟨(hb.block _ (by have := h.z; omega)).trans h.p, h.r.below hb (by have := h.z; omega), h.b.trans (hb.mono h.b.size), Nat.le_trans h.z hb.size⟩
theorem nhS.put {w : World} {m b c d : Int} {W : World} (h : nhS w m b c d W) (vs : List Value) (hv : vs.length = 10) : nhS w m b c d (setRow W (w.heap.size + 1) 0 vs) :=
  ⟨(setRow_block _ _ (by omega) vs W 0).trans h.p, h.r.put vs 0 (by omega), setRow_below _ _ (by omega) w vs W 0 h.b, by rw [setRow_size]; exact h.z⟩
theorem nhS.cell {w : World} {m b c d : Int} {W : World} (h : nhS w m b c d W) : W.cell? ⟨w.heap.size, 0, none⟩ = some (.int .i64 m) := by
  have := range_block h.p 0 (.int .i64 m) rfl
  simpa using this
theorem sz35 : (Tryz.prog.info? 29).map (·.size) = some 4 := by kernel_rfl
/-- what impl.NewHost leaves -/
structure nhOut (w w' : World) (g1 n k1 g2 m : Nat) (bs : List R3) : Prop where
  ne : g1 ≠ g2
  l1 : w.heap.size ≤ g1
  u1 : g1 < w'.heap.size
  l2 : w.heap.size ≤ g2
  u2 : g2 < w'.heap.size
  c1 : n ≤ k1
  z1 : rowZ w' g1 (n * 3)
  z2 : rowZ w' g2 (m * 8)
  s1 : St (w.heap.size + 2) w' (fun V => isR3s V (some ⟨g1, 0, none⟩) n k1 bs)
  a2 : ∀ j, j < m → at8 w' g2 (j * 8) bx0 none 0 0
theorem at8.upN {W w : World} {g o : Nat} (h : at8 w g o bx0 none 0 0) (he : W.heap[g]? = w.heap[g]?) : at8 W g o bx0 none 0 0 :=
  ⟨cell_up h.c0 he, cell_up h.c1 he, cell_up h.c2 he, cell_up h.c3 he, cell_up h.c4 he, cell_up h.c5 he, cell_up h.c6 he, cell_up h.cs he, ⟨rfl, Nat.le_refl _, fun _ hx => (by cases hx), fun hne => absurd rfl hne⟩⟩
theorem nhOut.put {w W : World} {g1 n k1 g2 m : Nat} {bs : List R3} (h : nhOut w W g1 n k1 g2 m bs) (h1 : w.heap.size + 2 ≤ g1) (h2 : w.heap.size + 2 ≤ g2) (vs : List Value) : nhOut w (setRow W (w.heap.size + 1) 0 vs) g1 n k1 g2 m bs := by
  have e1 := setRow_block (w.heap.size + 1) g1 (by omega) vs W 0
  have e2 := setRow_block (w.heap.size + 1) g2 (by omega) vs W 0
  refine ⟨h.ne, h.l1, by rw [setRow_size]; exact h.u1, h.l2, by rw [setRow_size]; exact h.u2, h.c1, h.z1.up e1, h.z2.up e2, ?_, fun j hj => (h.a2 j hj).upN e2⟩
  rw [← setCells_row]
  exact h.s1.setCells _ _ (by omega) vs
end Go.Proofs.YtaamahohdnbpiaaGreat
namespace Go.Proofs.YtaamahohdnbpiaaGreat
open Go.RowKit
theorem lt_of_some {w : World} {g : Nat} {o : Obj} (hg : w.heap[g]? = some o) : g < w.heap.size := by
  rcases Nat.lt_or_ge g w.heap.size with h | h
  · exact h
  · rw [Array.getElem?_eq_none h] at hg; cases hg
/-- a row that the call made, as a slice of its own -/
theorem own_slice {w : World} {B n E sz : Nat} {v : Value} {xs : List Value} (ho : w.ownsRow B E sz v n xs) (hv : v ≠ .slice none 0 0) :
    ∃ g cap, v = .slice (some ⟨g, 0, none⟩) n cap ∧ B ≤ g ∧ g < w.heap.size ∧ n ≤ cap ∧ ∀ W : World, W.heap[g]? = w.heap[g]? → ∀ t, t < n * sz → W.cell? ⟨g, t, none⟩ = xs[t]? := by
  rcases ho.2 with ⟨e, _⟩ | ⟨g, cap, cur, hv', hb, hg, hcp, hmx, hsz, htk⟩
  · exact absurd e hv
  · refine ⟨g, cap, hv', hb, lt_of_some hg, hcp, fun W hW t ht => ?_⟩
    have hcur : cur[t]? = xs[t]? := by rw [← htk, List.getElem?_take_of_lt ht, Array.getElem?_toList]
    have e : W.heap[g]? = some (.cells cur E (0, 0)) := hW.trans hg
    rw [← hcur]
    simp [World.cell?, e]
end Go.Proofs.YtaamahohdnbpiaaGreat
namespace Go.Proofs.YtaamahohdnbpiaaGreat
open Go.RowKit
theorem results_cell {fn : Func} {x : Tmp} {T : TypeId} (h : fn.results = #[.cell x T]) (tmps : Array Value) (w : World) (b : Nat) (V : Value) (h2 : tmps.getD x undef = .pointer (some ⟨b, 0, none⟩)) (hL : (loadVar T ⟨b, 0, none⟩).run Tryz.prog w = .ok V w) : (results fn tmps).run Tryz.prog w = .ok V w := by
  simp only [Array.getD_eq_getD_getElem?] at h2
  simp [results, h, h2, asAddr, hL]
/-- block b is a variable that holds the cells l -/
def blk (w : World) (b : Nat) (l : List Value) (T : TypeId) : Prop := w.heap[b]? = some (.cells l.toArray T (0, 0))
theorem blk.new (w : World) (l : List Value) (T : TypeId) : blk (w.alloc (.cells l.toArray T)) w.heap.size l T := heap_alloc_new w _
theorem blk.alloc {w : World} {b : Nat} {l : List Value} {T : TypeId} (h : blk w b l T) (o : Obj) : blk (w.alloc o) b l T := (Below.heap_alloc _ _ _ (lt_of_some h)).trans h
theorem blk.below {w w' : World} {b : Nat} {l : List Value} {T : TypeId} (h : blk w b l T) (hb : Below w.heap.size w w') : blk w' b l T := (hb.block _ (lt_of_some h)).trans h
theorem blk.lt {w : World} {b : Nat} {l : List Value} {T : TypeId} (h : blk w b l T) : b < w.heap.size := lt_of_some h
theorem blk.put {w : World} {b : Nat} {T : TypeId} (pre old post vs : List Value) (h : blk w b (pre ++ old ++ post) T) (hl : old.length = vs.length) : blk (w.setCells b pre.length vs) b (pre ++ vs ++ post) T := setCells_block b T vs old pre post w hl h
theorem blk.other {w : World} {b b' : Nat} {l : List Value} {T : TypeId} (h : blk w b l T) (hb : b ≠ b') (o : Nat) (vs : List Value) : blk (w.setCells b' o vs) b l T := (setCells_other b' b hb vs w o).trans h
theorem blk.load {w : World} {b : Nat} {l : List Value} {T : TypeId} (h : blk w b l T) : w.rangeAt b 0 l := range_block h
theorem blk.there {w : World} {b : Nat} {l : List Value} {T : TypeId} (h : blk w b l T) (o n : Nat) (ho : o + n ≤ l.length) : w.there b o n := there_block h o n ho
theorem blk.cell {w : World} {b : Nat} {l : List Value} {T : TypeId} (h : blk w b l T) (o : Nat) (v : Value) (ho : l[o]? = some v) : w.cell? ⟨b, o, none⟩ = some v := by
  have := range_block h o v ho
  simpa using this
theorem blk.free {w : World} {b : Nat} {l : List Value} {T : TypeId} (h : blk w b l T) (o : Nat) : w.frozen? ⟨b, o, none⟩ = false := by
  unfold World.frozen?
  rw [h]
  simp
theorem blk.kept {w w' : World} {b : Nat} {l : List Value} {T : TypeId} (h : blk w b l T) (he : w'.heap[b]? = w.heap[b]?) : blk w' b l T := he.trans h
theorem setCells_size (w : World) (b o : Nat) (vs : List Value) : (w.setCells b o vs).heap.size = w.heap.size := by rw [setCells_row, setRow_size]
theorem setCells_below {B b : Nat} (hB : B ≤ b) {w0 w : World} (o : Nat) (vs : List Value) (h : Below B w0 w) : Below B w0 (w.setCells b o vs) := by rw [setCells_row]; exact setRow_below b B hB w0 vs w o h
theorem sz93 : (Tryz.prog.info? 25).map (·.size) = some 5 := by kernel_rfl
theorem one5 (e : Bool) (i : Int) (r : Bool) (d : Int) (a : Option Addr) (n c : Nat) : (#[.bool e, .int .u32 i, .bool r, .int .i64 d, .slice a n c] : Array Value).all (·.oneCell') = true :=
  all_oneCell_toArray (by simp [Value.oneCell'])
end Go.Proofs.YtaamahohdnbpiaaGreat
namespace Go.Proofs.YtaamahohdnbpiaaGreat
open Go.RowKit
/-- how a record lies in a row: its cells, and the bytes that it points to -/
structure Rc (α : Type) where
  enc : α → List Value
  ld : α → List Nat
  gd : α → Nat
  kd : α → Nat
theorem flat_at {α : Type} (f : α → List Value) (sz : Nat) (hf : ∀ p, (f p).length = sz) : ∀ (rs : List α) (j : Nat) (h : j < rs.length) (t : Nat), t < sz → (rs.flatMap f)[j * sz + t]? = (f rs[j])[t]? := by
  intro rs
  induction rs with
  | nil => intro j h; exact absurd h (Nat.not_lt_zero _)
  | cons p rs ih =>
    intro j h t ht
    rw [List.flatMap_cons]
    cases j with
    | zero => rw [Nat.zero_mul, Nat.zero_add, List.getElem?_append_left (by rw [hf]; exact ht)]; rfl
    | succ j =>
      rw [List.getElem?_append_right (by rw [hf, Nat.succ_mul]; omega), hf, show (j + 1) * sz + t - sz = j * sz + t by rw [Nat.succ_mul]; omega, ih j (by simpa using h) t ht]
      rfl
structure ownG {α : Type} (F : Rc α) (w : World) (B E sz g k : Nat) (rs : List α) : Prop where
  own : w.ownsRow B E sz (.slice (some ⟨g, 0, none⟩) rs.length k) rs.length (rs.flatMap F.enc)
  dat : ∀ p ∈ rs, isBytes w (some ⟨F.gd p, 0, none⟩) (F.ld p).length (F.kd p) (F.ld p) ∧ B ≤ F.gd p ∧ F.gd p ≠ g ∧ F.gd p < w.heap.size
theorem ownsRow_kept {w w' : World} {B E sz g n k : Nat} {xs : List Value} (h : w.ownsRow B E sz (.slice (some ⟨g, 0, none⟩) n k) n xs) (he : w'.heap[g]? = w.heap[g]?) : w'.ownsRow B E sz (.slice (some ⟨g, 0, none⟩) n k) n xs := by
  refine ⟨h.1, ?_⟩
  rcases h.2 with ⟨e, _⟩ | ⟨g1, cap, cur, hv', hb, hg, hcp, hmx, hsz, htk⟩
  · cases e
  · have e1 : g1 = g := by cases hv'; rfl
    subst e1
    exact .inr ⟨g1, cap, cur, hv', hb, he.trans hg, hcp, hmx, hsz, htk⟩
theorem ownG.lt {α : Type} {F : Rc α} {w : World} {B E sz g k : Nat} {rs : List α} (h : ownG F w B E sz g k rs) : B ≤ g ∧ g < w.heap.size := World.ownsRow.lt h.own g rfl
theorem ownG.kept {α : Type} {F : Rc α} {w w' : World} {B E sz g k : Nat} {rs : List α} (h : ownG F w B E sz g k rs) (he : ∀ b, B ≤ b → b < w.heap.size → w'.heap[b]? = w.heap[b]?) (hz : w.heap.size ≤ w'.heap.size) : ownG F w' B E sz g k rs := by
  have hl := h.lt
  refine ⟨ownsRow_kept h.own (he g hl.1 hl.2), fun p hp => ?_⟩
  obtain ⟨h1, h2, h3, h4⟩ := h.dat p hp
  exact ⟨h1.other (he _ h2 h4), h2, h3, Nat.lt_of_lt_of_le h4 hz⟩
theorem ownG.below {α : Type} {F : Rc α} {w w' : World} {B E sz g k : Nat} {rs : List α} (h : ownG F w B E sz g k rs) (hb : Below w.heap.size w w') : ownG F w' B E sz g k rs := h.kept (fun b _ h2 => hb.block b h2) hb.size
theorem ownG.alloc {α : Type} {F : Rc α} {w : World} {B E sz g k : Nat} {rs : List α} (h : ownG F w B E sz g k rs) (o : Obj) : ownG F (w.alloc o) B E sz g k rs := h.kept (fun b _ h2 => Below.heap_alloc _ _ _ h2) (by simp)
theorem ownG.set {α : Type} {F : Rc α} {w : World} {B E sz g k : Nat} {rs : List α} (h : ownG F w B E sz g k rs) (b o : Nat) (hb : b < B) (vs : List Value) : ownG F (w.setCells b o vs) B E sz g k rs := h.kept (fun k hk _ => setCells_other b k (by omega) vs w o) (by rw [setCells_size]; exact Nat.le_refl _)
theorem ownG.nil {α : Type} (F : Rc α) (w : World) (B E sz : Nat) (hB : B ≤ w.heap.size) : ownG F (w.alloc (.cells #[] E)) B E sz w.heap.size 0 [] :=
  ⟨World.ownsRow_made w #[] 0 hB (by decide) (by simp), fun p hp => by cases hp⟩
def rc5 : Rc (R5 × Nat × Nat) := ⟨fun p => [.bool p.1.e, .int .u32 (p.1.i : Int), .bool p.1.r, .int .i64 p.1.d, .slice (some ⟨p.2.1, 0, none⟩) p.1.l.length p.2.2], fun p => p.1.l, fun p => p.2.1, fun p => p.2.2⟩
theorem ownG.r5 {w : World} {B E g k : Nat} {rs : List (R5 × Nat × Nat)} (h : ownG rc5 w B E 5 g k rs) : St B w (fun W => isR5s W (some ⟨g, 0, none⟩) rs.length k (rs.map (·.1))) := by
  intro W hW
  have hl := h.lt
  obtain ⟨g1, c1, e1, q1, q2, q3, q4⟩ := own_slice h.own (by intro e; cases e)
  cases e1
  refine ⟨by simp, q3, fun _ => ⟨g, 0, rfl, fun j hj => ?_⟩⟩
  have hj' : j < rs.length := by simpa using hj
  obtain ⟨d1, d2, d3, d4⟩ := h.dat rs[j] (List.getElem_mem hj')
  have hc : ∀ t, t < 5 → W.cell? ⟨g, j * 5 + t, none⟩ = (rc5.enc rs[j])[t]? := fun t ht => by
    rw [q4 W (hW g hl.1 hl.2) (j * 5 + t) (by omega), flat_at rc5.enc 5 (fun _ => rfl) rs j hj' t ht]
  rw [Nat.zero_add, List.getElem_map]
  exact ⟨_, _, _, hc 0 (by omega), hc 1 (by omega), hc 2 (by omega), hc 3 (by omega), hc 4 (by omega), d1.other (hW _ d2 d4)⟩
end Go.Proofs.YtaamahohdnbpiaaGreat
namespace Go.Proofs.YtaamahohdnbpiaaGreat
open Go.RowKit
theorem at8.range {w : World} {g o : Nat} {b : R8} {ao : Option Addr} {m c : Nat} (h : at8 w g o b ao m c) : w.rangeAt g o [.int .i64 b.x, .int .i64 b.y, .int .i64 b.z, .bool b.e, .int .u32 (b.i : Int), .bool b.r, .int .i64 b.d, .slice ao m c] := by
  intro j v hv
  match j, hv with
  | 0, hv => cases hv; exact h.c0
  | 1, hv => cases hv; exact h.c1
  | 2, hv => cases hv; exact h.c2
  | 3, hv => cases hv; exact h.c3
  | 4, hv => cases hv; exact h.c4
  | 5, hv => cases hv; exact h.c5
  | 6, hv => cases hv; exact h.c6
  | 7, hv => cases hv; exact h.cs
theorem at5.range {w : World} {g o : Nat} {b : R5} {ao : Option Addr} {m c : Nat} (h : at5 w g o b ao m c) : w.rangeAt g o [.bool b.e, .int .u32 (b.i : Int), .bool b.r, .int .i64 b.d, .slice ao m c] := by
  intro j v hv
  match j, hv with
  | 0, hv => cases hv; exact h.c0
  | 1, hv => cases hv; exact h.c1
  | 2, hv => cases hv; exact h.c2
  | 3, hv => cases hv; exact h.c3
  | 4, hv => cases hv; exact h.cs
theorem at3.range {w : World} {g o : Nat} {b : R3} (h : at3 w g o b) : w.rangeAt g o [.bool b.e, .int .u32 b.m, .int .u32 b.k] := by
  intro j v hv
  match j, hv with
  | 0, hv => cases hv; exact h.c0
  | 1, hv => cases hv; exact h.c1
  | 2, hv => cases hv; exact h.c2
theorem blk.loadAt {w : World} {b : Nat} (pre mid post : List Value) {T : TypeId} (h : blk w b (pre ++ mid ++ post) T) : w.rangeAt b pre.length mid := by
  intro j v hv
  have hj : j < mid.length := (List.getElem?_eq_some_iff.1 hv).1
  refine h.cell _ _ ?_
  rw [List.append_assoc, List.getElem?_append_right (by omega), Nat.add_sub_cancel_left, List.getElem?_append_left hj]
  exact hv
end Go.Proofs.YtaamahohdnbpiaaGreat
