import Derived.Test.YtihndnclplkleaaKB
namespace Go.Proofs.Ytihndnclplkleaa
open Go.RowKit
/-- how a record lies in a row: its cells, and the bytes that it points to -/
structure Rc (α : Type) where
  enc : α → List Value
  ld : α → List Nat
  gd : α → Nat
  kd : α → Nat
theorem flat_len {α : Type} (f : α → List Value) (sz : Nat) (hf : ∀ p, (f p).length = sz) (rs : List α) : (rs.flatMap f).length = rs.length * sz := by
  induction rs with
  | nil => simp
  | cons p rs ih => rw [List.flatMap_cons, List.length_append, ih, hf, List.length_cons, Nat.succ_mul, Nat.add_comm]
theorem flat_at {α : Type} (f : α → List Value) (sz : Nat) (hf : ∀ p, (f p).length = sz) : ∀ (rs : List α) (j : Nat) (h : j < rs.length) (t : Nat), t < sz → (rs.flatMap f)[j * sz + t]? = (f rs[j])[t]? := by
  intro rs
  induction rs with
  | nil => intro j h; exact absurd h (Nat.not_lt_zero _)
  | cons p rs ih =>
    intro j h t ht
    rw [List.flatMap_cons]
    cases j with
    | zero => rw [Nat.zero_mul, Nat.zero_add, List.getElem?_append_left (by rw [hf]; exact ht)]; rfl
    | succ j =>
      rw [List.getElem?_append_right (by rw [hf, Nat.succ_mul]; omega), hf, show (j + 1) * sz + t - sz = j * sz + t by rw [Nat.succ_mul]; omega, ih j (by simpa using h) t ht]
      rfl
structure ownG {α : Type} (F : Rc α) (w : World) (B E sz g k : Nat) (rs : List α) : Prop where
  own : w.ownsRow B E sz (.slice (some ⟨g, 0, none⟩) rs.length k) rs.length (rs.flatMap F.enc)
  dat : ∀ p ∈ rs, isBytes w (some ⟨F.gd p, 0, none⟩) (F.ld p).length (F.kd p) (F.ld p) ∧ B ≤ F.gd p ∧ F.gd p ≠ g ∧ F.gd p < w.heap.size
theorem ownsRow_kept {w w' : World} {B E sz g n k : Nat} {xs : List Value} (h : w.ownsRow B E sz (.slice (some ⟨g, 0, none⟩) n k) n xs) (he : w'.heap[g]? = w.heap[g]?) : w'.ownsRow B E sz (.slice (some ⟨g, 0, none⟩) n k) n xs := by
  refine ⟨h.1, ?_⟩
  rcases h.2 with ⟨e, _⟩ | ⟨g1, cap, cur, hv', hb, hg, hcp, hmx, hsz, htk⟩
  · cases e
  · have e1 : g1 = g := by cases hv'; rfl
    subst e1
    exact .inr ⟨g1, cap, cur, hv', hb, he.trans hg, hcp, hmx, hsz, htk⟩
theorem ownG.lt {α : Type} {F : Rc α} {w : World} {B E sz g k : Nat} {rs : List α} (h : ownG F w B E sz g k rs) : B ≤ g ∧ g < w.heap.size := World.ownsRow.lt h.own g rfl
theorem ownG.kept {α : Type} {F : Rc α} {w w' : World} {B E sz g k : Nat} {rs : List α} (h : ownG F w B E sz g k rs) (he : ∀ b, B ≤ b → b < w.heap.size → w'.heap[b]? = w.heap[b]?) (hz : w.heap.size ≤ w'.heap.size) : ownG F w' B E sz g k rs := by
  have hl := h.lt
  refine ⟨ownsRow_kept h.own (he g hl.1 hl.2), fun p hp => ?_⟩
  obtain ⟨h1, h2, h3, h4⟩ := h.dat p hp
  exact ⟨h1.other (he _ h2 h4), h2, h3, Nat.lt_of_lt_of_le h4 hz⟩
theorem ownG.below {α : Type} {F : Rc α} {w w' : World} {B E sz g k : Nat} {rs : List α} (h : ownG F w B E sz g k rs) (hb : Below w.heap.size w w') : ownG F w' B E sz g k rs := h.kept (fun b _ h2 => hb.block b h2) hb.size
theorem ownG.alloc {α : Type} {F : Rc α} {w : World} {B E sz g k : Nat} {rs : List α} (h : ownG F w B E sz g k rs) (o : Obj) : ownG F (w.alloc o) B E sz g k rs := h.kept (fun b _ h2 => Below.heap_alloc _ _ _ h2) (by simp)
theorem ownG.set {α : Type} {F : Rc α} {w : World} {B E sz g k : Nat} {rs : List α} (h : ownG F w B E sz g k rs) (b o : Nat) (hb : b < B) (vs : List Value) : ownG F (w.setCells b o vs) B E sz g k rs := h.kept (fun k hk _ => setCells_other b k (by omega) vs w o) (by rw [setCells_size]; exact Nat.le_refl _)
theorem ownG.nil {α : Type} (F : Rc α) (w : World) (B E sz : Nat) (hB : B ≤ w.heap.size) : ownG F (w.alloc (.cells #[] E)) B E sz w.heap.size 0 [] :=
  ⟨World.ownsRow_made w #[] 0 hB (by decide) (by simp), fun p hp => by cases hp⟩
theorem ownG.snoc {α : Type} {F : Rc α} {w w' : World} {B E sz g k g' k' : Nat} {rs : List α} (h : ownG F w B E sz g k rs) (p : α) (hd : isBytes w (some ⟨F.gd p, 0, none⟩) (F.ld p).length (F.kd p) (F.ld p)) (h1 : B ≤ F.gd p) (h2 : F.gd p ≠ g) (h3 : F.gd p < w.heap.size)
    (ho : w'.ownsRow B E sz (.slice (some ⟨g', 0, none⟩) (rs.length + 1) k') (rs.length + 1) (rs.flatMap F.enc ++ F.enc p)) (hg : w.grownBy w' (some g)) (hg' : g' = g ∨ g' = w.heap.size) : ownG F w' B E sz g' k' (rs ++ [p]) := by
  refine ⟨?_, fun q hq => ?_⟩
  · have e1 : (rs ++ [p]).length = rs.length + 1 := by simp
    have e2 : (rs ++ [p]).flatMap F.enc = rs.flatMap F.enc ++ F.enc p := by simp
    rw [e1, e2]
    exact ho
  · have key : isBytes w (some ⟨F.gd q, 0, none⟩) (F.ld q).length (F.kd q) (F.ld q) ∧ B ≤ F.gd q ∧ F.gd q ≠ g ∧ F.gd q < w.heap.size := by
      rcases List.mem_append.1 hq with hq | hq
      · exact h.dat q hq
      · have e : q = p := by simpa using hq
        subst e
        exact ⟨hd, h1, h2, h3⟩
    obtain ⟨k1, k2, k3, k4⟩ := key
    refine ⟨k1.other (hg.block _ k4 (by intro e; exact k3 (Option.some.inj e))), k2, ?_, Nat.lt_of_lt_of_le k4 hg.size⟩
    rcases hg' with rfl | rfl
    · exact k3
    · omega
/-- a record of eight cells with the place of its bytes -/
def rc8 : Rc (R8 × Nat × Nat) := ⟨fun p => [.int .i64 p.1.x, .int .i64 p.1.y, .int .i64 p.1.z, .bool p.1.e, .int .u32 (p.1.i : Int), .bool p.1.r, .int .i64 p.1.d, .slice (some ⟨p.2.1, 0, none⟩) p.1.l.length p.2.2], fun p => p.1.l, fun p => p.2.1, fun p => p.2.2⟩
def rc5 : Rc (R5 × Nat × Nat) := ⟨fun p => [.bool p.1.e, .int .u32 (p.1.i : Int), .bool p.1.r, .int .i64 p.1.d, .slice (some ⟨p.2.1, 0, none⟩) p.1.l.length p.2.2], fun p => p.1.l, fun p => p.2.1, fun p => p.2.2⟩
theorem ownG.r8 {w : World} {B E g k : Nat} {rs : List (R8 × Nat × Nat)} (h : ownG rc8 w B E 8 g k rs) : St B w (fun W => isR8s W (some ⟨g, 0, none⟩) rs.length k (rs.map (·.1))) := by
  intro W hW
  have hl := h.lt
  have hwW := fun b hb1 hb2 => hW b hb1 hb2
  obtain ⟨g1, c1, e1, q1, q2, q3, q4⟩ := own_slice h.own (by intro e; cases e)
  cases e1
  refine ⟨by simp, q3, fun _ => ⟨g, 0, rfl, fun j hj => ?_⟩⟩
  have hj' : j < rs.length := by simpa using hj
  obtain ⟨d1, d2, d3, d4⟩ := h.dat rs[j] (List.getElem_mem hj')
  have hc : ∀ t, t < 8 → W.cell? ⟨g, j * 8 + t, none⟩ = (rc8.enc rs[j])[t]? := fun t ht => by
    rw [q4 W (hW g hl.1 hl.2) (j * 8 + t) (by omega), flat_at rc8.enc 8 (fun _ => rfl) rs j hj' t ht]
  rw [Nat.zero_add, List.getElem_map]
  exact ⟨_, _, _, hc 0 (by omega), hc 1 (by omega), hc 2 (by omega), hc 3 (by omega), hc 4 (by omega), hc 5 (by omega), hc 6 (by omega), hc 7 (by omega), d1.other (hW _ d2 d4)⟩
theorem ownG.r5 {w : World} {B E g k : Nat} {rs : List (R5 × Nat × Nat)} (h : ownG rc5 w B E 5 g k rs) : St B w (fun W => isR5s W (some ⟨g, 0, none⟩) rs.length k (rs.map (·.1))) := by
  intro W hW
  have hl := h.lt
  obtain ⟨g1, c1, e1, q1, q2, q3, q4⟩ := own_slice h.own (by intro e; cases e)
  cases e1
  refine ⟨by simp, q3, fun _ => ⟨g, 0, rfl, fun j hj => ?_⟩⟩
  have hj' : j < rs.length := by simpa using hj
  obtain ⟨d1, d2, d3, d4⟩ := h.dat rs[j] (List.getElem_mem hj')
  have hc : ∀ t, t < 5 → W.cell? ⟨g, j * 5 + t, none⟩ = (rc5.enc rs[j])[t]? := fun t ht => by
    rw [q4 W (hW g hl.1 hl.2) (j * 5 + t) (by omega), flat_at rc5.enc 5 (fun _ => rfl) rs j hj' t ht]
  rw [Nat.zero_add, List.getElem_map]
  exact ⟨_, _, _, hc 0 (by omega), hc 1 (by omega), hc 2 (by omega), hc 3 (by omega), hc 4 (by omega), d1.other (hW _ d2 d4)⟩
end Go.Proofs.Ytihndnclplkleaa
