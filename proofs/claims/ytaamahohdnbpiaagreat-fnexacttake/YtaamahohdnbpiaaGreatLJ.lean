import Derived.Test.YtaamahohdnbpiaaGreatLI
namespace Go.Proofs.YtaamahohdnbpiaaGreat
open Go.Shelf Go.RowKit
set_option linter.unusedVariables false
def Tryz.laysE160_ren : Go.Shelf.Ren := ⟨fun | 41 => 160 | n => n, fun | 22 => 31 | 23 => 97 | n => n, fun | n => n⟩
theorem Tryz.laysE160 : Go.Proofs.SlLaysE0.n41 Tryz.prog Tryz.laysE160_ren := {
  mixed := by kernel_rfl
  f41 := ⟨Tryz.f160.name, by kernel_rfl, Tryz.func160.trans (congrArg some (by kernel_rfl))⟩
  t4 := Tryz.underlying4
  a4 := Tryz.isAgg4
  z4 := Tryz.sizeOf4
  v4 := Tryz.zeroValue4
  t22 := Tryz.underlying31
  a22 := Tryz.isAgg31
  z22 := Tryz.sizeOf31
  v22 := Tryz.zeroValue31 }
abbrev X8 := R8 × Option Addr × Nat × Nat
def x8 (t : X8) : List Value := [.int .i64 t.1.x, .int .i64 t.1.y, .int .i64 t.1.z, .bool t.1.e, .int .u32 (t.1.i : Int), .bool t.1.r, .int .i64 t.1.d, .slice t.2.1 t.2.2.1 t.2.2.2]
/-- the cells of a row of boxes -/
def c8 (bs : List X8) : List Value := bs.flatMap x8
theorem c8_len (bs : List X8) : (c8 bs).length = bs.length * 8 := by
  induction bs with
  | nil => rfl
  | cons b bs ih => simp only [c8, List.flatMap_cons, List.length_append] at ih ⊢; rw [ih]; simp only [x8, List.length_cons, List.length_nil]; omega
theorem c8_at (bs : List X8) : ∀ j (h : j < bs.length) t, t < 8 → (c8 bs)[j * 8 + t]? = (x8 bs[j])[t]? := by
  induction bs with
  | nil => intro j h; exact absurd h (Nat.not_lt_zero _)
  | cons b bs ih =>
    intro j h t ht
    cases j with
    | zero =>
      simp only [c8, List.flatMap_cons, Nat.zero_mul, Nat.zero_add]
      rw [List.getElem?_append_left (by simpa [x8] using ht)]
      rfl
    | succ j =>
      have e : (j + 1) * 8 + t = 8 + (j * 8 + t) := by omega
      rw [e]
      simp only [c8, List.flatMap_cons]
      rw [List.getElem?_append_right (by simp [x8])]
      have := ih j (by simpa using h) t ht
      simp only [c8] at this
      simpa [x8] using this
theorem rows8 {w : World} {g off n cap : Nat} {bx : List R8} (h : isR8s w (some ⟨g, off, none⟩) n cap bx) : ∃ bs : List X8, bs.map (·.1) = bx ∧ ∀ j (hj : j < bs.length), at8 w g (off + j * 8) bs[j].1 bs[j].2.1 bs[j].2.2.1 bs[j].2.2.2 := by
  have hc : ∀ j (hj : j < bx.length), ∃ ao m c, at8 w g (off + j * 8) bx[j] ao m c := by
    intro j hj
    obtain ⟨g', off', ha, hc⟩ := h.cells (by intro e; subst e; cases hj)
    cases ha
    exact hc j hj
  clear h
  induction bx generalizing off with
  | nil => exact ⟨[], rfl, fun j hj => absurd hj (Nat.not_lt_zero _)⟩
  | cons b bx ih =>
    obtain ⟨ao, m, c, h0⟩ := hc 0 (by simp)
    obtain ⟨bs, hm, hs⟩ := ih (off := off + 8) (fun j hj => by
      have := hc (j + 1) (by simpa using hj)
      have e : off + (j + 1) * 8 = off + 8 + j * 8 := by omega
      rw [e] at this
      simpa using this)
    refine ⟨(b, ao, m, c) :: bs, by simp [hm], fun j hj => ?_⟩
    cases j with
    | zero => exact h0
    | succ j =>
      have := hs j (by simpa using hj)
      have e : off + (j + 1) * 8 = off + 8 + j * 8 := by omega
      rw [e]
      exact this
theorem c8_cell {w : World} {g off : Nat} {bs : List X8} (h : ∀ j (hj : j < bs.length), at8 w g (off + j * 8) bs[j].1 bs[j].2.1 bs[j].2.2.1 bs[j].2.2.2) (t : Nat) (u : Value) (hu : (c8 bs)[t]? = some u) : w.cell? ⟨g, off + t, none⟩ = some u := by
  have ht : t < bs.length * 8 := by
    have := (List.getElem?_eq_some_iff.mp hu).1
    rwa [c8_len] at this
  have hj : t / 8 < bs.length := by omega
  have e : t = t / 8 * 8 + t % 8 := by omega
  rw [e, c8_at bs (t / 8) hj (t % 8) (by omega)] at hu
  have := (h (t / 8) hj).range (t % 8) u hu
  rw [e, ← Nat.add_assoc]
  exact this
theorem c8_one (bs : List X8) : ∀ u ∈ c8 bs, u.oneCell' = true := by
  intro u hu
  simp only [c8, x8, List.mem_flatMap, List.mem_cons, List.not_mem_nil, or_false] at hu
  obtain ⟨b, _, rfl | rfl | rfl | rfl | rfl | rfl | rfl | rfl⟩ := hu <;> rfl
theorem c8_at8 {w W : World} {g g' off : Nat} {bs : List X8} (h : ∀ j (hj : j < bs.length), at8 w g (off + j * 8) bs[j].1 bs[j].2.1 bs[j].2.2.1 bs[j].2.2.2) (hc : ∀ t, t < bs.length * 8 → W.cell? ⟨g', t, none⟩ = (c8 bs)[t]?) (hb : Below w.heap.size w W) (j : Nat) (hj : j < bs.length) : at8 W g' (0 + j * 8) bs[j].1 bs[j].2.1 bs[j].2.2.1 bs[j].2.2.2 := by
  have hx : ∀ t, t < 8 → W.cell? ⟨g', 0 + j * 8 + t, none⟩ = (x8 bs[j])[t]? := fun t ht => by
    rw [Nat.zero_add, hc _ (by omega), c8_at bs j hj t ht]
  exact ⟨hx 0 (by omega), hx 1 (by omega), hx 2 (by omega), hx 3 (by omega), hx 4 (by omega), hx 5 (by omega), hx 6 (by omega), hx 7 (by omega), (h j hj).dat.below hb⟩
/-- slices.Clone of boxes -/
theorem clone8_any (w0 w : World) (g off n cap : Nat) (bx : List R8) (h : isR8s w0 (some ⟨g, off, none⟩) n cap bx) (hb0 : Below w0.heap.size w0 w) (hn : n ≤ 1048576) :
    Calls Tryz.prog 160 #[.slice (some ⟨g, off, none⟩) n cap] w fun e w' => ∃ g' cap', e = .returned (.slice (some ⟨g', 0, none⟩) n cap') ∧ w.heap.size ≤ g' ∧ g' < w'.heap.size ∧ n ≤ cap' ∧ rowZ w' g' (n * 8) ∧ (∀ W, W.heap[g']? = w'.heap[g']? → Below w0.heap.size w0 W → isR8s W (some ⟨g', 0, none⟩) n cap' bx) ∧ Below w.heap.size w w' := by
  obtain ⟨bs, hm, hs⟩ := rows8 h
  have hlen : n = bs.length := by rw [h.len, ← hm]; simp
  obtain ⟨i0, hi, hz0, hz1, hz2⟩ := info_parts Tryz.info97
  refine (AnyE.slices_Clone Tryz.laysE160 i0 _ 8 72 hi hz0 hz1 hz2 rfl (by omega) Tryz.sizeOf97 g off n cap (c8 bs) w (by rw [c8_len, hlen]) (by unfold maxLen; omega) (by omega) (fun j u hj => c8_cell (fun j hj => (hs j hj).below hb0) j u hj) (c8_one bs)).mono ?_
  rintro e w' ⟨v', rfl, ho, hv, hbw⟩
  rcases ho.2 with ⟨e, _⟩ | ⟨g', cap', cur, hv', hb, hg, hcp, hmx, hsz, htk⟩
  · exact absurd e hv
  · have hlt : g' < w'.heap.size := lt_of_some hg
    have hcur : ∀ t, t < n * 8 → cur[t]? = (c8 bs)[t]? := by
      intro t ht
      rw [← htk, List.getElem?_take_of_lt ht, Array.getElem?_toList]
    have hcell : ∀ W : World, W.heap[g']? = w'.heap[g']? → ∀ t, t < n * 8 → W.cell? ⟨g', t, none⟩ = (c8 bs)[t]? := by
      intro W hW t ht
      have e : W.heap[g']? = some (.cells cur 97 (0, 0)) := hW.trans hg
      rw [← hcur t ht]
      simp [World.cell?, e]
    refine ⟨g', cap', by rw [hv'], hb, hlt, hcp, ⟨fun t ht => ?_, fun t => ?_⟩, fun W hW hbW => ⟨h.len, hcp, fun hne => ⟨g', 0, rfl, fun j hj => ?_⟩⟩, hbw⟩
    · rw [hcell w' rfl t ht]
      have hl : t < (c8 bs).length := by rw [c8_len, ← hlen]; exact ht
      exact ⟨_, List.getElem?_eq_getElem hl⟩
    · subst hv'
      exact World.ownsRow.frozenAt ho t
    · have hj' : j < bs.length := by rw [← hlen, h.len]; exact hj
      have := c8_at8 hs (fun t ht => hcell W hW t (by rw [hlen]; exact ht)) hbW j hj'
      have e : bx[j] = bs[j].1 := by subst hm; simp
      rw [e]
      exact ⟨_, _, _, this⟩
end Go.Proofs.YtaamahohdnbpiaaGreat
