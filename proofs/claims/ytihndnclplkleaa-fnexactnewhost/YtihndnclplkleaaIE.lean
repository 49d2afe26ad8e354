import Derived.Shelf.SlicesE.Clone
import Derived.Test.YtihndnclplkleaaID
namespace Go.Proofs.Ytihndnclplkleaa
open Go.Shelf Go.RowKit
def Try.laysE41_ren : Go.Shelf.Ren := ⟨fun | 41 => 43 | n => n, fun | 22 => 36 | 23 => 98 | n => n, fun | n => n⟩
theorem Try.laysE41 : Go.Proofs.SlLaysE0.n41 Try.prog Try.laysE41_ren := {
  mixed := by kernel_rfl
  f41 := ⟨Try.f43.name, by kernel_rfl, Try.func43.trans (congrArg some (by kernel_rfl))⟩
  t4 := Try.underlying4
  a4 := Try.isAgg4
  z4 := Try.sizeOf4
  v4 := Try.zeroValue4
  t22 := Try.underlying36
  a22 := Try.isAgg36
  z22 := Try.sizeOf36
  v22 := Try.zeroValue36 }
/-- the cells of a row of filters -/
def c3 (bs : List R3) : List Value := bs.flatMap fun b => [.bool b.e, .int .u32 b.m, .int .u32 b.k]
theorem c3_len (bs : List R3) : (c3 bs).length = bs.length * 3 := by
  induction bs with
  | nil => rfl
  | cons b bs ih => simp only [c3, List.flatMap_cons, List.length_append, List.length_cons, List.length_nil] at ih ⊢; omega
theorem c3_at (bs : List R3) : ∀ j (h : j < bs.length), (c3 bs)[j * 3]? = some (.bool bs[j].e) ∧ (c3 bs)[j * 3 + 1]? = some (.int .u32 bs[j].m) ∧ (c3 bs)[j * 3 + 2]? = some (.int .u32 bs[j].k) := by
  induction bs with
  | nil => intro j h; exact absurd h (Nat.not_lt_zero _)
  | cons b bs ih =>
    intro j h
    cases j with
    | zero => exact ⟨rfl, rfl, rfl⟩
    | succ j =>
      have := ih j (by simpa using h)
      have e : ∀ t, (c3 (b :: bs))[(t + 3)]? = (c3 bs)[t]? := fun t => by simp [c3, List.flatMap_cons]
      have e0 : (j + 1) * 3 = j * 3 + 3 := by omega
      have e1 : (j + 1) * 3 + 1 = (j * 3 + 1) + 3 := by omega
      have e2 : (j + 1) * 3 + 2 = (j * 3 + 2) + 3 := by omega
      rw [e0, e, show j * 3 + 3 + 1 = (j * 3 + 1) + 3 by omega, e, show j * 3 + 3 + 2 = (j * 3 + 2) + 3 by omega, e]
      exact this
theorem c3_cell {w : World} {g n cap : Nat} {bs : List R3} (h : isR3s w (some ⟨g, 0, none⟩) n cap bs) (t : Nat) (u : Value) (hu : (c3 bs)[t]? = some u) : w.cell? ⟨g, 0 + t, none⟩ = some u := by
  have ht : t < bs.length * 3 := by
    have := (List.getElem?_eq_some_iff.mp hu).1
    rwa [c3_len] at this
  have hj : t / 3 < bs.length := by omega
  have hne : bs ≠ [] := by intro e; subst e; simp at hj
  obtain ⟨g', off, ha, hc⟩ := h.cells hne
  cases ha
  have x := hc (t / 3) hj
  obtain ⟨y0, y1, y2⟩ := c3_at bs (t / 3) hj
  have hr : t % 3 = 0 ∨ t % 3 = 1 ∨ t % 3 = 2 := by omega
  rcases hr with r | r | r
  · have e : t = t / 3 * 3 := by omega
    rw [← e] at y0
    have := x.c0
    rw [← e] at this
    rw [this, ← y0, hu]
  · have e : t = t / 3 * 3 + 1 := by omega
    rw [← e] at y1
    have := x.c1
    rw [Nat.add_assoc, ← e] at this
    rw [this, ← y1, hu]
  · have e : t = t / 3 * 3 + 2 := by omega
    rw [← e] at y2
    have := x.c2
    rw [Nat.add_assoc, ← e] at this
    rw [this, ← y2, hu]
theorem c3_one (bs : List R3) : ∀ u ∈ c3 bs, u.oneCell' = true := by
  intro u hu
  simp only [c3, List.mem_flatMap, List.mem_cons, List.not_mem_nil, or_false] at hu
  obtain ⟨b, _, rfl | rfl | rfl⟩ := hu <;> rfl
theorem clone_any (w : World) (g n cap : Nat) (bs : List R3) (h : isR3s w (some ⟨g, 0, none⟩) n cap bs) (hn : n ≤ 1048576) :
    Calls Try.prog 43 #[.slice (some ⟨g, 0, none⟩) n cap] w fun e w' => ∃ v', e = .returned v' ∧ w'.ownsRow w.heap.size 98 3 v' n (c3 bs) ∧ v' ≠ .slice none 0 0 ∧ Below w.heap.size w w' := by
  obtain ⟨i0, hi, hz0, hz1, hz2⟩ := info_parts Try.info98
  exact AnyE.slices_Clone Try.laysE41 i0 _ 3 12 hi hz0 hz1 hz2 rfl (by omega) Try.sizeOf98 g 0 n cap (c3 bs) w (by rw [c3_len, h.len]) (by unfold maxLen; omega) (by omega) (fun j u hj => c3_cell h j u hj) (c3_one bs)
theorem c3_owns {w : World} {B n : Nat} {v : Value} {bs : List R3} (hn : n = bs.length) (ho : w.ownsRow B 98 3 v n (c3 bs)) (hv : v ≠ .slice none 0 0) :
    ∃ g cap, v = .slice (some ⟨g, 0, none⟩) n cap ∧ B ≤ g ∧ g < w.heap.size ∧ n ≤ cap ∧ rowZ w g (n * 3) ∧ St B w (fun W => isR3s W (some ⟨g, 0, none⟩) n cap bs) := by
  rcases ho.2 with ⟨e, _⟩ | ⟨g, cap, cur, hv', hb, hg, hcp, hmx, hsz, htk⟩
  · exact absurd e hv
  · have hlt : g < w.heap.size := by
      rcases Nat.lt_or_ge g w.heap.size with h | h
      · exact h
      · rw [Array.getElem?_eq_none h] at hg; cases hg
    have hcur : ∀ t, t < n * 3 → cur[t]? = (c3 bs)[t]? := by
      intro t ht
      rw [← htk, List.getElem?_take_of_lt ht, Array.getElem?_toList]
    have hcell : ∀ W : World, W.heap[g]? = w.heap[g]? → ∀ t, t < n * 3 → W.cell? ⟨g, t, none⟩ = (c3 bs)[t]? := by
      intro W hW t ht
      have e : W.heap[g]? = some (.cells cur 98 (0, 0)) := hW.trans hg
      rw [← hcur t ht]
      simp [World.cell?, e]
    refine ⟨g, cap, hv', hb, hlt, hcp, ⟨fun t ht => ?_, fun t => ?_⟩, fun W hW => ⟨hn, hcp, fun hne => ⟨g, 0, rfl, fun j hj => ?_⟩⟩⟩
    · rw [hcell w rfl t ht]
      have hl : t < (c3 bs).length := by rw [c3_len, ← hn]; exact ht
      exact ⟨_, List.getElem?_eq_getElem hl⟩
    · subst hv'
      exact World.ownsRow.frozenAt ho t
    · have e := hW g hb hlt
      obtain ⟨y0, y1, y2⟩ := c3_at bs j hj
      exact ⟨(by rw [Nat.zero_add]; exact (hcell W e _ (by omega)).trans y0), (by rw [Nat.zero_add]; exact (hcell W e _ (by omega)).trans y1), (by rw [Nat.zero_add]; exact (hcell W e _ (by omega)).trans y2)⟩
end Go.Proofs.Ytihndnclplkleaa
