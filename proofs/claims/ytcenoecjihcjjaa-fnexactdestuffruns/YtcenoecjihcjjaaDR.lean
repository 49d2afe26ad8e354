import Derived.Test.YtcenoecjihcjjaaDA
namespace Go.Proofs.Ytcenoecjihcjjaa
open Go.RowKit

/-- the runs fit into the room -/
def fitGo : List Int → Int → Bool
  | [], _ => true
  | x :: xs, room => decide (1 ≤ x) && decide (x ≤ room) && fitGo xs (room - x)
theorem fit_cons {x : Int} {xs : List Int} {room : Int} : fitGo (x :: xs) room = true ↔ (1 ≤ x ∧ x ≤ room ∧ fitGo xs (room - x) = true) := by
  simp [fitGo, and_assoc]
theorem fit_len : ∀ (l : List Int) (room : Int), fitGo l room = true → (l.length : Int) ≤ max room 0 := by
  intro l
  induction l with
  | nil => intro room _; simp; omega
  | cons x xs ih =>
    intro room h
    obtain ⟨h1, h2, h3⟩ := fit_cons.1 h
    have := ih _ h3
    simp only [List.length_cons]
    omega
/-- where the look at the runs stands behind k of them -/
structure ftAt (l : List Int) (k : Nat) (s : Int) : Prop where
  eq : fitGo (l.drop k) (4000 - s) = fitGo l 4000
  lo : 0 ≤ s
  hi : s ≤ 4000
  sum : s = ((l.take k).map Int.toNat).sum
  pos : ∀ x ∈ l.take k, 1 ≤ x
theorem ftAt.zero (l : List Int) : ftAt l 0 0 := ⟨by simp, by decide, by decide, by simp, fun x hx => by simp at hx⟩
theorem ftAt.bad {l : List Int} {k : Nat} {s : Int} (h : ftAt l k s) (hk : k < l.length) (hb : l[k] < 1 ∨ 4000 - s < l[k]) : fitGo l 4000 = false := by
  rw [← h.eq, List.drop_eq_getElem_cons hk]
  simp only [fitGo]
  rcases hb with hb | hb
  · rw [show decide (1 ≤ l[k]) = false from decide_eq_false (by omega)]; rfl
  · rw [show decide (l[k] ≤ 4000 - s) = false from decide_eq_false (by omega)]; simp
theorem ftAt.next {l : List Int} {k : Nat} {s : Int} (h : ftAt l k s) (hk : k < l.length) (h1 : 1 ≤ l[k]) (h2 : l[k] ≤ 4000 - s) : ftAt l (k + 1) (s + l[k]) := by
  refine ⟨?_, by have := h.lo; omega, by omega, ?_, ?_⟩
  · rw [← h.eq, List.drop_eq_getElem_cons hk]
    simp only [fitGo]
    rw [show decide (1 ≤ l[k]) = true from decide_eq_true h1, show decide (l[k] ≤ 4000 - s) = true from decide_eq_true h2, show 4000 - s - l[k] = 4000 - (s + l[k]) by omega]
    simp
  · rw [List.take_succ_eq_append_getElem hk, List.map_append, List.sum_append, h.sum]
    simp
    omega
  · intro x hx
    rw [List.take_succ_eq_append_getElem hk, List.mem_append] at hx
    rcases hx with hx | hx
    · exact h.pos x hx
    · simp at hx; rw [hx]; exact h1
theorem ftAt.fin {l : List Int} {k : Nat} {s : Int} (h : ftAt l k s) (hk : l.length ≤ k) : fitGo l 4000 = true := by
  rw [← h.eq, List.drop_eq_nil_of_le hk]; rfl
theorem rt_snoc (x : Nat) : ∀ (xs : List Nat) (c : Nat), c < 2 → M.rtGo c (xs ++ [x]) = M.rtGo c xs ++ List.replicate x (48 + (c + xs.length) % 2) := by
  intro xs
  induction xs with
  | nil => intro c hc; simp [M.rtGo]; omega
  | cons y ys ih =>
    intro c hc
    show List.replicate y (48 + c) ++ M.rtGo (1 - c) (ys ++ [x]) = (List.replicate y (48 + c) ++ M.rtGo (1 - c) ys) ++ _
    rw [ih (1 - c) (by omega), List.append_assoc, show (1 - c + ys.length) % 2 = (c + (y :: ys).length) % 2 by simp; omega]
/-- what DestuffRuns answers -/
def drZ (first : Int) (l : List Int) : ByteArray × Int := if (first = 0 ∨ first = 1) ∧ fitGo l 4000 = true then (strN (M.drGo (l.map Int.toNat) first.toNat 0 0 []).1, (M.drGo (l.map Int.toNat) first.toNat 0 0 []).2) else (⟨#[]⟩, -2)
theorem lt_strN (l : List Nat) (h : ∀ x ∈ l, x < 256) : lt (strN l) = l := by
  unfold lt strN
  simp only [List.map_map]
  conv => rhs; rw [← List.map_id l]
  apply List.map_congr_left
  intro x hx
  have := h x hx
  simp only [Function.comp, id]
  rw [UInt8.toNat_ofNat']
  omega
theorem strN_ok (l : List Nat) (h : ∀ x ∈ l, M.isL x) (hl : l.length ≤ 4000) : okT (strN l) 4000 = true := by
  unfold okT
  rw [Bool.and_eq_true, decide_eq_true_iff]
  refine ⟨?_, ?_⟩
  · have : (strN l).size = l.length := by simp [strN, ByteArray.size]
    omega
  · rw [List.all_eq_true]
    intro c hc
    unfold strN at hc
    simp only [List.mem_map] at hc
    obtain ⟨x, hx, rfl⟩ := hc
    rcases h x hx with h | h <;> simp [h, okC]
theorem dest_runs (c : Nat) (hc : c < 2) (xs : List Nat) (h1 : ∀ x ∈ xs, 1 ≤ x) (h2 : xs.sum ≤ 4000) : destZ (strN (M.rtGo c xs)) = (strN (M.drGo xs c 0 0 []).1, (M.drGo xs c 0 0 []).2) := by
  have hL := M.rt_isL xs c hc
  unfold destZ
  rw [if_pos (strN_ok _ hL (by rw [M.rt_len]; exact h2)), lt_strN _ (isL_lt hL), M.ds_runs xs c 0 0 [] (0, 0) hc h1 (by show ¬ 48 + c = 0; omega) (by simp)]
end Go.Proofs.Ytcenoecjihcjjaa
