import Derived.Test.YtfbeaekddgpmmaaGreatDoorK04
import Derived.Test.YtfbeaekddgpmmaaGreatDoorK03
import Derived.Lib.OthersKept
import Derived.Laws.IdiomStrings
namespace Go.Proofs.YtfbeaekddgpmmaaGreatDoor.J
open Go.RowKit
theorem ret_str {a b : ByteArray} (h : a = b) : Ending.returned (.string a) = .returned (.string b) := by rw [h]
/-- the letters of a text, as numbers -/
def lt (s : ByteArray) : List Nat := s.data.toList.map UInt8.toNat
/-- the text of letters -/
def strN (l : List Nat) : ByteArray := ⟨(l.map UInt8.ofNat).toArray⟩
theorem lt_length (s : ByteArray) : (lt s).length = s.size := by simp [lt]
theorem ownsB.drewN {w : World} {B : Nat} {v : Value} {l : List Nat} (h : ownsB w B v l) (q : Nat) : ownsB (w.drewN q) B v l := by
  induction q generalizing w with
  | zero => exact h
  | succ q ih => exact ih (World.ownsRow.drew h)
theorem ownsB.kind {w : World} {B : Nat} {v : Value} {l : List Nat} (h : ownsB w B v l) : ∀ g, v.ownBlock = some g → ∃ c fz, w.heap[g]? = some (.cells c 5 fz) := by
  intro g hg
  obtain ⟨_, ⟨rfl, _⟩ | ⟨g', cap, cur, rfl, _, hh, _⟩⟩ := h
  · simp [Value.ownBlock] at hg
  · simp [Value.ownBlock] at hg
    subst hg
    exact ⟨cur, _, hh⟩
theorem ownsB.otherBlock {w w' : World} {B : Nat} {v : Value} {l : List Nat} (h : ownsB w B v l) (hk : ∀ g, v.ownBlock = some g → w'.heap[g]? = w.heap[g]?) : ownsB w' B v l := by
  obtain ⟨h1, h2 | ⟨g, cap, cur, rfl, hb, hh, rest⟩⟩ := h
  · exact ⟨h1, .inl h2⟩
  · exact ⟨h1, .inr ⟨g, cap, cur, rfl, hb, (hk g rfl).trans hh, rest⟩⟩
namespace M
/-- the way back from letters: what is left, the place, what is put out, the run -/
def dsGo : List Nat → Nat → List Nat → Nat × Nat → List Nat × Int
  | [], _, out, _ => (out, -1)
  | c :: rest, i, out, r => if r.2 = 5 ∧ c = r.1 then (out, (i : Int)) else dsGo rest (i + 1) (if r.2 = 5 then out else out ++ [c]) (hear r c)
theorem dsGo_bad (c : Nat) (rest : List Nat) (i : Nat) (out : List Nat) (r : Nat × Nat) (h : r.2 = 5) (hc : c = r.1) : dsGo (c :: rest) i out r = (out, (i : Int)) := by
  rw [dsGo, if_pos ⟨h, hc⟩]
theorem dsGo_put (c : Nat) (rest : List Nat) (i : Nat) (out : List Nat) (r : Nat × Nat) (h : ¬ r.2 = 5) : dsGo (c :: rest) i out r = dsGo rest (i + 1) (out ++ [c]) (hear r c) := by
  rw [dsGo, if_neg (fun e => h e.1), if_neg h]
/-- where the way back stands behind k letters -/
structure dsAt (l : List Nat) (k : Nat) (out : List Nat) : Prop where
  eq : dsGo (l.drop k) k out (trail (l.take k)) = dsGo l 0 [] (0, 0)
  len : out.length ≤ k
  all : ∀ x ∈ out, isL x
  run : (trail (l.take k)).2 ≤ 5
theorem dsAt.zero (l : List Nat) : dsAt l 0 [] := ⟨rfl, Nat.le_refl _, (fun x hx => by cases hx), (by exact (by decide : 0 ≤ 5))⟩
theorem drop_at (l : List Nat) (k : Nat) (h : k < l.length) : l.drop k = l[k] :: l.drop (k + 1) := List.drop_eq_getElem_cons h
theorem take_at (l : List Nat) (k : Nat) (h : k < l.length) : l.take (k + 1) = l.take k ++ [l[k]] := List.take_succ_eq_append_getElem h
theorem dsAt.bad {l : List Nat} {k : Nat} {out : List Nat} (h : dsAt l k out) (hk : k < l.length) (h5 : (trail (l.take k)).2 = 5) (hc : l[k] = (trail (l.take k)).1) : dsGo l 0 [] (0, 0) = (out, (k : Int)) := by
  rw [← h.eq, drop_at l k hk, dsGo_bad _ _ _ _ _ h5 hc]
theorem dsAt.put {l : List Nat} {k : Nat} {out : List Nat} (h : dsAt l k out) (hk : k < l.length) (h5 : ¬ (trail (l.take k)).2 = 5) (hl : isL l[k]) : dsAt l (k + 1) (out ++ [l[k]]) := by
  refine ⟨?_, by simpa using h.len, ?_, ?_⟩
  · rw [← h.eq, drop_at l k hk, dsGo_put _ _ _ _ _ h5, take_at l k hk, trail_snoc]
  · intro x hx
    simp at hx
    rcases hx with hx | rfl
    · exact h.all x hx
    · exact hl
  · rw [take_at l k hk, trail_snoc]
    have := h.run
    exact Nat.le_trans (hear_le _ _) (by omega)
theorem dsAt.fin {l : List Nat} {k : Nat} {out : List Nat} (h : dsAt l k out) (hk : l.length ≤ k) : dsGo l 0 [] (0, 0) = (out, -1) := by
  rw [← h.eq, List.drop_eq_nil_of_le hk]; rfl
end M
theorem lt_at (s : ByteArray) (k : Nat) (h : k < s.size) (h' : k < (lt s).length) : (lt s)[k] = s[k].toNat := by simp only [lt, List.getElem_map]; rfl
theorem rowB.below {B : Nat} {w w' : World} {g n : Nat} {f : Nat → Nat} (h : rowB w g n f) (hb : Below B w w') (hg : g < B) : rowB w' g n f :=
  ⟨fun t ht => (hb.cell (by exact hg)).trans (h.cell t ht), fun t ht => (hb.frozen (by exact hg)).trans (h.free t ht)⟩
end Go.Proofs.YtfbeaekddgpmmaaGreatDoor.J
