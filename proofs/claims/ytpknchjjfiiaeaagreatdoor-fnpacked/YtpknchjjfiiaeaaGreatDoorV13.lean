import Derived.Test.YtpknchjjfiiaeaaGreatDoorV10
import Derived.Maps.AppendAt
namespace Go.Proofs.YtpknchjjfiiaeaaGreatDoor.J
open Go.RowKit
/-- a row of letters of its own, read as bytes -/
theorem ownsB.bytes {w : World} {B : Nat} {v : Value} {l : List Nat} (h : ownsB w B v l) (hl : ∀ x ∈ l, x < 256) : ∃ ao cap, v = .slice ao l.length cap ∧ isBytes w ao l.length cap l := by
  by_cases he : l = []
  · subst he
    obtain ⟨_, ⟨rfl, _⟩ | ⟨g, cap, cur, rfl, _⟩⟩ := h
    · exact ⟨none, 0, rfl, rfl, Nat.le_refl _, hl, fun h => absurd rfl h⟩
    · exact ⟨_, cap, rfl, rfl, Nat.zero_le _, hl, fun h => absurd rfl h⟩
  · obtain ⟨g, cap, hv, h1, h2, h3, h4, h5⟩ := h.open he
    refine ⟨some ⟨g, 0, none⟩, cap, hv, rfl, h3, hl, fun _ => ⟨g, 0, rfl, fun j hj => ?_⟩⟩
    have := h5.cell j hj
    rw [Nat.zero_add, this]
    simp [hj]
/-- what stands in the world of l1walk's loop -/
structure wlI (w0 : World) (B ga : Nat) (L : List Nat) (v : Value) (p : List Nat) (w : World) : Prop where
  own : ownsB w B v p
  row : rowB w ga L.length (fun t => L.getD t 0)
  lt : ga < w.heap.size
  ne : v.ownBlock ≠ some ga
  bel : Below B w0 w
  le : B ≤ w.heap.size
theorem rowB.block {w w' : World} {g n : Nat} {f : Nat → Nat} (h : rowB w g n f) (hb : w'.heap[g]? = w.heap[g]?) : rowB w' g n f :=
  ⟨fun t ht => by rw [← h.cell t ht]; simp only [World.cell?, hb], fun t ht => by rw [← h.free t ht]; simp only [World.frozen?, hb]⟩
theorem wlI.below {w0 : World} {B ga : Nat} {L : List Nat} {v : Value} {p : List Nat} {w w' : World} (h : wlI w0 B ga L v p w) (hb : Below w.heap.size w w') : wlI w0 B ga L v p w' :=
  ⟨h.own.below hb, h.row.block (hb.block ga h.lt), Nat.lt_of_lt_of_le h.lt hb.size, h.ne, h.bel.trans (hb.mono h.le), Nat.le_trans h.le hb.size⟩
theorem wlI.app {w0 : World} {B ga : Nat} {L : List Nat} {v v' : Value} {p p' : List Nat} {w w' : World} (h : wlI w0 B ga L v p w) (ho : ownsB w' B v' p') (hb : Below B w0 w') (hk : ∀ g, g < w.heap.size → v.ownBlock ≠ some g → w'.heap[g]? = w.heap[g]? ∧ v'.ownBlock ≠ some g) (hz : w.heap.size ≤ w'.heap.size) : wlI w0 B ga L v' p' w' :=
  ⟨ho, h.row.block (hk ga h.lt h.ne).1, Nat.lt_of_lt_of_le h.lt hz, (hk ga h.lt h.ne).2, hb, Nat.le_trans h.le hz⟩
set_option linter.unusedVariables false
def endL (p : List Nat) : Nat := layH p + 8 * layN p
def fieldN (n H E : Nat) : Nat :=
  if n = 0 then 1 else if n < 12 then 2 else if n = 12 then 3 else if n = 13 then 4
  else if n < H then (if H ≤ n + 4 then 8 else if H = 19 then 7 else if n < 32 then 5 else if n = 32 then 6 else 7)
  else if n < E then 9 else if n < E + 15 then 10 else if n < E + 18 then n - E - 4 else if n < E + 25 then 14 else 15
def takenN (n H E : Nat) : Nat :=
  if n = 0 then 0 else if n < 12 then n - 1 else if n = 12 then 0 else if n = 13 then 0
  else if n < H then (if H ≤ n + 4 then n + 4 - H else if H = 19 then 0 else if n < 32 then n - 14 else if n = 32 then 0 else n - 33)
  else if n < E then n - H else if n < E + 15 then n - E else if n < E + 18 then 0 else if n < E + 25 then n - E - 18 else 0
theorem layH_or (p : List Nat) : layH p = 19 ∨ layH p = 39 := by unfold layH; split <;> simp
theorem fieldL_eq (p : List Nat) : fieldL p = fieldN p.length (layH p) (endL p) := by
  have h := layH_or p
  unfold fieldL fieldN layL endL
  by_cases h14 : p.length < 14
  · rw [if_pos h14]
    dsimp only
    by_cases h0 : p.length = 0
    · simp [h0]
    · by_cases h1 : p.length < 12
      · simp [h0, h1]
      · by_cases h2 : p.length = 12
        · simp [h2]
        · have h3 : p.length = 13 := by omega
          simp [h3]
  · rw [if_neg h14]
    by_cases hH : p.length < layH p
    · simp [hH]
    · simp [hH]
theorem getD_snoc (p : List Nat) (c j : Nat) : (p ++ [c]).getD j 0 = if j < p.length then p.getD j 0 else if j = p.length then c else 0 := by
  simp only [List.getD_eq_getElem?_getD, List.getElem?_append]
  split
  · rfl
  · split
    · rename_i h; simp [h]
    · rename_i h1 h2
      have : j - p.length ≠ 0 := by omega
      simp [this]
theorem getD_over (p : List Nat) (j : Nat) (h : p.length ≤ j) : p.getD j 0 = 0 := by simp [List.getD_eq_getElem?_getD, h]
theorem layH_snoc (p : List Nat) (c : Nat) (h : p.length ≠ 13) : layH (p ++ [c]) = layH p := by
  unfold layH
  rw [getD_snoc]
  split
  · rfl
  · rw [if_neg (show ¬ 13 = p.length by omega), getD_over p 13 (by omega)]
theorem drop_snoc (p : List Nat) (c j : Nat) (h : j ≤ p.length) : (p ++ [c]).drop j = p.drop j ++ [c] := by
  rw [List.drop_append_of_le_length h]
theorem stretch_in (p : List Nat) (c j m : Nat) (h : j + m ≤ p.length) : ((p ++ [c]).drop j).take m = (p.drop j).take m := by
  rw [drop_snoc _ _ _ (by omega), List.take_append_of_le_length (by rw [List.length_drop]; omega)]
theorem layN_snoc (p : List Nat) (c : Nat) (h : layH p ≤ p.length) : layN (p ++ [c]) = layN p := by
  have hH := layH_or p
  unfold layN
  have e1 : layH (p ++ [c]) = layH p := layH_snoc p c (by omega)
  have e2 : layR (p ++ [c]) = layR p := by
    unfold layR
    have hh : layH p = if p.getD 13 0 = 49 then 39 else 19 := rfl
    rw [getD_snoc, getD_snoc, getD_snoc, if_pos (show 13 < p.length by omega), if_pos (show 12 < p.length by omega)]
    split
    · rename_i h13
      rw [if_pos h13] at hh
      rw [if_pos (show 32 < p.length by omega)]
    · rfl
  rw [e1, e2, stretch_in _ _ _ _ (by omega)]
theorem endL_snoc (p : List Nat) (c : Nat) (h : layH p ≤ p.length) : endL (p ++ [c]) = endL p := by
  have hH := layH_or p
  unfold endL
  rw [layN_snoc p c h, layH_snoc p c (by omega)]
/-- eights of letters as numbers -/
def chunk8 (q : List Nat) : List Nat := (List.range ((q.length + 7) / 8)).map fun j => valL ((q.drop (8 * j)).take 8)
def bitsL (p : List Nat) : List Nat := p.map (· - 48)
def headL (p : List Nat) : List Nat := if p.length < layH p then p else p.take (endL p)
def dataL (p : List Nat) : List Nat := if p.length < layH p then [] else (p.take (endL p)).drop (layH p)
def sumL (p : List Nat) : List Nat := if p.length < layH p then [] else (p.drop (endL p)).take 15
def idL (p : List Nat) : List Nat := (p.drop 1).take 11 ++ (if p.getD 13 0 = 49 then (p.drop 14).take 18 else [])
structure Vals (k : Wk) (p : List Nat) : Prop where
  ext : k.ext = decide (p.getD 13 0 = 49)
  rtr : k.rtr = if 32 < p.length ∧ p.getD 13 0 = 49 then decide (p.getD 32 0 = 49) else decide (p.getD 12 0 = 49)
  dlc : k.dlc = valL ((p.drop (layH p - 4)).take 4)
  sum : k.sum = M.crcN (bitsL (headL p))
  crc : k.crc = valL (sumL p)
  id : k.id = valL (idL p)
  data : k.data = chunk8 (dataL p)
structure Rel (k : Wk) (p : List Nat) : Prop extends Vals k p where
  field : k.field = fieldN p.length (layH p) (endL p)
  taken : k.taken = takenN p.length (layH p) (endL p)
theorem layH_le (p : List Nat) : layH p ≤ endL p := by unfold endL; omega
theorem Rel.heard {k : Wk} {p : List Nat} (h : Rel k p) (c : Nat) : Rel (k.heard c) p := { ext := h.ext, rtr := h.rtr, dlc := h.dlc, sum := h.sum, crc := h.crc, id := h.id, data := h.data, field := h.field, taken := h.taken }
theorem Rel.code {k : Wk} {p : List Nat} (h : Rel k p) (c : Nat) : Rel { k with code := c } p := { ext := h.ext, rtr := h.rtr, dlc := h.dlc, sum := h.sum, crc := h.crc, id := h.id, data := h.data, field := h.field, taken := h.taken }
theorem Vals.code {k : Wk} {p : List Nat} (h : Vals k p) (c : Nat) : Vals { k with code := c } p := { ext := h.ext, rtr := h.rtr, dlc := h.dlc, sum := h.sum, crc := h.crc, id := h.id, data := h.data }
end Go.Proofs.YtpknchjjfiiaeaaGreatDoor.J
