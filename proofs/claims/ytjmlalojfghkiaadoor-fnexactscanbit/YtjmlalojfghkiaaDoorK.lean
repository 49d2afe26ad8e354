import Derived.Test.YtjmlalojfghkiaaDoorJ
import Derived.Test.YtjmlalojfghkiaaDoorF
namespace Go.Proofs.YtjmlalojfghkiaaDoor
open Go.RowKit
/-- the bytes behind one more bit of data -/
def dataZ (l : List Nat) (lf : Int) (b : Nat) : List Nat := if lf % 8 = 0 then l ++ [b] else l.set (l.length - 1) ((2 * l.getD (l.length - 1) 0 + b) % 256)
/-- the frame behind one more plain bit -/
def feedZ (S : Sc) (b : Nat) : Sc :=
  if S.f = 2 ∨ S.f = 5 then { S with i := (2 * S.i + b) % 536870912 }
  else if S.f = 3 ∨ S.f = 6 then { S with r := b == 1 }
  else if S.f = 4 then { S with e := b == 1, r := if b = 1 then false else S.r }
  else if S.f = 8 then { S with d := (2 * S.d + b) % 16 }
  else if S.f = 9 then { S with l := dataZ S.l S.lf b }
  else S
theorem l2take_any (w : World) (B : Nat) (hB : B ≤ w.heap.size) (S : Sc) (hS : okS S) (g n k : Nat) (ho : ownsB w B (.slice (some ⟨g, 0, none⟩) n k) S.l) (hn : n = S.l.length) (t : Int) (ht : t = sizeZ S.f S.e S.d - S.lf) (b : Nat) (hb : b < 2) :
    Calls Tryd.prog 23 #[frV S.e S.i S.r S.d (some ⟨g, 0, none⟩) n k, .int .i64 S.f, .int .i64 t, .int .i64 (b : Int)] w fun o w' => ∃ g' n' k', o = .returned (frV (feedZ S b).e (feedZ S b).i (feedZ S b).r (feedZ S b).d (some ⟨g', 0, none⟩) n' k') ∧ ownsB w' B (.slice (some ⟨g', 0, none⟩) n' k') (feedZ S b).l ∧ n' = (feedZ S b).l.length ∧ Below B w w' ∧ (∀ q, q ≠ g → q < w.heap.size → w'.heap[q]? = w.heap[q]?) ∧ (g' = g ∨ w.heap.size ≤ g') := by
  have key : ∀ (X : Sc), X = feedZ S b → X.l = S.l → (∀ (o : Ending) (w' : World), o = .returned (frV X.e X.i X.r X.d (some ⟨g, 0, none⟩) n k) ∧ Below w.heap.size w w' → ∃ g' n' k', o = .returned (frV (feedZ S b).e (feedZ S b).i (feedZ S b).r (feedZ S b).d (some ⟨g', 0, none⟩) n' k') ∧ ownsB w' B (.slice (some ⟨g', 0, none⟩) n' k') (feedZ S b).l ∧ n' = (feedZ S b).l.length ∧ Below B w w' ∧ (∀ q, q ≠ g → q < w.heap.size → w'.heap[q]? = w.heap[q]?) ∧ (g' = g ∨ w.heap.size ≤ g')) := by
    rintro X rfl hl o w' ⟨rfl, hbel⟩
    exact ⟨g, n, k, rfl, by rw [hl]; exact ho.below hbel, by rw [hl]; exact hn, hbel.mono hB, fun q _ h2 => hbel.block q h2, Or.inl rfl⟩
  obtain ⟨s1, s2, s3, s4, s5, s6, s7, s8, s9, s10, s11, s12, s13, s14, s15, s16, s17, s18, s19⟩ := hS
  by_cases h1 : S.f = 2 ∨ S.f = 5
  · exact (l2take_id w S.f h1 S.e S.i s3 S.r S.d _ n k t b hb).mono (key { S with i := (2 * S.i + b) % 536870912 } (by unfold feedZ; rw [if_pos h1]) rfl)
  by_cases h2 : S.f = 3 ∨ S.f = 6
  · exact (l2take_rtr w S.f h2 S.e S.i S.r S.d _ n k t b hb).mono (key { S with r := b == 1 } (by unfold feedZ; rw [if_neg h1, if_pos h2]) rfl)
  by_cases h3 : S.f = 4
  · have := l2take_ide w S.e S.i S.r S.d (some ⟨g, 0, none⟩) n k t b hb
    rw [← h3] at this
    exact this.mono (key { S with e := b == 1, r := if b = 1 then false else S.r } (by unfold feedZ; rw [if_neg h1, if_neg h2, if_pos h3]) rfl)
  by_cases h4 : S.f = 8
  · have := l2take_dlc w S.e S.i S.r S.d s4 s5 (some ⟨g, 0, none⟩) n k t b hb
    rw [← h4] at this
    exact this.mono (key { S with d := (2 * S.d + b) % 16 } (by unfold feedZ; rw [if_neg h1, if_neg h2, if_neg h3, if_pos h4]) rfl)
  by_cases h5 : S.f = 9
  · have e : feedZ S b = { S with l := dataZ S.l S.lf b } := by unfold feedZ; rw [if_neg h1, if_neg h2, if_neg h3, if_neg h4, if_pos h5]
    rw [e]
    obtain ⟨r1, r2, r3⟩ := s19 h5
    have hz : sizeZ S.f S.e S.d = if S.d > 8 then 64 else 8 * S.d := by unfold sizeZ; rw [h5]; rfl
    have hz8 : sizeZ S.f S.e S.d % 8 = 0 := by rw [hz]; split <;> omega
    have hzl := sizeZ_le S.f S.e S.d s4 s5
    obtain ⟨T, rfl⟩ : ∃ T : Nat, t = (T : Int) := ⟨t.toNat, by omega⟩
    by_cases h8 : S.lf % 8 = 0
    · have := l2take_app w B hB S.e S.i S.r S.d g n k S.l ho hn (by omega) T (by omega) (by omega) b hb
      rw [← h5] at this
      refine this.mono ?_
      rintro o w' ⟨g', k', rfl, q1, q2, q3, q4⟩
      exact ⟨g', n + 1, k', rfl, by show ownsB w' B _ (dataZ S.l S.lf b); unfold dataZ; rw [if_pos h8]; exact q1, by show n + 1 = (dataZ S.l S.lf b).length; unfold dataZ; rw [if_pos h8, List.length_append, hn]; rfl, q2, q3, q4⟩
    · obtain ⟨m, rfl⟩ : ∃ m, n = m + 1 := ⟨n - 1, by omega⟩
      have := l2take_last w B hB S.e S.i S.r S.d g m k S.l ho hn (by omega) T (by omega) (by omega) b hb
      rw [← h5] at this
      refine this.mono ?_
      rintro o w' ⟨rfl, q1, q2, q3⟩
      have em : S.l.length - 1 = m := by omega
      exact ⟨g, m + 1, k, rfl, by show ownsB w' B _ (dataZ S.l S.lf b); unfold dataZ; rw [if_neg h8, em]; exact q1, by show m + 1 = (dataZ S.l S.lf b).length; unfold dataZ; rw [if_neg h8, List.length_set]; exact hn, q2, q3, Or.inl rfl⟩
  · exact (l2take_oth w S.f (by omega) (by omega) h3 (by omega) (by omega) h4 h5 S.e S.i S.r S.d _ n k t b).mono (key S (by unfold feedZ; rw [if_neg h1, if_neg h2, if_neg h3, if_neg h4, if_neg h5]) rfl)
end Go.Proofs.YtjmlalojfghkiaaDoor
