import Derived.Test.YtpknchjjfiiaeaaGreatDoorV36
import Derived.Test.YtpknchjjfiiaeaaGreatDoorV14
namespace Go.Proofs.YtpknchjjfiiaeaaGreatDoor
open Go.RowKit
set_option linter.unusedVariables false
theorem fN_mid (m H E E' : Nat) (h : m < H) : J.fieldN m H E = J.fieldN m H E' := by
  unfold J.fieldN
  simp [h]
/-- what a list of fields says of the plain bits from s on -/
def okD (φ : Nat → Nat) : Nat → Nat → List (Nat × List Nat) → Prop
  | _, _, [] => True
  | s, p, (f, b) :: D => p < f ∧ 0 < b.length ∧ (∀ k, k < b.length → φ (s + k) = f) ∧ okD φ (s + b.length) f D
theorem okD_1 (e : Bool) (i : Nat) (r : Bool) (d : Nat) (l : List Nat) (sum : Nat) (h : l.length = dlN r d) : okD (fun m => J.fieldN m (J.bodyH e) (J.bodyL e i r d l).length) 0 0 (lay e i r d l sum 1 11) := by
  have hb := J.bodyL_length e i r d l
  by_cases h0 : r = true ∨ d = 0
  · have hl0 : l = [] := by
      have : dlN r d = 0 := by unfold dlN; rcases h0 with h0 | h0 <;> simp [h0]
      rw [this] at h; exact List.length_eq_zero_iff.mp h
    subst hl0
    cases e
    · simp only [Bool.false_eq_true, if_false, List.length_nil] at hb
      simp [lay, layF, nextN, h0, okD, bitsN, J.M.num_length, sizeN, J.bodyH, hb]
      refine ⟨?_, ?_, ?_, ?_, ?_, ?_, ?_⟩ <;> first | decide | (intro k hk; unfold J.fieldN; grind (splits := 20))
    · simp only [if_true, List.length_nil] at hb
      simp [lay, layF, nextN, h0, okD, bitsN, J.M.num_length, sizeN, J.bodyH, hb]
      refine ⟨?_, ?_, ?_, ?_, ?_, ?_, ?_, ?_, ?_⟩ <;> first | decide | (intro k hk; unfold J.fieldN; grind (splits := 20))
  · have h0' : ¬ (r = true) ∧ ¬ d = 0 := by simpa [not_or] using h0
    have hr : r = false := by simpa using h0'.1
    subst hr
    have hd0 := h0'.2
    have hdl : dlN false d = l.length := h.symm
    have hlp : 0 < l.length := by rw [h]; unfold dlN; simp; omega
    cases e
    · simp only [Bool.false_eq_true, if_false] at hb
      simp [lay, layF, nextN, hd0, okD, bitsN, J.M.num_length, sizeN, J.bodyH, hb, hdl, hlp]
      refine ⟨?_, ?_, ?_, ?_, ?_, ?_, ?_, ?_⟩ <;> first | decide | (intro k hk; unfold J.fieldN; grind (splits := 20)) | (unfold J.fieldN; grind (splits := 20))
    · simp only [if_true] at hb
      simp [lay, layF, nextN, hd0, okD, bitsN, J.M.num_length, sizeN, J.bodyH, hb, hdl, hlp]
      refine ⟨?_, ?_, ?_, ?_, ?_, ?_, ?_, ?_, ?_, ?_⟩ <;> first | decide | (intro k hk; unfold J.fieldN; grind (splits := 20)) | (unfold J.fieldN; grind (splits := 20))
theorem bodyH_le (e : Bool) (i : Nat) (r : Bool) (d : Nat) (l : List Nat) : J.bodyH e ≤ (J.bodyL e i r d l).length ∧ (J.bodyH e = 19 ∨ J.bodyH e = 39) := by
  rw [J.bodyL_length]
  unfold J.bodyH
  cases e <;> simp
theorem okD_2 (e : Bool) (i : Nat) (r : Bool) (d : Nat) (l : List Nat) (sum : Nat) : okD (fun m => J.fieldN m (J.bodyH e) (J.bodyL e i r d l).length) ((J.bodyL e i r d l).length + 15) 10 (lay e i r d l sum 11 15) := by
  obtain ⟨h1, h2⟩ := bodyH_le e i r d l
  generalize (J.bodyL e i r d l).length = E at *
  generalize J.bodyH e = H at *
  simp [lay, layF, nextN, okD, bitsN, J.M.num_length, sizeN]
  refine ⟨?_, ?_, ?_, ?_⟩ <;> first | (intro k hk; unfold J.fieldN; grind (splits := 20)) | (unfold J.fieldN; grind (splits := 20))
/-- the spans, a field for each bit -/
def ex (S : List (Nat × Nat × Nat)) : List Nat := S.flatMap fun x => List.replicate x.2.2 x.1
theorem ex_append (S T : List (Nat × Nat × Nat)) : ex (S ++ T) = ex S ++ ex T := by simp [ex]
theorem ex_len (st : Bool) : ∀ (D : List (Nat × List Nat)) (o : List Nat), (ex (spansL st o D)).length = (feedL st o (lets D)).length - o.length
  | [], o => by simp [spansL, ex, lets, feedL]
  | (f, b) :: D, o => by
    have e : lets ((f, b) :: D) = b ++ lets D := by simp [lets]
    have h1 := feedL_ge st b o
    have h2 := feedL_ge st (lets D) (feedL st o b)
    have ih := ex_len st D (feedL st o b)
    show (ex ((f, o.length, (feedL st o b).length - o.length) :: spansL st (feedL st o b) D)).length = _
    rw [show ex ((f, o.length, (feedL st o b).length - o.length) :: spansL st (feedL st o b) D) = List.replicate ((feedL st o b).length - o.length) f ++ ex (spansL st (feedL st o b) D) by simp [ex], List.length_append, List.length_replicate, ih, e, feedL_append]
    omega
/-- spans one behind the other, of ever greater fields -/
def wfS : Nat → Nat → List (Nat × Nat × Nat) → Prop
  | _, _, [] => True
  | s, p, (f, fr, c) :: S => fr = s ∧ 0 < c ∧ p < f ∧ wfS (s + c) f S
theorem feed_more (st : Bool) (o : List Nat) (c : Nat) : o.length < (feed st o c).length := by
  cases st
  · simp [feed]
  · show o.length < (J.M.stStep o c).length
    unfold J.M.stStep
    split <;> simp
theorem feedL_more (st : Bool) (o l : List Nat) (h : 0 < l.length) : o.length < (feedL st o l).length := by
  cases l with
  | nil => simp at h
  | cons a l =>
    have h1 := feed_more st o a
    have h2 := feedL_ge st l (feed st o a)
    show o.length < (feedL st (feed st o a) l).length
    omega
theorem wfS_spans (st : Bool) (φ : Nat → Nat) : ∀ (D : List (Nat × List Nat)) (o : List Nat) (s p : Nat), okD φ s p D → wfS o.length p (spansL st o D)
  | [], _, _, _, _ => trivial
  | (f, b) :: D, o, s, p, h => by
    have h1 := feedL_more st o b h.2.1
    refine ⟨rfl, by omega, h.1, ?_⟩
    have := wfS_spans st φ D (feedL st o b) (s + b.length) f h.2.2.2
    rw [show o.length + ((feedL st o b).length - o.length) = (feedL st o b).length by omega]
    exact this
theorem wfS_last : ∀ (S T : List (Nat × Nat × Nat)) (s p s' p' : Nat), wfS s p S → (∀ x ∈ S, x.1 ≤ p') → p ≤ p' → s' = s + (ex S).length → wfS s' p' T → wfS s p (S ++ T)
  | [], T, s, p, s', p', _, _, hp, hs, hT => by
    have : s' = s := by simpa [ex] using hs
    subst this
    cases T with
    | nil => trivial
    | cons x T => obtain ⟨f, fr, c⟩ := x; exact ⟨hT.1, hT.2.1, by have := hT.2.2.1; omega, hT.2.2.2⟩
  | (f, fr, c) :: S, T, s, p, s', p', h, hx, hp, hs, hT => by
    refine ⟨h.1, h.2.1, h.2.2.1, wfS_last S T (s + c) f s' p' h.2.2.2 (fun x hx' => hx x (by simp [hx'])) (hx (f, fr, c) (by simp)) ?_ hT⟩
    rw [hs]
    simp [ex]
    omega
theorem fld10 (e : Bool) (i : Nat) (r : Bool) (d : Nat) (l : List Nat) (sum : Nat) : ∀ x ∈ lay e i r d l sum 1 11, x.1 ≤ 10 := by
  intro x hx
  by_cases h0 : r = true ∨ d = 0
  · cases e
    · simp [lay, layF, nextN, h0] at hx
      rcases hx with rfl | rfl | rfl | rfl | rfl | rfl | rfl <;> simp
    · simp [lay, layF, nextN, h0] at hx
      rcases hx with rfl | rfl | rfl | rfl | rfl | rfl | rfl | rfl | rfl <;> simp
  · have h0' : ¬ (r = true) ∧ ¬ d = 0 := by simpa [not_or] using h0
    cases e
    · simp [lay, layF, nextN, h0'] at hx
      rcases hx with rfl | rfl | rfl | rfl | rfl | rfl | rfl | rfl <;> simp
    · simp [lay, layF, nextN, h0'] at hx
      rcases hx with rfl | rfl | rfl | rfl | rfl | rfl | rfl | rfl | rfl | rfl <;> simp
theorem spans_fld (st : Bool) : ∀ (D : List (Nat × List Nat)) (o : List Nat) (p : Nat), (∀ x ∈ D, x.1 ≤ p) → ∀ x ∈ spansL st o D, x.1 ≤ p
  | [], _, _, _, x, hx => by simp [spansL] at hx
  | (f, b) :: D, o, p, h, x, hx => by
    rcases List.mem_cons.1 hx with rfl | hx
    · exact h (f, b) (by simp)
    · exact spans_fld st D (feedL st o b) p (fun y hy => h y (by simp [hy])) x hx
theorem imgS_wf (e : Bool) (i : Nat) (r : Bool) (d : Nat) (l : List Nat) (hl : l.length = dlN r d) (hs : ∀ x ∈ l, x < 256) : wfS 0 0 (imgS e i r d l) ∧ (ex (imgS e i r d l)).length = (imgL e i r d l).length := by
  have hp := lay_plain e i r d l (J.M.crcN ((J.bodyL e i r d l).map (fun x => x - 48))) hl hs
  have ht := lay_tail e i r d l (J.M.crcN ((J.bodyL e i r d l).map (fun x => x - 48)))
  have l1 := ex_len true (lay e i r d l (J.M.crcN ((J.bodyL e i r d l).map (fun x => x - 48))) 1 11) []
  have l2 := ex_len false (lay e i r d l (J.M.crcN ((J.bodyL e i r d l).map (fun x => x - 48))) 11 15) (J.M.stuffL (J.plainL e i r d l))
  rw [hp, feedL_true] at l1
  rw [ht, feedL_false] at l2
  have hP : J.bodyL e i r d l ++ J.M.num (J.M.crcN ((J.bodyL e i r d l).map (fun x => x - 48))) 15 = J.plainL e i r d l := rfl
  rw [hP] at l1
  constructor
  · refine wfS_last _ _ 0 0 (J.M.stuffL (J.plainL e i r d l)).length 10 (wfS_spans true _ _ [] 0 0 (okD_1 e i r d l _ hl)) (spans_fld true _ [] 10 (fld10 e i r d l _)) (by omega) ?_ (wfS_spans false _ _ _ _ 10 (okD_2 e i r d l _))
    rw [l1]; simp
  · unfold imgS imgL
    rw [ex_append, List.length_append, l1, l2, List.length_append]
    simp
/-- the field of the last span -/
def lastF : Nat → List (Nat × Nat × Nat) → Nat
  | p, [] => p
  | _, (f, _, _) :: S => lastF f S
theorem lastF_append : ∀ (S T : List (Nat × Nat × Nat)) (p : Nat), lastF p (S ++ T) = lastF (lastF p S) T
  | [], T, p => rfl
  | (f, a, b) :: S, T, p => by simp only [List.cons_append, lastF]; exact lastF_append S T f
theorem spV_at : ∀ (S : List (Nat × Nat × Nat)) (k f fr c : Nat), S[k]? = some (f, fr, c) → (spV S)[k * 3]? = some (.int .i64 (f : Int)) ∧ (spV S)[k * 3 + 1]? = some (.int .i64 (fr : Int)) ∧ (spV S)[k * 3 + 2]? = some (.int .i64 (c : Int))
  | [], k, f, fr, c, h => by simp at h
  | x :: S, 0, f, fr, c, h => by
    simp at h
    subst h
    simp [spV]
  | x :: S, k + 1, f, fr, c, h => by
    have h' : S[k]? = some (f, fr, c) := by simpa using h
    have ih := spV_at S k f fr c h'
    have e : spV (x :: S) = [.int .i64 (x.1 : Int), .int .i64 (x.2.1 : Int), .int .i64 (x.2.2 : Int)] ++ spV S := by simp [spV]
    rw [e]
    rw [show (k + 1) * 3 = k * 3 + 3 by omega, show k * 3 + 3 + 1 = k * 3 + 1 + 3 by omega, show k * 3 + 3 + 2 = k * 3 + 2 + 3 by omega]
    simpa using ih
theorem ownsS.at {w : World} {B : Nat} {v : Value} {S : List (Nat × Nat × Nat)} (h : ownsS w B v S) (hS : S ≠ []) : ∃ g k, v = .slice (some ⟨g, 0, none⟩) S.length k ∧ ∀ j f fr c : Nat, S[j]? = some (f, fr, c) → w.cell? ⟨g, j * 3, none⟩ = some (.int .i64 (f : Int)) ∧ w.cell? ⟨g, j * 3 + 1, none⟩ = some (.int .i64 (fr : Int)) ∧ w.cell? ⟨g, j * 3 + 2, none⟩ = some (.int .i64 (c : Int)) := by
  have h' := h
  obtain ⟨h1, ⟨h2, h3⟩ | ⟨g, cap, cur, h2, h3, hh, h4⟩⟩ := h'
  · exact absurd (List.length_eq_zero_iff.mp h3) hS
  · refine ⟨g, cap, h2, fun j f fr c hj => ?_⟩
    subst h2
    obtain ⟨q0, q1, q2⟩ := spV_at S j f fr c hj
    have hl : j < S.length := (List.getElem?_eq_some_iff.1 hj).1
    exact ⟨(World.ownsRow.cellAt h _ (by omega)).trans q0, (World.ownsRow.cellAt h _ (by omega)).trans q1, (World.ownsRow.cellAt h _ (by omega)).trans q2⟩
theorem imgS_last (e : Bool) (i : Nat) (r : Bool) (d : Nat) (l : List Nat) : lastF 0 (imgS e i r d l) = 14 := by
  unfold imgS
  rw [lastF_append]
  simp [lay, layF, nextN, spansL, lastF]
theorem wfS_len : ∀ (S : List (Nat × Nat × Nat)) (s p : Nat), wfS s p S → S.length ≤ (ex S).length
  | [], _, _, _ => by simp
  | (f, fr, c) :: S, s, p, h => by
    have ih := wfS_len S (s + c) f h.2.2.2
    have hc := h.2.1
    have e : ex ((f, fr, c) :: S) = List.replicate c f ++ ex S := by simp [ex]
    rw [e, List.length_append, List.length_replicate, List.length_cons]
    omega
theorem imgS_ne (e : Bool) (i : Nat) (r : Bool) (d : Nat) (l : List Nat) : imgS e i r d l ≠ [] := by
  intro h
  have := imgS_last e i r d l
  rw [h] at this
  simp [lastF] at this
/-- what the law has heard of the first k spans -/
structure spK (S : List (Nat × Nat × Nat)) (T k A p : Nat) : Prop where
  le : k ≤ S.length
  wf : wfS A p (S.drop k)
  sum : A + (ex (S.drop k)).length = T
  last : lastF p (S.drop k) = 14
theorem spK.next {S : List (Nat × Nat × Nat)} {T k A p : Nat} (h : spK S T k A p) (hk : k < S.length) : ∃ f c, S[k]? = some (f, A, c) ∧ 0 < c ∧ p < f ∧ A + c ≤ T ∧ spK S T (k + 1) (A + c) f := by
  have hd : S.drop k = S[k] :: S.drop (k + 1) := List.drop_eq_getElem_cons hk
  have hw := h.wf
  have hs := h.sum
  have hl := h.last
  rw [hd] at hw hs hl
  obtain ⟨f, fr, c, hx⟩ : ∃ f fr c, S[k] = (f, fr, c) := ⟨_, _, _, rfl⟩
  rw [hx] at hw hs hl
  have e : ex ((f, fr, c) :: S.drop (k + 1)) = List.replicate c f ++ ex (S.drop (k + 1)) := by simp [ex]
  rw [e, List.length_append, List.length_replicate] at hs
  obtain ⟨rfl, h1, h2, h3⟩ := hw
  refine ⟨f, c, by rw [List.getElem?_eq_getElem hk, hx], h1, h2, by omega, hk, h3, by omega, hl⟩
theorem spK.fin {S : List (Nat × Nat × Nat)} {T k A p : Nat} (h : spK S T k A p) (hk : ¬ k < S.length) : A = T ∧ p = 14 := by
  have hd : S.drop k = [] := List.drop_eq_nil_of_le (by omega)
  have hs := h.sum
  have hl := h.last
  rw [hd] at hs hl
  simp [ex, lastF] at hs hl
  exact ⟨hs, hl⟩
theorem spK.fle {S : List (Nat × Nat × Nat)} {T k A p : Nat} (h : spK S T k A p) : p ≤ 14 := by
  have hl := h.last
  have hw := h.wf
  generalize S.drop k = R at *
  clear h
  have key : ∀ (R : List (Nat × Nat × Nat)) (A p : Nat), wfS A p R → p ≤ lastF p R := by
    intro R
    induction R with
    | nil => intro A p _; exact Nat.le_refl _
    | cons x R ih =>
      intro A p hw
      obtain ⟨f, fr, c⟩ := x
      have := ih _ _ hw.2.2.2
      have := hw.2.2.1
      simp only [lastF]
      omega
  have := key R A p hw
  omega
theorem spK.zero (e : Bool) (i : Nat) (r : Bool) (d : Nat) (l : List Nat) (hl : l.length = dlN r d) (hs : ∀ x ∈ l, x < 256) : spK (imgS e i r d l) (imgL e i r d l).length 0 0 0 := by
  obtain ⟨h1, h2⟩ := imgS_wf e i r d l hl hs
  exact ⟨Nat.zero_le _, h1, by simpa using h2, imgS_last e i r d l⟩
end Go.Proofs.YtpknchjjfiiaeaaGreatDoor
