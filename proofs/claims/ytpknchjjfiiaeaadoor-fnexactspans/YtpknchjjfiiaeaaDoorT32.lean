import Derived.Test.YtpknchjjfiiaeaaDoorT30
import Derived.Test.YtpknchjjfiiaeaaDoorT22
namespace Go.Proofs.YtpknchjjfiiaeaaDoor
open Go.RowKit
set_option linter.unusedVariables false
theorem fN_low (m H E H' E' : Nat) (h : m < 14) : J.fieldN m H E = J.fieldN m H' E' := by
  unfold J.fieldN
  by_cases h0 : m = 0
  · simp [h0]
  · by_cases h1 : m < 12
    · simp [h0, h1]
    · by_cases h2 : m = 12
      · simp [h2]
      · have h3 : m = 13 := by omega
        simp [h3]
theorem fN_mid (m H E E' : Nat) (h : m < H) : J.fieldN m H E = J.fieldN m H E' := by
  unfold J.fieldN
  simp [h]
/-- the field of a plain bit of an image -/
theorem phi (e : Bool) (i : Nat) (r : Bool) (d : Nat) (l t : List Nat) (h : J.fits r d l) (m : Nat) (hm : m ≤ (J.bodyL e i r d l ++ t).length) : J.fieldL ((J.bodyL e i r d l ++ t).take m) = J.fieldN m (J.bodyH e) (J.bodyL e i r d l).length := by
  obtain ⟨b1, b2, b3, b4⟩ := J.body_lay e i r d l t h
  rw [J.fieldL_eq]
  have hl : ((J.bodyL e i r d l ++ t).take m).length = m := by rw [List.length_take]; omega
  rw [hl]
  by_cases h14 : m < 14
  · exact fN_low _ _ _ _ _ h14
  · have hH : J.layH ((J.bodyL e i r d l ++ t).take m) = J.bodyH e := by
      rw [← b1]
      unfold J.layH
      have : ((J.bodyL e i r d l ++ t).take m).getD 13 0 = (J.bodyL e i r d l ++ t).getD 13 0 := by
        rw [List.getD_eq_getElem?_getD, List.getD_eq_getElem?_getD, List.getElem?_take_of_lt (by omega)]
      rw [this]
    rw [hH]
    by_cases hlt : m < J.bodyH e
    · exact fN_mid _ _ _ _ hlt
    · have := J.lay_pre ((J.bodyL e i r d l ++ t).take m) ((J.bodyL e i r d l ++ t).drop m) (by rw [hH, hl]; omega)
      rw [List.take_append_drop, b3] at this
      rw [← this.2.2]
/-- what a list of fields says of the plain bits from s on -/
def okD (φ : Nat → Nat) : Nat → Nat → List (Nat × List Nat) → Prop
  | _, _, [] => True
  | s, p, (f, b) :: D => p < f ∧ 0 < b.length ∧ (∀ k, k < b.length → φ (s + k) = f) ∧ okD φ (s + b.length) f D
theorem okD_1 (e : Bool) (i : Nat) (r : Bool) (d : Nat) (l : List Nat) (sum : Nat) (h : l.length = dlN r d) : okD (fun m => J.fieldN m (J.bodyH e) (J.bodyL e i r d l).length) 0 0 (lay e i r d l sum 1 11) := by
  have hb := J.bodyL_length e i r d l
  by_cases h0 : r = true ∨ d = 0
  · have hl0 : l = [] := by
      have : dlN r d = 0 := by unfold dlN; rcases h0 with h0 | h0 <;> simp [h0]
      rw [this] at h; exact List.length_eq_zero_iff.mp h
    subst hl0
    cases e
    · simp only [Bool.false_eq_true, if_false, List.length_nil] at hb
      simp [lay, layF, nextN, h0, okD, bitsN, J.M.num_length, sizeN, J.bodyH, hb]
      refine ⟨?_, ?_, ?_, ?_, ?_, ?_, ?_⟩ <;> first | decide | (intro k hk; unfold J.fieldN; grind (splits := 20))
    · simp only [if_true, List.length_nil] at hb
      simp [lay, layF, nextN, h0, okD, bitsN, J.M.num_length, sizeN, J.bodyH, hb]
      refine ⟨?_, ?_, ?_, ?_, ?_, ?_, ?_, ?_, ?_⟩ <;> first | decide | (intro k hk; unfold J.fieldN; grind (splits := 20))
  · have h0' : ¬ (r = true) ∧ ¬ d = 0 := by simpa [not_or] using h0
    have hr : r = false := by simpa using h0'.1
    subst hr
    have hd0 := h0'.2
    have hdl : dlN false d = l.length := h.symm
    have hlp : 0 < l.length := by rw [h]; unfold dlN; simp; omega
    cases e
    · simp only [Bool.false_eq_true, if_false] at hb
      simp [lay, layF, nextN, hd0, okD, bitsN, J.M.num_length, sizeN, J.bodyH, hb, hdl, hlp]
      refine ⟨?_, ?_, ?_, ?_, ?_, ?_, ?_, ?_⟩ <;> first | decide | (intro k hk; unfold J.fieldN; grind (splits := 20)) | (unfold J.fieldN; grind (splits := 20))
    · simp only [if_true] at hb
      simp [lay, layF, nextN, hd0, okD, bitsN, J.M.num_length, sizeN, J.bodyH, hb, hdl, hlp]
      refine ⟨?_, ?_, ?_, ?_, ?_, ?_, ?_, ?_, ?_, ?_⟩ <;> first | decide | (intro k hk; unfold J.fieldN; grind (splits := 20)) | (unfold J.fieldN; grind (splits := 20))
theorem bodyH_le (e : Bool) (i : Nat) (r : Bool) (d : Nat) (l : List Nat) : J.bodyH e ≤ (J.bodyL e i r d l).length ∧ (J.bodyH e = 19 ∨ J.bodyH e = 39) := by
  rw [J.bodyL_length]
  unfold J.bodyH
  cases e <;> simp
theorem okD_2 (e : Bool) (i : Nat) (r : Bool) (d : Nat) (l : List Nat) (sum : Nat) : okD (fun m => J.fieldN m (J.bodyH e) (J.bodyL e i r d l).length) ((J.bodyL e i r d l).length + 15) 10 (lay e i r d l sum 11 15) := by
  obtain ⟨h1, h2⟩ := bodyH_le e i r d l
  generalize (J.bodyL e i r d l).length = E at *
  generalize J.bodyH e = H at *
  simp [lay, layF, nextN, okD, bitsN, J.M.num_length, sizeN]
  refine ⟨?_, ?_, ?_, ?_⟩ <;> first | (intro k hk; unfold J.fieldN; grind (splits := 20)) | (unfold J.fieldN; grind (splits := 20))
/-- the spans, a field for each bit -/
def ex (S : List (Nat × Nat × Nat)) : List Nat := S.flatMap fun x => List.replicate x.2.2 x.1
theorem ex_append (S T : List (Nat × Nat × Nat)) : ex (S ++ T) = ex S ++ ex T := by simp [ex]
theorem ex_len (st : Bool) : ∀ (D : List (Nat × List Nat)) (o : List Nat), (ex (spansL st o D)).length = (feedL st o (lets D)).length - o.length
  | [], o => by simp [spansL, ex, lets, feedL]
  | (f, b) :: D, o => by
    have e : lets ((f, b) :: D) = b ++ lets D := by simp [lets]
    have h1 := feedL_ge st b o
    have h2 := feedL_ge st (lets D) (feedL st o b)
    have ih := ex_len st D (feedL st o b)
    show (ex ((f, o.length, (feedL st o b).length - o.length) :: spansL st (feedL st o b) D)).length = _
    rw [show ex ((f, o.length, (feedL st o b).length - o.length) :: spansL st (feedL st o b) D) = List.replicate ((feedL st o b).length - o.length) f ++ ex (spansL st (feedL st o b) D) by simp [ex], List.length_append, List.length_replicate, ih, e, feedL_append]
    omega
theorem feedL_mono (st : Bool) (o l : List Nat) (m : Nat) : (feedL st o (l.take m)).length ≤ (feedL st o l).length := by
  have := feedL_ge st (l.drop m) (feedL st o (l.take m))
  rw [← feedL_append, List.take_append_drop] at this
  exact this
/-- which field each bit put out is of -/
theorem ex_at (st : Bool) (φ : Nat → Nat) : ∀ (D : List (Nat × List Nat)) (o : List Nat) (s p : Nat), okD φ s p D → ∀ m, m < (lets D).length → ∀ j, (feedL st o ((lets D).take m)).length ≤ j → j < (feedL st o ((lets D).take (m + 1))).length → (ex (spansL st o D))[j - o.length]? = some (φ (s + m))
  | [], o, s, p, _, m, hm, j, _, _ => by simp [lets] at hm
  | (f, b) :: D, o, s, p, h, m, hm, j, h1, h2 => by
    obtain ⟨hp, hb, hf, hD⟩ := h
    have e : lets ((f, b) :: D) = b ++ lets D := by simp [lets]
    rw [e] at hm h1 h2
    have hge := feedL_ge st b o
    have hj : o.length ≤ j := Nat.le_trans (feedL_ge st _ o) h1
    show (ex ((f, o.length, (feedL st o b).length - o.length) :: spansL st (feedL st o b) D))[j - o.length]? = _
    rw [show ex ((f, o.length, (feedL st o b).length - o.length) :: spansL st (feedL st o b) D) = List.replicate ((feedL st o b).length - o.length) f ++ ex (spansL st (feedL st o b) D) by simp [ex]]
    by_cases hmb : m < b.length
    · have hle : (feedL st o ((b ++ lets D).take (m + 1))).length ≤ (feedL st o b).length := by
        rw [List.take_append_of_le_length (by omega)]
        exact feedL_mono st o b (m + 1)
      rw [List.getElem?_append_left (by rw [List.length_replicate]; omega), List.getElem?_replicate, if_pos (by omega), hf m hmb]
    · have e1 : (b ++ lets D).take m = b ++ (lets D).take (m - b.length) := by
        rw [List.take_append, List.take_of_length_le (by omega)]
      have e2 : (b ++ lets D).take (m + 1) = b ++ (lets D).take (m - b.length + 1) := by
        rw [List.take_append, List.take_of_length_le (by omega)]
        congr 2
        omega
      rw [e1, feedL_append] at h1
      rw [e2, feedL_append] at h2
      have hjb : (feedL st o b).length ≤ j := Nat.le_trans (feedL_ge st _ _) h1
      have ih := ex_at st φ D (feedL st o b) (s + b.length) f hD (m - b.length) (by rw [List.length_append] at hm; omega) j h1 h2
      rw [List.getElem?_append_right (by rw [List.length_replicate]; omega), List.length_replicate, show j - o.length - ((feedL st o b).length - o.length) = j - (feedL st o b).length by omega, ih]
      congr 2
      omega
/-- spans one behind the other, of ever greater fields -/
def wfS : Nat → Nat → List (Nat × Nat × Nat) → Prop
  | _, _, [] => True
  | s, p, (f, fr, c) :: S => fr = s ∧ 0 < c ∧ p < f ∧ wfS (s + c) f S
theorem feed_more (st : Bool) (o : List Nat) (c : Nat) : o.length < (feed st o c).length := by
  cases st
  · simp [feed]
  · show o.length < (J.M.stStep o c).length
    unfold J.M.stStep
    split <;> simp
theorem feedL_more (st : Bool) (o l : List Nat) (h : 0 < l.length) : o.length < (feedL st o l).length := by
  cases l with
  | nil => simp at h
  | cons a l =>
    have h1 := feed_more st o a
    have h2 := feedL_ge st l (feed st o a)
    show o.length < (feedL st (feed st o a) l).length
    omega
theorem wfS_spans (st : Bool) (φ : Nat → Nat) : ∀ (D : List (Nat × List Nat)) (o : List Nat) (s p : Nat), okD φ s p D → wfS o.length p (spansL st o D)
  | [], _, _, _, _ => trivial
  | (f, b) :: D, o, s, p, h => by
    have h1 := feedL_more st o b h.2.1
    refine ⟨rfl, by omega, h.1, ?_⟩
    have := wfS_spans st φ D (feedL st o b) (s + b.length) f h.2.2.2
    rw [show o.length + ((feedL st o b).length - o.length) = (feedL st o b).length by omega]
    exact this
theorem wfS_last : ∀ (S T : List (Nat × Nat × Nat)) (s p s' p' : Nat), wfS s p S → (∀ x ∈ S, x.1 ≤ p') → p ≤ p' → s' = s + (ex S).length → wfS s' p' T → wfS s p (S ++ T)
  | [], T, s, p, s', p', _, _, hp, hs, hT => by
    have : s' = s := by simpa [ex] using hs
    subst this
    cases T with
    | nil => trivial
    | cons x T => obtain ⟨f, fr, c⟩ := x; exact ⟨hT.1, hT.2.1, by have := hT.2.2.1; omega, hT.2.2.2⟩
  | (f, fr, c) :: S, T, s, p, s', p', h, hx, hp, hs, hT => by
    refine ⟨h.1, h.2.1, h.2.2.1, wfS_last S T (s + c) f s' p' h.2.2.2 (fun x hx' => hx x (by simp [hx'])) (hx (f, fr, c) (by simp)) ?_ hT⟩
    rw [hs]
    simp [ex]
    omega
theorem fits_of {r : Bool} {d : Nat} {l : List Nat} (hd : d ≤ 15) (hl : l.length = dlN r d) (hs : ∀ x ∈ l, x < 256) : J.fits r d l := ⟨hd, hl, hs⟩
theorem img_same (e : Bool) (i : Nat) (r : Bool) (d : Nat) (l : List Nat) : J.imgL e i r d l 49 = imgL e i r d l := rfl
theorem sw_plain (L : List Nat) (j : Nat) (h : (J.sw L j).2.2 = false) : (J.sw L (j + 1)).2.1 = (J.sw L j).2.1 ++ [L.getD j 0] := by
  show (J.swStep L j (J.sw L j)).2.1 = _
  unfold J.swStep
  simp [h]
theorem find_m (P : Nat → Nat) (j : Nat) (h0 : P 0 = 0) : ∀ n, j < P n → ∃ m, m < n ∧ P m ≤ j ∧ j < P (m + 1)
  | 0, h => by omega
  | n + 1, h => by
    by_cases hn : j < P n
    · obtain ⟨m, h1, h2⟩ := find_m P j h0 n hn
      exact ⟨m, by omega, h2⟩
    · exact ⟨n, by omega, by omega, h⟩
theorem fld10 (e : Bool) (i : Nat) (r : Bool) (d : Nat) (l : List Nat) (sum : Nat) : ∀ x ∈ lay e i r d l sum 1 11, x.1 ≤ 10 := by
  intro x hx
  by_cases h0 : r = true ∨ d = 0
  · cases e
    · simp [lay, layF, nextN, h0] at hx
      rcases hx with rfl | rfl | rfl | rfl | rfl | rfl | rfl <;> simp
    · simp [lay, layF, nextN, h0] at hx
      rcases hx with rfl | rfl | rfl | rfl | rfl | rfl | rfl | rfl | rfl <;> simp
  · have h0' : ¬ (r = true) ∧ ¬ d = 0 := by simpa [not_or] using h0
    cases e
    · simp [lay, layF, nextN, h0'] at hx
      rcases hx with rfl | rfl | rfl | rfl | rfl | rfl | rfl | rfl <;> simp
    · simp [lay, layF, nextN, h0'] at hx
      rcases hx with rfl | rfl | rfl | rfl | rfl | rfl | rfl | rfl | rfl | rfl <;> simp
theorem spans_fld (st : Bool) : ∀ (D : List (Nat × List Nat)) (o : List Nat) (p : Nat), (∀ x ∈ D, x.1 ≤ p) → ∀ x ∈ spansL st o D, x.1 ≤ p
  | [], _, _, _, x, hx => by simp [spansL] at hx
  | (f, b) :: D, o, p, h, x, hx => by
    rcases List.mem_cons.1 hx with rfl | hx
    · exact h (f, b) (by simp)
    · exact spans_fld st D (feedL st o b) p (fun y hy => h y (by simp [hy])) x hx
theorem imgS_wf (e : Bool) (i : Nat) (r : Bool) (d : Nat) (l : List Nat) (hl : l.length = dlN r d) (hs : ∀ x ∈ l, x < 256) : wfS 0 0 (imgS e i r d l) ∧ (ex (imgS e i r d l)).length = (imgL e i r d l).length := by
  have hp := lay_plain e i r d l (J.M.crcN ((J.bodyL e i r d l).map (fun x => x - 48))) hl hs
  have ht := lay_tail e i r d l (J.M.crcN ((J.bodyL e i r d l).map (fun x => x - 48)))
  have l1 := ex_len true (lay e i r d l (J.M.crcN ((J.bodyL e i r d l).map (fun x => x - 48))) 1 11) []
  have l2 := ex_len false (lay e i r d l (J.M.crcN ((J.bodyL e i r d l).map (fun x => x - 48))) 11 15) (J.M.stuffL (J.plainL e i r d l))
  rw [hp, feedL_true] at l1
  rw [ht, feedL_false] at l2
  have hP : J.bodyL e i r d l ++ J.M.num (J.M.crcN ((J.bodyL e i r d l).map (fun x => x - 48))) 15 = J.plainL e i r d l := rfl
  rw [hP] at l1
  constructor
  · refine wfS_last _ _ 0 0 (J.M.stuffL (J.plainL e i r d l)).length 10 (wfS_spans true _ _ [] 0 0 (okD_1 e i r d l _ hl)) (spans_fld true _ [] 10 (fld10 e i r d l _)) (by omega) ?_ (wfS_spans false _ _ _ _ 10 (okD_2 e i r d l _))
    rw [l1]; simp
  · unfold imgS imgL
    rw [ex_append, List.length_append, l1, l2, List.length_append]
    simp
/-- what the judge says at a beginning of an image, against the spans -/
theorem img_fld (e : Bool) (i : Nat) (r : Bool) (d : Nat) (l : List Nat) (hd : d ≤ 15) (hl : l.length = dlN r d) (hs : ∀ x ∈ l, x < 256) (j : Nat) (hj : j < (imgL e i r d l).length) :
    ((J.sw (imgL e i r d l) j).2.2 = false → (ex (imgS e i r d l))[j]? = some (J.fieldL (J.sw (imgL e i r d l) j).2.1)) ∧ ((J.sw (imgL e i r d l) j).2.2 = true → 0 < j ∧ (ex (imgS e i r d l))[j]? = (ex (imgS e i r d l))[j - 1]?) := by
  have hf := fits_of hd hl hs
  have hp := lay_plain e i r d l (J.M.crcN ((J.bodyL e i r d l).map (fun x => x - 48))) hl hs
  have ht := lay_tail e i r d l (J.M.crcN ((J.bodyL e i r d l).map (fun x => x - 48)))
  have hP : J.bodyL e i r d l ++ J.M.num (J.M.crcN ((J.bodyL e i r d l).map (fun x => x - 48))) 15 = J.plainL e i r d l := rfl
  rw [hP] at hp
  have l1 := ex_len true (lay e i r d l (J.M.crcN ((J.bodyL e i r d l).map (fun x => x - 48))) 1 11) []
  rw [hp, feedL_true] at l1
  simp only [List.length_nil, Nat.sub_zero] at l1
  have a1 := ex_at true _ _ [] 0 0 (okD_1 e i r d l (J.M.crcN ((J.bodyL e i r d l).map (fun x => x - 48))) hl)
  have a2 := ex_at false _ _ (J.M.stuffL (J.plainL e i r d l)) _ 10 (okD_2 e i r d l (J.M.crcN ((J.bodyL e i r d l).map (fun x => x - 48))))
  rw [hp] at a1
  rw [ht] at a2
  unfold imgS
  rw [ex_append]
  generalize lay e i r d l (J.M.crcN ((J.bodyL e i r d l).map (fun x => x - 48))) 1 11 = D1 at *
  generalize lay e i r d l (J.M.crcN ((J.bodyL e i r d l).map (fun x => x - 48))) 11 15 = D2 at *
  by_cases hjs : j < (J.M.stuffL (J.plainL e i r d l)).length
  · have hx := J.lay_plainL e i r d l hf
    have hLl : ∀ y ∈ imgL e i r d l, J.M.isL y := imgL_isL e i r d l
    have hws := J.walk_stuff (J.plainL e i r d l) (imgL e i r d l) hx hLl (by unfold imgL; exact List.take_left' rfl)
    obtain ⟨m, hm, h1, h2⟩ := find_m (fun m => (J.M.stuffL ((J.plainL e i r d l).take m)).length) j (by simp [J.M.stuffL]) (J.plainL e i r d l).length (by rw [List.take_length]; exact hjs)
    have hw1 := (hws m (by omega)).2
    have hw2 := (hws (m + 1) (by omega)).2
    have hphi : J.fieldL ((J.plainL e i r d l).take m) = J.fieldN m (J.bodyH e) (J.bodyL e i r d l).length := by
      have := phi e i r d l (J.M.num (J.M.crcN ((J.bodyL e i r d l).map (fun x => x - 48))) 15) hf m (by rw [hP]; omega)
      rw [hP] at this
      exact this
    have hat : ∀ j', (J.M.stuffL ((J.plainL e i r d l).take m)).length ≤ j' → j' < (J.M.stuffL ((J.plainL e i r d l).take (m + 1))).length → (ex (spansL true [] D1) ++ ex (spansL false (J.M.stuffL (J.plainL e i r d l)) D2))[j']? = some (J.fieldN m (J.bodyH e) (J.bodyL e i r d l).length) := by
      intro j' g1 g2
      have := a1 m hm j' (by rw [feedL_true]; exact g1) (by rw [feedL_true]; exact g2)
      simp only [List.length_nil, Nat.sub_zero, Nat.zero_add] at this
      have hlt : j' < (ex (spansL true [] D1)).length := by rw [List.getElem?_eq_some_iff] at this; exact this.1
      rw [List.getElem?_append_left hlt, this]
    have hle : (J.M.stuffL ((J.plainL e i r d l).take (m + 1))).length ≤ (J.M.stuffL ((J.plainL e i r d l).take m)).length + 2 := by
      rw [J.take_get _ m hm, J.M.stuffL_snoc]
      unfold J.M.stStep
      split <;> simp
    have h1 : (J.M.stuffL ((J.plainL e i r d l).take m)).length ≤ j := h1
    have h2 : j < (J.M.stuffL ((J.plainL e i r d l).take (m + 1))).length := h2
    by_cases hjm : j = (J.M.stuffL ((J.plainL e i r d l).take m)).length
    · rw [hjm, hw1]
      refine ⟨fun _ => ?_, fun h => by cases h⟩
      rw [← hjm, hat j h1 h2]
      rw [hphi]
    · have hj1 : j = (J.M.stuffL ((J.plainL e i r d l).take m)).length + 1 := by omega
      have hP2 : (J.M.stuffL ((J.plainL e i r d l).take (m + 1))).length = (J.M.stuffL ((J.plainL e i r d l).take m)).length + 2 := by omega
      have hdue : (J.sw (imgL e i r d l) j).2.2 = true := by
        cases hq : (J.sw (imgL e i r d l) j).2.2
        · exfalso
          have s1 := sw_plain (imgL e i r d l) (J.M.stuffL ((J.plainL e i r d l).take m)).length (by rw [hw1])
          have s2 := sw_plain (imgL e i r d l) j hq
          rw [hw1, ← hj1] at s1
          rw [s1, show j + 1 = (J.M.stuffL ((J.plainL e i r d l).take (m + 1))).length by omega, hw2] at s2
          have := congrArg List.length s2
          simp at this
          omega
        · rfl
      rw [hdue]
      refine ⟨fun h => (by cases h), fun _ => ⟨by omega, ?_⟩⟩
      rw [hat j h1 h2, hat (j - 1) (by omega) (by omega)]
  · obtain ⟨k, rfl⟩ : ∃ k, j = (J.M.stuffL (J.plainL e i r d l)).length + k := ⟨j - (J.M.stuffL (J.plainL e i r d l)).length, by omega⟩
    have hk : k < 10 := by
      have : (imgL e i r d l).length = (J.M.stuffL (J.plainL e i r d l)).length + 10 := by simp [imgL]
      omega
    have htw := J.tail_walk e i r d l 49 hf (.inr rfl) k (by omega)
    have htw : J.sw (imgL e i r d l) ((J.M.stuffL (J.plainL e i r d l)).length + k) = (if k = 10 then 2 else if k = 9 then 1 else 0, J.plainL e i r d l ++ (J.tailT 49).take k, false) := htw
    rw [htw]
    refine ⟨fun _ => ?_, fun h => by cases h⟩
    have hphi : J.fieldL (J.plainL e i r d l ++ (J.tailT 49).take k) = J.fieldN ((J.bodyL e i r d l).length + 15 + k) (J.bodyH e) (J.bodyL e i r d l).length := by
      have hplen := J.plainL_len e i r d l
      have := phi e i r d l (J.M.num (J.M.crcN ((J.bodyL e i r d l).map (fun x => x - 48))) 15 ++ J.tailT 49) hf ((J.bodyL e i r d l).length + 15 + k) (by rw [← List.append_assoc, hP, List.length_append, hplen, J.tailT_len]; omega)
      rw [← List.append_assoc, hP, ← hplen, List.take_append, List.take_of_length_le (by omega), Nat.add_sub_cancel_left] at this
      rw [hplen] at this
      exact this
    have := a2 k (by simp; exact hk) ((J.M.stuffL (J.plainL e i r d l)).length + k) (by rw [feedL_false, List.length_append, List.length_take, List.length_replicate]; omega) (by rw [feedL_false, List.length_append, List.length_take, List.length_replicate]; omega)
    rw [Nat.add_sub_cancel_left] at this
    rw [List.getElem?_append_right (by omega), l1, Nat.add_sub_cancel_left, this, hphi]
theorem wfS_mid : ∀ (A T : List (Nat × Nat × Nat)) (s p : Nat), wfS s p (A ++ T) → ∃ p', wfS (s + (ex A).length) p' T
  | [], T, s, p, h => ⟨p, by simpa [ex] using h⟩
  | (f, fr, c) :: A, T, s, p, h => by
    obtain ⟨p', hp⟩ := wfS_mid A T (s + c) f h.2.2.2
    refine ⟨p', ?_⟩
    have e : s + (ex ((f, fr, c) :: A)).length = s + c + (ex A).length := by simp [ex]; omega
    rw [e]; exact hp
/-- what the model has put out behind j bits -/
def RS (S : List (Nat × Nat × Nat)) (j : Nat) (out : List (Nat × Nat × Nat)) (last : Nat) : Prop :=
  (j = 0 ∧ out = [] ∧ last = 0) ∨ ∃ A f fr c T, S = A ++ (f, fr, c) :: T ∧ fr < j ∧ j ≤ fr + c ∧ out = A ++ [(f, fr, j - fr)] ∧ last = f
theorem ex_mid (A T : List (Nat × Nat × Nat)) (f fr c j : Nat) (h1 : (ex A).length ≤ j) (h2 : j < (ex A).length + c) : (ex (A ++ (f, fr, c) :: T))[j]? = some f := by
  rw [show ex (A ++ (f, fr, c) :: T) = ex A ++ (List.replicate c f ++ ex T) by simp [ex], List.getElem?_append_right h1, List.getElem?_append_left (by rw [List.length_replicate]; omega), List.getElem?_replicate, if_pos (by omega)]
theorem RS.prev {S : List (Nat × Nat × Nat)} {j : Nat} {out : List (Nat × Nat × Nat)} {last : Nat} (hw : wfS 0 0 S) (h : RS S j out last) (hj : 0 < j) : (ex S)[j - 1]? = some last := by
  rcases h with ⟨h0, _⟩ | ⟨A, f, fr, c, T, rfl, h1, h2, rfl, rfl⟩
  · omega
  · obtain ⟨p', q⟩ := wfS_mid A _ 0 0 hw
    have := q.1
    exact ex_mid A T last fr c (j - 1) (by omega) (by omega)
theorem RS.step {S : List (Nat × Nat × Nat)} {j : Nat} {out : List (Nat × Nat × Nat)} {last F : Nat} (hw : wfS 0 0 S) (h : RS S j out last) (hF : (ex S)[j]? = some F) :
    (F = last → ∃ A f fr c, out = A ++ [(f, fr, c)] ∧ RS S (j + 1) (A ++ [(f, fr, c + 1)]) last) ∧ (F ≠ last → RS S (j + 1) (out ++ [(F, j, 1)]) F) := by
  have hjl : j < (ex S).length := by rw [List.getElem?_eq_some_iff] at hF; exact hF.1
  rcases h with ⟨rfl, rfl, rfl⟩ | ⟨A, f, fr, c, T, rfl, h1, h2, rfl, rfl⟩
  · cases S with
    | nil => simp [ex] at hjl
    | cons x T =>
      obtain ⟨f, fr, c⟩ := x
      obtain ⟨g1, g2, g3, g4⟩ := hw
      have := ex_mid [] T f fr c 0 (by simp [ex]) (by simp [ex]; omega)
      rw [List.nil_append] at this
      rw [this] at hF
      cases hF
      refine ⟨fun e => by omega, fun _ => .inr ⟨[], F, fr, c, T, rfl, by omega, by omega, ?_, rfl⟩⟩
      simp [g1]
  · obtain ⟨p', q⟩ := wfS_mid A _ 0 0 hw
    obtain ⟨q1, q2, q3, q4⟩ := q
    by_cases hlt : j < fr + c
    · have := ex_mid A T last fr c j (by omega) (by omega)
      rw [this] at hF
      cases hF
      refine ⟨fun _ => ⟨A, last, fr, j - fr, rfl, .inr ⟨A, last, fr, c, T, rfl, by omega, by omega, ?_, rfl⟩⟩, fun e => absurd rfl e⟩
      rw [show j - fr + 1 = j + 1 - fr by omega]
    · cases T with
      | nil =>
        exfalso
        have : (ex (A ++ [(last, fr, c)])).length = (ex A).length + c := by simp [ex]
        omega
      | cons x T =>
        obtain ⟨f2, fr2, c2⟩ := x
        obtain ⟨r1, r2, r3, r4⟩ := q4
        have e1 : A ++ (last, fr, c) :: (f2, fr2, c2) :: T = (A ++ [(last, fr, c)]) ++ (f2, fr2, c2) :: T := by simp
        have e2 : (ex (A ++ [(last, fr, c)])).length = (ex A).length + c := by simp [ex]
        have := ex_mid (A ++ [(last, fr, c)]) T f2 fr2 c2 j (by omega) (by omega)
        rw [← e1] at this
        rw [this] at hF
        cases hF
        refine ⟨fun e => by omega, fun _ => .inr ⟨A ++ [(last, fr, c)], F, fr2, c2, T, e1, by omega, by omega, ?_, rfl⟩⟩
        have e3 : j - fr = c := by omega
        have e4 : j = fr2 := by omega
        rw [e3]
        simp [e4]
theorem RS.done {S : List (Nat × Nat × Nat)} {out : List (Nat × Nat × Nat)} {last : Nat} (hw : wfS 0 0 S) (h : RS S (ex S).length out last) : out = S := by
  rcases h with ⟨h0, rfl, _⟩ | ⟨A, f, fr, c, T, rfl, h1, h2, rfl, rfl⟩
  · cases S with
    | nil => rfl
    | cons x T =>
      obtain ⟨f, fr, c⟩ := x
      have := hw.2.1
      simp [ex] at h0
      omega
  · obtain ⟨p', q1, q2, q3, q4⟩ := wfS_mid A _ 0 0 hw
    have e : (ex (A ++ (last, fr, c) :: T)).length = (ex A).length + c + (ex T).length := by simp [ex]; omega
    cases T with
    | nil =>
      have e' : (ex (A ++ [(last, fr, c)])).length = (ex A).length + c := by simp [ex]
      have : (ex (A ++ [(last, fr, c)])).length - fr = c := by rw [e']; omega
      rw [this]
    | cons x T =>
      exfalso
      obtain ⟨f2, fr2, c2⟩ := x
      have := q4.2.1
      have : (ex ((f2, fr2, c2) :: T)).length = c2 + (ex T).length := by simp [ex]
      omega
/-- the model's Judge at a beginning of an image -/
theorem judge_at (e : Bool) (i : Nat) (r : Bool) (d : Nat) (l : List Nat) (hd : d ≤ 15) (hl : l.length = dlN r d) (hs : ∀ x ∈ l, x < 256) (j : Nat) (hj : j < (imgL e i r d l).length) (W : World) :
    Calls Tryd.prog 31 #[.string ((strN (imgL e i r d l)).extract 0 j)] W fun y w' => ∃ cd ck, y = .returned (.agg #[.int .i64 cd, .int .i64 ((J.fieldL (J.sw (imgL e i r d l) j).2.1 : Nat) : Int), .bool (J.sw (imgL e i r d l) j).2.2, .bool ck]) ∧ Below W.heap.size W w' := by
  have hf := fits_of hd hl hs
  have hlen := imgL_len e i r d l (by rw [hl]; unfold dlN; split <;> omega)
  have es : (strN (imgL e i r d l)).extract 0 j = J.strN ((imgL e i r d l).take j) := J.strN_take _ j
  rw [es]
  have hz := J.img_swZ e i r d l 49 hf (.inr rfl) j (by rw [img_same]; omega)
  rw [img_same] at hz
  refine (J.specJudge_any (J.strN ((imgL e i r d l).take j)) W (by have := J.strN_size ((imgL e i r d l).take j); rw [List.length_take] at this; unfold maxLen; omega)).mono ?_
  rintro y w' ⟨rfl, hb⟩
  rw [hz]
  have hL10 : (imgL e i r d l).length = (J.M.stuffL (J.plainL e i r d l)).length + 10 := by simp [imgL]
  have hc := J.img_codes e i r d l 49 hf (.inr rfl) j (by omega)
  have hc : (J.sw (imgL e i r d l) j).1 = _ := hc
  have hgo : J.goesOnB (J.sw (imgL e i r d l) j).1 = true := by
    have hL : (imgL e i r d l).length = (J.M.stuffL (J.plainL e i r d l)).length + 10 := by simp [imgL]
    rw [hc, if_neg (by omega)]
    split <;> rfl
  refine ⟨((J.sw (imgL e i r d l) j).1 : Int), J.crcOkL (J.sw (imgL e i r d l) j).2.1, ?_, hb⟩
  unfold J.sjV
  rw [if_pos hgo]
theorem ownsS.stored {w : World} {B g cap : Nat} {A : List (Nat × Nat × Nat)} {f fr c n : Nat} (hn : n = A.length) (h : ownsS w B (.slice (some ⟨g, 0, none⟩) (n + 1) cap) (A ++ [(f, fr, c)])) : w.cell? ⟨g, n * 3 + 2, none⟩ = some (.int .i64 (c : Int)) ∧ w.frozen? ⟨g, n * 3 + 2, none⟩ = false ∧ ownsS (w.setCell ⟨g, n * 3 + 2, none⟩ (.int .i64 ((c : Int) + 1))) B (.slice (some ⟨g, 0, none⟩) (n + 1) cap) (A ++ [(f, fr, c + 1)]) := by
  subst hn
  have hlen : (spV (A ++ [(f, fr, c)])).length = (A.length + 1) * 3 := by rw [spV_len]; simp
  have hsp : spV (A ++ [(f, fr, c)]) = spV A ++ [.int .i64 (f : Int), .int .i64 (fr : Int), .int .i64 (c : Int)] := by simp [spV]
  have hA : (spV A).length = A.length * 3 := spV_len A
  have hget : (spV (A ++ [(f, fr, c)]))[A.length * 3 + 2]? = some (.int .i64 (c : Int)) := by
    rw [hsp, List.getElem?_append_right (by omega), hA, Nat.add_sub_cancel_left]
    rfl
  have hset : spV (A ++ [(f, fr, c + 1)]) = (spV (A ++ [(f, fr, c)])).set (A.length * 3 + 2) (.int .i64 ((c : Int) + 1)) := by
    rw [hsp, List.set_append_right _ _ (by omega), hA, Nat.add_sub_cancel_left]
    simp [spV]
  have h' : ownsS w B (.slice (some ⟨g, 0, none⟩) (A ++ [(f, fr, c)]).length cap) (A ++ [(f, fr, c)]) := by simpa using h
  refine ⟨?_, World.ownsRow.frozenAt h' _, ?_⟩
  · rw [World.ownsRow.cellAt h' (A.length * 3 + 2) (by simp; omega)]
    exact hget
  · have := (World.ownsRow.stored h' (A.length * 3 + 2) (.int .i64 ((c : Int) + 1))).1
    unfold ownsS
    rw [hset]
    simpa using this
end Go.Proofs.YtpknchjjfiiaeaaDoor
