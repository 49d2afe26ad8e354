import Derived.Test.YtnefmdjodjpopaaBJ
import Derived.Test.YtnefmdjodjpopaaBK
import Derived.Test.YtnefmdjodjpopaaGB
namespace Go.Proofs.Ytnefmdjodjpopaa

theorem valL_num (n : Nat) : ∀ v, valL (M.num v n) = v % 2 ^ n := by
  induction n with
  | zero => intro v; show 0 = v % 1; omega
  | succ n ih =>
    intro v
    show valL (M.num (v / 2) n ++ [48 + v % 2]) = _
    rw [valL_snoc, ih]
    unfold valStep
    rw [Nat.pow_succ, Nat.mul_comm (2 ^ n) 2, Nat.mod_mul]
    have : v % 2 = 0 ∨ v % 2 = 1 := by omega
    rcases this with h | h <;> rw [h] <;> simp <;> omega
theorem valL_app (a b : List Nat) : valL (a ++ b) = valL a * 2 ^ b.length + valL b := by
  induction b using M.snoc_ind with
  | h0 => simp [valL]
  | h1 b c ih =>
    rw [← List.append_assoc, valL_snoc, valL_snoc, ih, List.length_append, List.length_singleton, Nat.pow_succ]
    unfold valStep
    have : 2 * (valL a * 2 ^ b.length + valL b) = valL a * (2 ^ b.length * 2) + 2 * valL b := by rw [Nat.mul_add, ← Nat.mul_assoc, Nat.mul_comm 2 (valL a), Nat.mul_assoc, Nat.mul_comm 2 (2 ^ b.length)]
    omega
theorem stuff_pre (a b : List Nat) : ∃ t, M.stuffL (a ++ b) = M.stuffL a ++ t := by
  induction b using M.snoc_ind with
  | h0 => exact ⟨[], by simp⟩
  | h1 b c ih =>
    obtain ⟨t, ht⟩ := ih
    rw [← List.append_assoc, M.stuffL_snoc, ht]
    unfold M.stStep
    split
    · exact ⟨t ++ [c] ++ [97 - c], by simp⟩
    · exact ⟨t ++ [c], by simp⟩
/-- the walk over a stretch that is stuffed: what it asks of the plain letters -/
structure Lay (x : List Nat) : Prop where
  isl : ∀ y ∈ x, M.isL y
  look : ∀ m, m < x.length → lookL (x.take m) (x.getD m 0) = 0
  fld : ∀ m, m ≤ x.length → fieldL (x.take m) ≤ 11
theorem take_get (x : List Nat) (m : Nat) (h : m < x.length) : x.take (m + 1) = x.take m ++ [x.getD m 0] := take_snocN x m h
theorem getD_of_take {L S : List Nat} {j : Nat} (h : L.take j = S) (i : Nat) (hi : i < S.length) : L.getD i 0 = S.getD i 0 := by
  subst h
  have : i < L.length ∧ i < j := by rw [List.length_take] at hi; omega
  rw [List.getD_eq_getElem?_getD, List.getD_eq_getElem?_getD, List.getElem?_take_of_lt this.2]
theorem walk_stuff (x L : List Nat) (hx : Lay x) (hL : ∀ y ∈ L, M.isL y) (hS : L.take (M.stuffL x).length = M.stuffL x) : ∀ m, m ≤ x.length →
    (∀ i, i ≤ (M.stuffL (x.take m)).length → (sw L i).1 = 0) ∧ sw L (M.stuffL (x.take m)).length = (0, x.take m, false)
  | 0, _ => by
    refine ⟨fun i hi => ?_, rfl⟩
    have : i = 0 := by simpa [M.stuffL] using hi
    subst this; rfl
  | m + 1, hm => by
    obtain ⟨h1, h2⟩ := walk_stuff x L hx hL hS m (by omega)
    have hlt : m < x.length := by omega
    have hc : M.isL (x.getD m 0) := over_isL hx.isl m hlt
    have htk := take_get x m hlt
    have hsn : M.stuffL (x.take (m + 1)) = M.stStep (M.stuffL (x.take m)) (x.getD m 0) := by rw [htk, M.stuffL_snoc]
    have hfl := hx.fld (m + 1) hm
    have hlk := hx.look m hlt
    have hrun := M.stuff_run (x.take m) (fun y hy => hx.isl y (List.mem_of_mem_take hy))
    have hpre : ∃ t, M.stuffL x = M.stStep (M.stuffL (x.take m)) (x.getD m 0) ++ t := by
      have := stuff_pre (x.take (m + 1)) (x.drop (m + 1))
      rw [List.take_append_drop, hsn] at this
      exact this
    obtain ⟨t, ht⟩ := hpre
    rw [hsn]
    rw [htk] at hfl ⊢
    generalize x.take m = q at *
    generalize x.getD m 0 = c at *
    generalize M.stuffL q = out at *
    have hlen : (M.stuffL x).length ≤ L.length := by rw [← hS, List.length_take]; omega
    have hget := fun i hi => getD_of_take hS i hi
    rw [ht] at hlen hget
    -- the plain letter
    have hLi : L.getD out.length 0 = c := by
      rw [hget out.length (by unfold M.stStep; split <;> simp <;> omega)]
      unfold M.stStep
      split <;> simp
    have hil : out.length < L.length := by
      have : (M.stStep out c ++ t).length ≥ out.length + 1 := by unfold M.stStep; split <;> simp <;> omega
      omega
    have hout : L.take out.length = out := by
      have h3 : (L.take (M.stuffL x).length).take out.length = (M.stuffL x).take out.length := by rw [hS]
      rw [List.take_take, ht] at h3
      have e1 : (M.stStep out c ++ t).take out.length = out := by
        unfold M.stStep; split <;> simp [List.append_assoc]
      have e2 : out.length ≤ (M.stStep out c ++ t).length := by unfold M.stStep; split <;> simp <;> omega
      rw [e1, Nat.min_eq_left e2] at h3
      exact h3
    have htake : L.take (out.length + 1) = out ++ [c] := by rw [take_snocN L out.length hil, hout, hLi]
    have hs1 : sw L (out.length + 1) = (0, q ++ [c], decide ((M.trail (out ++ [c])).2 = 5)) := by
      show swStep L out.length (sw L out.length) = _
      rw [h2]
      unfold swStep
      simp only [Bool.false_eq_true, if_false, hLi, hlk]
      have hd := due_trailN L hL (out.length + 1) hil
      rw [htake] at hd
      have hle := M.hear_le (M.trail out) c
      rw [← M.trail_snoc] at hle
      congr 2
      rw [Bool.eq_iff_iff]
      simp only [Bool.and_eq_true, Bool.or_eq_true, decide_eq_true_eq]
      rw [hd]
      constructor
      · rintro ⟨a, b⟩; omega
      · intro a; exact ⟨by omega, by omega⟩
    by_cases h5 : (M.trail (out ++ [c])).2 = 5
    · have est : M.stStep out c = out ++ [c] ++ [97 - c] := by unfold M.stStep; rw [if_pos h5]
      rw [est] at ht hlen hget ⊢
      have hil2 : out.length + 1 < L.length := by simp at hlen; omega
      have hLi2 : L.getD (out.length + 1) 0 = 97 - c := by
        rw [hget (out.length + 1) (by simp)]
        simp [List.getD_eq_getElem?_getD]
      have htake2 : L.take (out.length + 2) = out ++ [c] ++ [97 - c] := by rw [take_snocN L (out.length + 1) hil2, htake, hLi2]
      have hs2 : sw L (out.length + 2) = (0, q ++ [c], false) := by
        show swStep L (out.length + 1) (sw L (out.length + 1)) = _
        rw [hs1]
        unfold swStep
        simp only [h5, decide_true, if_true, hLi2, Nat.add_sub_cancel, hLi]
        rw [if_neg (M.isL_opp hc).2]
        have hd := due_trailN L hL (out.length + 1 + 1) hil2
        rw [htake2, M.trail_snoc] at hd
        have hf1 : (M.trail (out ++ [c])).1 = c := by rw [M.trail_snoc, M.hear_fst]
        have hh : (M.hear (M.trail (out ++ [c])) (97 - c)).2 = 1 := by
          unfold M.hear
          rw [hf1, if_neg (M.isL_opp hc).2]
        rw [hh] at hd
        have : dueF (fun t => L.getD t 0) (out.length + 1 + 1) = false := by
          cases hq : dueF (fun t => L.getD t 0) (out.length + 1 + 1)
          · rfl
          · have := hd.1 hq; omega
        rw [this]
        rfl
      have hl2 : (out ++ [c] ++ [97 - c]).length = out.length + 2 := by simp
      rw [hl2]
      refine ⟨fun i hi => ?_, hs2⟩
      by_cases a : i ≤ out.length
      · exact h1 i a
      · rcases (show i = out.length + 1 ∨ i = out.length + 2 by omega) with rfl | rfl
        · rw [hs1]
        · rw [hs2]
    · have est : M.stStep out c = out ++ [c] := by unfold M.stStep; rw [if_neg h5]
      rw [est]
      have hl2 : (out ++ [c]).length = out.length + 1 := by simp
      rw [hl2]
      have hs2 : sw L (out.length + 1) = (0, q ++ [c], false) := by rw [hs1, decide_eq_false h5]
      refine ⟨fun i hi => ?_, hs2⟩
      by_cases a : i ≤ out.length
      · exact h1 i a
      · have : i = out.length + 1 := by omega
        subst this; rw [hs2]
end Go.Proofs.Ytnefmdjodjpopaa
namespace Go.Proofs.Ytnefmdjodjpopaa

theorem lay_pre (q t : List Nat) (h : layH q ≤ q.length) : layH (q ++ t) = layH q ∧ layN (q ++ t) = layN q ∧ endL (q ++ t) = endL q := by
  induction t using M.snoc_ind with
  | h0 => simp
  | h1 t c ih =>
    have hH := layH_or q
    obtain ⟨a, b, c'⟩ := ih
    have hl : layH (q ++ t) ≤ (q ++ t).length := by rw [a, List.length_append]; omega
    rw [← List.append_assoc, layH_snoc _ _ (by rw [List.length_append]; omega), layN_snoc _ _ hl, endL_snoc _ _ hl]
    exact ⟨a, b, c'⟩
theorem body0 (i : Nat) (r : Bool) (d : Nat) (l t : List Nat) : (bodyL false i r d l ++ t).getD 13 0 = 48 ∧ (bodyL false i r d l ++ t).getD 12 0 = 48 + r.toNat ∧ ((bodyL false i r d l ++ t).drop 15).take 4 = M.num d 4 ∧ ((bodyL false i r d l ++ t).drop 1).take 11 = M.num i 11 ∧ (bodyL false i r d l ++ t).drop 19 = l.flatMap (fun x => M.num x 8) ++ t := by
  have n11 := M.num_length 11 i
  have n4 := M.num_length 4 d
  have e : bodyL false i r d l ++ t = [48] ++ (M.num i 11 ++ ([48 + r.toNat, 48, 48] ++ (M.num d 4 ++ (l.flatMap (fun x => M.num x 8) ++ t)))) := by
    unfold bodyL arbL
    rw [if_neg (by decide)]
    show _ ++ M.num 0 1 ++ _ ++ _ ++ _ = _
    rw [num01]
    simp
  rw [e]
  refine ⟨?_, ?_, ?_, ?_, ?_⟩
  · simp [List.getD_eq_getElem?_getD, List.getElem?_append, n11]
  · simp [List.getD_eq_getElem?_getD, n11]
  · simp [List.drop_append, n11, List.drop_eq_nil_of_le, n4]
  · simp [n11]
  · simp [List.drop_append, n11, List.drop_eq_nil_of_le, n4]
theorem body1 (i : Nat) (r : Bool) (d : Nat) (l t : List Nat) : (bodyL true i r d l ++ t).getD 13 0 = 49 ∧ (bodyL true i r d l ++ t).getD 32 0 = 48 + r.toNat ∧ ((bodyL true i r d l ++ t).drop 35).take 4 = M.num d 4 ∧ ((bodyL true i r d l ++ t).drop 1).take 11 = M.num (i / 2 ^ 18) 11 ∧ ((bodyL true i r d l ++ t).drop 14).take 18 = M.num i 18 ∧ (bodyL true i r d l ++ t).drop 39 = l.flatMap (fun x => M.num x 8) ++ t := by
  have n11 := M.num_length 11 (i / 2 ^ 18)
  have n18 := M.num_length 18 i
  have n4 := M.num_length 4 d
  have e : bodyL true i r d l ++ t = [48] ++ (M.num (i / 2 ^ 18) 11 ++ ([49, 49] ++ (M.num i 18 ++ ([48 + r.toNat, 48, 48] ++ (M.num d 4 ++ (l.flatMap (fun x => M.num x 8) ++ t)))))) := by
    unfold bodyL arbL
    rw [if_pos rfl]
    show _ ++ M.num 0 2 ++ _ ++ _ ++ _ = _
    rw [num02]
    simp
  rw [e]
  generalize M.num (i / 2 ^ 18) 11 = A at *
  generalize M.num i 18 = B at *
  refine ⟨?_, ?_, ?_, ?_, ?_, ?_⟩
  · simp [List.getD_eq_getElem?_getD, List.getElem?_append, n11]
  · simp [List.getD_eq_getElem?_getD, List.getElem?_append, n11, n18]
  · simp [List.drop_append, n11, n18, List.drop_eq_nil_of_le, n4]
  · simp [n11]
  · simp [List.drop_append, n11, n18, List.drop_eq_nil_of_le]
  · simp [List.drop_append, n11, n18, List.drop_eq_nil_of_le, n4]
end Go.Proofs.Ytnefmdjodjpopaa
namespace Go.Proofs.Ytnefmdjodjpopaa
set_option linter.unusedVariables false

def bodyH (e : Bool) : Nat := if e = true then 39 else 19
/-- a frame whose data are as long as its code says -/
structure fits (r : Bool) (d : Nat) (l : List Nat) : Prop where
  d15 : d ≤ 15
  len : l.length = if r = true then 0 else min d 8
  small : ∀ x ∈ l, x < 256
theorem rt49 (r : Bool) : (48 + r.toNat = 49) ↔ r = true := by cases r <;> decide
theorem body_lay (e : Bool) (i : Nat) (r : Bool) (d : Nat) (l t : List Nat) (h : fits r d l) :
    layH (bodyL e i r d l ++ t) = bodyH e ∧ layN (bodyL e i r d l ++ t) = l.length ∧ endL (bodyL e i r d l ++ t) = (bodyL e i r d l).length ∧ bodyH e ≤ (bodyL e i r d l).length := by
  have hl := bodyL_length e i r d l
  have hd : valL (M.num d 4) = d := by rw [valL_num]; have := h.d15; omega
  have hlen := h.len
  cases e with
  | false =>
    obtain ⟨a13, a12, a15, -, -⟩ := body0 i r d l t
    have h1 : layH (bodyL false i r d l ++ t) = 19 := by unfold layH; rw [a13]; rfl
    have h2 : layN (bodyL false i r d l ++ t) = l.length := by
      have hR : layR (bodyL false i r d l ++ t) = r := by
        unfold layR
        rw [if_neg (by rw [a13]; decide), a12]
        cases r <;> rfl
      unfold layN
      rw [hR, h1, a15, hd, hlen]
    refine ⟨h1, h2, ?_, ?_⟩
    · unfold endL; rw [h1, h2, hl]; rfl
    · rw [hl]; exact Nat.le_add_right _ _
  | true =>
    obtain ⟨a13, a32, a35, -, -, -⟩ := body1 i r d l t
    have h1 : layH (bodyL true i r d l ++ t) = 39 := by unfold layH; rw [a13]; rfl
    have h2 : layN (bodyL true i r d l ++ t) = l.length := by
      have hR : layR (bodyL true i r d l ++ t) = r := by
        unfold layR
        rw [if_pos a13, a32]
        cases r <;> rfl
      unfold layN
      rw [hR, h1, a35, hd, hlen]
    refine ⟨h1, h2, ?_, ?_⟩
    · unfold endL; rw [h1, h2, hl]; rfl
    · rw [hl]; exact Nat.le_add_right _ _
theorem fN_lt (n H E : Nat) (h : H = 19 ∨ H = 39) (hn : n < H) : fieldN n H E ≤ 8 ∧ (fieldN n H E = 1 → n = 0) := by unfold fieldN; grind (splits := 16)
theorem fN_mid (n H E : Nat) (h : H = 19 ∨ H = 39) (hE : H ≤ E) (hn : H ≤ n) (h2 : n < E + 15) : fieldN n H E ≤ 10 ∧ 9 ≤ fieldN n H E := by unfold fieldN; grind (splits := 16)
theorem fN_end (n H E : Nat) (h : H = 19 ∨ H = 39) (hE : H ≤ E) (hn : n = E + 15) : fieldN n H E = 11 := by unfold fieldN; grind (splits := 16)
theorem look0 {q : List Nat} {c : Nat} (h : fieldL q ≤ 10) (h1 : fieldL q = 1 → c = 48) : lookL q c = 0 := by
  unfold lookL
  by_cases f1 : fieldL q = 1
  · rw [if_pos f1, h1 f1]; rfl
  · rw [if_neg f1, if_neg (by omega), if_neg (by omega), if_neg (by omega)]
theorem lay_plain (e : Bool) (i : Nat) (r : Bool) (d : Nat) (l c : List Nat) (h : fits r d l) (hc : c.length = 15) (hcl : ∀ x ∈ c, M.isL x) : Lay (bodyL e i r d l ++ c) := by
  obtain ⟨b1, b2, b3, b4⟩ := body_lay e i r d l c h
  have hx0 : (bodyL e i r d l ++ c).getD 0 0 = 48 := by unfold bodyL; simp
  have hlen : (bodyL e i r d l ++ c).length = (bodyL e i r d l).length + 15 := by rw [List.length_append, hc]
  have key : ∀ m, m ≤ (bodyL e i r d l ++ c).length → m < layH ((bodyL e i r d l ++ c).take m) ∨ (layH ((bodyL e i r d l ++ c).take m) ≤ m ∧ endL ((bodyL e i r d l ++ c).take m) = (bodyL e i r d l).length) := by
    intro m hm
    by_cases a : m < layH ((bodyL e i r d l ++ c).take m)
    · exact .inl a
    · right
      have hlt : ((bodyL e i r d l ++ c).take m).length = m := by rw [List.length_take]; omega
      have := (lay_pre ((bodyL e i r d l ++ c).take m) ((bodyL e i r d l ++ c).drop m) (by omega)).2.2
      rw [List.take_append_drop, b3] at this
      exact ⟨by omega, this.symm⟩
  refine ⟨?_, ?_, ?_⟩
  · intro y hy
    rw [List.mem_append] at hy
    rcases hy with hy | hy
    · exact bodyL_isL e i r d l y hy
    · exact hcl y hy
  · intro m hm
    have hlt : ((bodyL e i r d l ++ c).take m).length = m := by rw [List.length_take]; omega
    have hH := layH_or ((bodyL e i r d l ++ c).take m)
    have hE := layH_le ((bodyL e i r d l ++ c).take m)
    have hf := fieldL_eq ((bodyL e i r d l ++ c).take m)
    rw [hlt] at hf
    rcases key m (by omega) with a | ⟨a1, a2⟩
    · have := fN_lt m _ (endL ((bodyL e i r d l ++ c).take m)) hH a
      refine look0 (by omega) (fun f1 => ?_)
      have : m = 0 := this.2 (by omega)
      subst this
      exact hx0
    · have := fN_mid m _ _ hH hE a1 (by omega)
      exact look0 (by omega) (fun f1 => by omega)
  · intro m hm
    have hlt : ((bodyL e i r d l ++ c).take m).length = m := by rw [List.length_take]; omega
    have hH := layH_or ((bodyL e i r d l ++ c).take m)
    have hE := layH_le ((bodyL e i r d l ++ c).take m)
    have hf := fieldL_eq ((bodyL e i r d l ++ c).take m)
    rw [hlt] at hf
    rcases key m hm with a | ⟨a1, a2⟩
    · have := fN_lt m _ (endL ((bodyL e i r d l ++ c).take m)) hH a
      omega
    · by_cases a3 : m < endL ((bodyL e i r d l ++ c).take m) + 15
      · have := fN_mid m _ _ hH hE a1 a3
        omega
      · have := fN_end m _ _ hH hE (by omega)
        omega
/-- the letters behind the stuffed part -/
def tailT (a : Nat) : List Nat := [49, a, 49, 49, 49, 49, 49, 49, 49, 49]
theorem fN_tail (k H E : Nat) (h : H = 19 ∨ H = 39) (hE : H ≤ E) (hk : k < 10) : fieldN (E + 15 + k) H E = if k = 0 then 11 else if k = 1 then 12 else if k = 2 then 13 else 14 := by unfold fieldN; grind (splits := 20)
theorem fN_tail10 (H E : Nat) (h : H = 19 ∨ H = 39) (hE : H ≤ E) : fieldN (E + 15 + 10) H E = 15 := by unfold fieldN; grind (splits := 20)
/-- the judge's look at one letter of the tail -/
theorem look_tail (p : List Nat) (E k c : Nat) (hH : layH p ≤ p.length) (hE : endL p = E) (hp : p.length = E + 15 + k) (hk : k < 10) (hc : k ≠ 1 → c = 49) (hok : k = 2 → crcOkL p = true) : lookL p c = if k = 9 then 2 else if k = 8 then 1 else 0 := by
  have hf := fieldL_eq p
  rw [hp, hE, fN_tail k _ _ (layH_or p) (hE ▸ layH_le p) hk] at hf
  have h2 := layL2 hH
  unfold lookL
  rw [hf, h2, hE, hp]
  rcases (show k = 0 ∨ k = 1 ∨ k = 2 ∨ (3 ≤ k ∧ k < 8) ∨ k = 8 ∨ k = 9 by omega) with rfl | rfl | rfl | h | rfl | rfl
  · rw [hc (by decide)]; rfl
  · rfl
  · rw [hc (by decide), hok rfl]; rfl
  · rw [hc (by omega)]
    have : ¬ k = 0 ∧ ¬ k = 1 ∧ ¬ k = 2 ∧ ¬ k = 9 ∧ ¬ k = 8 := by omega
    simp [this]
    rw [if_pos (by omega), if_neg (by omega)]
  · rw [hc (by decide)]; simp
  · rw [hc (by decide)]; simp
end Go.Proofs.Ytnefmdjodjpopaa
namespace Go.Proofs.Ytnefmdjodjpopaa
set_option linter.unusedVariables false

theorem plainL_len (e : Bool) (i : Nat) (r : Bool) (d : Nat) (l : List Nat) : (plainL e i r d l).length = (bodyL e i r d l).length + 15 := by
  unfold plainL; rw [List.length_append, M.num_length]
theorem lay_plainL (e : Bool) (i : Nat) (r : Bool) (d : Nat) (l : List Nat) (h : fits r d l) : Lay (plainL e i r d l) :=
  lay_plain e i r d l _ h (M.num_length _ _) (M.num_isL _ _)
theorem tailT_len (a : Nat) : (tailT a).length = 10 := rfl
theorem tailT_at (a k : Nat) (hk : k < 10) (h : k ≠ 1) : (tailT a).getD k 0 = 49 := by
  rcases (show k = 0 ∨ k = 2 ∨ k = 3 ∨ k = 4 ∨ k = 5 ∨ k = 6 ∨ k = 7 ∨ k = 8 ∨ k = 9 by omega) with rfl | rfl | rfl | rfl | rfl | rfl | rfl | rfl | rfl <;> rfl
theorem tailT_isL (a : Nat) (ha : M.isL a) : ∀ y ∈ tailT a, M.isL y := by
  intro y hy
  unfold tailT at hy
  simp only [List.mem_cons, List.not_mem_nil, or_false] at hy
  rcases hy with h | h | h | h | h | h | h | h | h | h <;> first | (rw [h]; exact .inr rfl) | (rw [h]; exact ha)
theorem plain_lay (e : Bool) (i : Nat) (r : Bool) (d : Nat) (l t : List Nat) (h : fits r d l) :
    layH (plainL e i r d l ++ t) ≤ (plainL e i r d l ++ t).length ∧ endL (plainL e i r d l ++ t) = (bodyL e i r d l).length := by
  obtain ⟨b1, b2, b3, b4⟩ := body_lay e i r d l (M.num (M.crcN ((bodyL e i r d l).map (fun x => x - 48))) 15 ++ t) h
  unfold plainL
  rw [List.append_assoc, b1, b3]
  exact ⟨by rw [List.length_append]; omega, rfl⟩
theorem plain_crc (e : Bool) (i : Nat) (r : Bool) (d : Nat) (l t : List Nat) (h : fits r d l) (ht : ∀ y ∈ t, M.isL y) : crcOkL (plainL e i r d l ++ t) = true := by
  obtain ⟨h1, h2⟩ := plain_lay e i r d l t h
  rw [crcOkL_M _ (fun y hy => by
    rw [List.mem_append] at hy
    rcases hy with hy | hy
    · exact plainL_isL e i r d l y hy
    · exact ht y hy)]
  unfold crcOkM
  rw [layL2 h1, h2]
  have hH := layH_or (plainL e i r d l ++ t)
  have hle := layH_le (plainL e i r d l ++ t)
  have hlen : (plainL e i r d l ++ t).length = (bodyL e i r d l).length + 15 + t.length := by rw [List.length_append, plainL_len]
  have e1 : (plainL e i r d l ++ t).take (bodyL e i r d l).length = bodyL e i r d l := by
    unfold plainL; rw [List.append_assoc, List.take_left' rfl]
  have e2 : ((plainL e i r d l ++ t).drop (bodyL e i r d l).length).take 15 = M.num (M.crcN ((bodyL e i r d l).map (fun x => x - 48))) 15 := by
    unfold plainL; rw [List.append_assoc, List.drop_left' rfl, List.take_left' (M.num_length _ _)]
  rw [e1, e2, valL_num, Nat.mod_eq_of_lt (M.crcN_lt _)]
  rw [Bool.and_eq_true]
  refine ⟨decide_eq_true ?_, decide_eq_true rfl⟩
  omega
theorem sw_next (L : List Nat) (j : Nat) (c0 : Nat) (p : List Nat) (h : sw L j = (c0, p, false)) (hf : 11 < fieldL (p ++ [L.getD j 0])) : sw L (j + 1) = (lookL p (L.getD j 0), p ++ [L.getD j 0], false) := by
  show swStep L j (sw L j) = _
  rw [h]
  unfold swStep
  simp only [Bool.false_eq_true, if_false]
  have : (decide (fieldL (p ++ [L.getD j 0]) ≤ 10) || decide (fieldL (p ++ [L.getD j 0]) = 11)) = false := by rw [Bool.or_eq_false_iff]; exact ⟨decide_eq_false (by omega), decide_eq_false (by omega)⟩
  rw [this, Bool.and_false]
theorem tail_walk (e : Bool) (i : Nat) (r : Bool) (d : Nat) (l : List Nat) (a : Nat) (h : fits r d l) (ha : M.isL a) : ∀ k, k ≤ 10 →
    sw (M.stuffL (plainL e i r d l) ++ tailT a) ((M.stuffL (plainL e i r d l)).length + k) = (if k = 10 then 2 else if k = 9 then 1 else 0, plainL e i r d l ++ (tailT a).take k, false)
  | 0, _ => by
    have hx := lay_plainL e i r d l h
    have hL : ∀ y ∈ M.stuffL (plainL e i r d l) ++ tailT a, M.isL y := by
      intro y hy
      rw [List.mem_append] at hy
      rcases hy with hy | hy
      · exact M.stuff_all _ hx.isl y hy
      · exact tailT_isL a ha y hy
    have := (walk_stuff (plainL e i r d l) _ hx hL (List.take_left' rfl) (plainL e i r d l).length (Nat.le_refl _)).2
    rw [List.take_length] at this
    simpa using this
  | k + 1, hk => by
    have ih := tail_walk e i r d l a h ha k (by omega)
    have hget : (M.stuffL (plainL e i r d l) ++ tailT a).getD ((M.stuffL (plainL e i r d l)).length + k) 0 = (tailT a).getD k 0 := by
      rw [List.getD_eq_getElem?_getD, List.getElem?_append_right (by omega), Nat.add_sub_cancel_left, List.getD_eq_getElem?_getD]
    have htk : (tailT a).take (k + 1) = (tailT a).take k ++ [(tailT a).getD k 0] := take_snocN _ k (by rw [tailT_len]; omega)
    have hl : (plainL e i r d l ++ (tailT a).take k).length = (bodyL e i r d l).length + 15 + k := by rw [List.length_append, plainL_len, List.length_take, tailT_len]; omega
    obtain ⟨p1, p2⟩ := plain_lay e i r d l ((tailT a).take k) h
    obtain ⟨q1, q2⟩ := plain_lay e i r d l ((tailT a).take (k + 1)) h
    have hfl : 11 < fieldL (plainL e i r d l ++ (tailT a).take (k + 1)) := by
      rw [fieldL_eq, q2]
      have hl' : (plainL e i r d l ++ (tailT a).take (k + 1)).length = (bodyL e i r d l).length + 15 + (k + 1) := by rw [List.length_append, plainL_len, List.length_take, tailT_len]; omega
      have hle := layH_le (plainL e i r d l ++ (tailT a).take (k + 1))
      rw [q2] at hle
      rw [hl']
      by_cases h10 : k + 1 = 10
      · have := fN_tail10 _ _ (layH_or _) hle
        rw [show (bodyL e i r d l).length + 15 + (k + 1) = (bodyL e i r d l).length + 15 + 10 by omega, this]; decide
      · rw [fN_tail (k + 1) _ _ (layH_or _) hle (by omega), if_neg (by omega)]
        split <;> (try split) <;> decide
    rw [htk, ← List.append_assoc] at hfl ⊢
    rw [← hget] at hfl ⊢
    rw [← Nat.add_assoc, sw_next _ _ _ _ ih hfl]
    congr 1
    rw [hget, look_tail _ _ k _ p1 p2 hl (by omega) (fun hk1 => tailT_at a k (by omega) hk1) (fun hk2 => by
      subst hk2
      exact plain_crc e i r d l _ h (fun y hy => tailT_isL a ha y (List.mem_of_mem_take hy)))]
    rcases (show k = 9 ∨ k = 8 ∨ k < 8 by omega) with rfl | rfl | h8
    · rfl
    · rfl
    · rw [if_neg (by omega), if_neg (by omega), if_neg (by omega), if_neg (by omega)]
/-- the codes along an image -/
theorem img_codes (e : Bool) (i : Nat) (r : Bool) (d : Nat) (l : List Nat) (a : Nat) (h : fits r d l) (ha : M.isL a) (j : Nat) (hj : j ≤ (M.stuffL (plainL e i r d l)).length + 10) :
    (sw (M.stuffL (plainL e i r d l) ++ tailT a) j).1 = if j = (M.stuffL (plainL e i r d l)).length + 10 then 2 else if j = (M.stuffL (plainL e i r d l)).length + 9 then 1 else 0 := by
  by_cases hs : j ≤ (M.stuffL (plainL e i r d l)).length
  · have hx := lay_plainL e i r d l h
    have hL : ∀ y ∈ M.stuffL (plainL e i r d l) ++ tailT a, M.isL y := by
      intro y hy
      rw [List.mem_append] at hy
      rcases hy with hy | hy
      · exact M.stuff_all _ hx.isl y hy
      · exact tailT_isL a ha y hy
    have := (walk_stuff (plainL e i r d l) _ hx hL (List.take_left' rfl) (plainL e i r d l).length (Nat.le_refl _)).1
    rw [List.take_length] at this
    rw [this j hs, if_neg (by omega), if_neg (by omega)]
  · obtain ⟨k, rfl⟩ : ∃ k, j = (M.stuffL (plainL e i r d l)).length + k := ⟨j - (M.stuffL (plainL e i r d l)).length, by omega⟩
    rw [tail_walk e i r d l a h ha k (by omega)]
    show (if k = 10 then 2 else if k = 9 then 1 else 0) = _
    rcases (show k = 10 ∨ k = 9 ∨ k < 9 by omega) with rfl | rfl | h9
    · rw [if_pos rfl, if_pos rfl]
    · rw [if_neg (by decide), if_pos rfl, if_neg (by omega), if_pos rfl]
    · rw [if_neg (by omega), if_neg (by omega), if_neg (by omega), if_neg (by omega)]
theorem swF_on (L : List Nat) : ∀ f i, (∀ j, i ≤ j → j < i + f → goesOnB (sw L j).1 = true) → swF L f i = sw L (i + f)
  | 0, i, _ => rfl
  | f + 1, i, h => by
    rw [swF_succ, if_pos (h i (Nat.le_refl _) (by omega)), swF_on L f (i + 1) (fun j a b => h j (by omega) (by omega))]
    congr 1
    omega
theorem sw_pre (L : List Nat) (n : Nat) (hn : n ≤ L.length) : ∀ j, j ≤ n → sw (L.take n) j = sw L j
  | 0, _ => rfl
  | j + 1, h => by
    show swStep (L.take n) j (sw (L.take n) j) = swStep L j (sw L j)
    rw [sw_pre L n hn j (by omega)]
    have hg : ∀ t, t < n → (L.take n).getD t 0 = L.getD t 0 := fun t ht => by
      rw [List.getD_eq_getElem?_getD, List.getD_eq_getElem?_getD, List.getElem?_take_of_lt ht]
    have hd : dueF (fun t => (L.take n).getD t 0) (j + 1) = dueF (fun t => L.getD t 0) (j + 1) := by
      unfold dueF
      dsimp only
      by_cases h5 : 5 ≤ j + 1
      · rw [hg _ (by omega), hg _ (by omega), hg _ (by omega), hg _ (by omega), hg _ (by omega)]
      · simp [h5]
    unfold swStep
    rw [hg j (by omega), hg (j - 1) (by omega), hd]
end Go.Proofs.Ytnefmdjodjpopaa
namespace Go.Proofs.Ytnefmdjodjpopaa
set_option linter.unusedVariables false

theorem flat_at : ∀ (l rest : List Nat) (t : Nat), t < l.length → ((l.flatMap (fun x => M.num x 8) ++ rest).drop (8 * t)).take 8 = M.num (l.getD t 0) 8
  | [], _, _, h => by cases h
  | a :: l, rest, 0, _ => by
    rw [List.flatMap_cons, List.append_assoc, Nat.mul_zero, List.drop_zero, List.take_left' (M.num_length 8 a)]
    rfl
  | a :: l, rest, t + 1, h => by
    rw [List.flatMap_cons, List.append_assoc, Nat.mul_add, Nat.mul_one, Nat.add_comm, ← List.drop_drop, List.drop_left' (M.num_length 8 a), flat_at l rest t (by simpa using h)]
    rfl
theorem dat_flat (p l rest : List Nat) (H : Nat) (hp : p.drop H = l.flatMap (fun x => M.num x 8) ++ rest) (hs : ∀ x ∈ l, x < 256) : datL p H l.length = l := by
  unfold datL
  apply List.ext_getElem
  · simp
  · intro j h1 h2
    rw [List.getElem_map, List.getElem_range, ← List.drop_drop, hp, flat_at l rest j h2, valL_num]
    have : l.getD j 0 = l[j] := by simp [h2]
    rw [this]
    exact Nat.mod_eq_of_lt (hs _ (List.getElem_mem h2))
def imgL (e : Bool) (i : Nat) (r : Bool) (d : Nat) (l : List Nat) (a : Nat) : List Nat := M.stuffL (plainL e i r d l) ++ tailT a
theorem imgL_len (e : Bool) (i : Nat) (r : Bool) (d : Nat) (l : List Nat) (a : Nat) : (imgL e i r d l a).length = (M.stuffL (plainL e i r d l)).length + 10 := by unfold imgL; rw [List.length_append, tailT_len]
theorem imgL_le (e : Bool) (i : Nat) (r : Bool) (d : Nat) (l : List Nat) (a : Nat) (h : fits r d l) : (imgL e i r d l a).length ≤ 300 := by
  have h1 := M.stuff_len (plainL e i r d l)
  have h2 := bodyL_length e i r d l
  have h3 := h.len
  have h4 : l.length ≤ 8 := by rw [h3]; split <;> omega
  rw [imgL_len]
  rw [plainL_len, h2] at h1
  cases e <;> simp at h1 <;> omega
theorem imgL_isL (e : Bool) (i : Nat) (r : Bool) (d : Nat) (l : List Nat) (a : Nat) (ha : M.isL a) : ∀ y ∈ imgL e i r d l a, M.isL y := by
  intro y hy
  unfold imgL at hy
  rw [List.mem_append] at hy
  rcases hy with hy | hy
  · exact M.stuff_all _ (plainL_isL e i r d l) y hy
  · exact tailT_isL a ha y hy
theorem isL_256 {l : List Nat} (h : ∀ y ∈ l, M.isL y) : ∀ y ∈ l, y < 256 := fun y hy => by rcases h y hy with h | h <;> omega
/-- the walk over the beginning of an image -/
theorem img_swZ (e : Bool) (i : Nat) (r : Bool) (d : Nat) (l : List Nat) (a : Nat) (h : fits r d l) (ha : M.isL a) (j : Nat) (hj : j ≤ (imgL e i r d l a).length) :
    swZ (strN ((imgL e i r d l a).take j)) = sw (imgL e i r d l a) j := by
  have hle := imgL_le e i r d l a h
  have hil : ∀ y ∈ (imgL e i r d l a).take j, M.isL y := fun y hy => imgL_isL e i r d l a ha y (List.mem_of_mem_take hy)
  have hlen : ((imgL e i r d l a).take j).length = j := by rw [List.length_take]; omega
  unfold swZ
  rw [if_pos (okT_strN _ 4000 hil (by rw [hlen]; omega)), lt_strN _ (isL_256 hil), hlen, swF_on]
  · rw [Nat.zero_add, sw_pre _ j hj j (Nat.le_refl _)]
  · intro m _ hm
    rw [sw_pre _ j hj m (by omega)]
    have := img_codes e i r d l a h ha m (by rw [imgL_len] at hj; omega)
    unfold imgL
    rw [this, if_neg (by rw [imgL_len] at hj; omega)]
    split <;> rfl
theorem img_code (e : Bool) (i : Nat) (r : Bool) (d : Nat) (l : List Nat) (a : Nat) (h : fits r d l) (ha : M.isL a) (j : Nat) (hj : j ≤ (imgL e i r d l a).length) :
    (walkZ (strN ((imgL e i r d l a).take j))).code = if j = (imgL e i r d l a).length then 2 else if j + 1 = (imgL e i r d l a).length then 1 else 0 := by
  rw [(walk_code _).1, img_swZ e i r d l a h ha j hj]
  have := img_codes e i r d l a h ha j (by rw [imgL_len] at hj; omega)
  unfold imgL
  rw [this]
  have hl := imgL_len e i r d l a
  unfold imgL at hl
  rw [hl]
  by_cases h1 : j = (M.stuffL (plainL e i r d l)).length + 10
  · rw [if_pos h1, if_pos h1]
  · rw [if_neg h1, if_neg h1]
    by_cases h2 : j = (M.stuffL (plainL e i r d l)).length + 9
    · rw [if_pos h2, if_pos (by omega)]
    · rw [if_neg h2, if_neg (by omega)]
/-- what the walk over an image knows of the frame -/
theorem img_dec (e : Bool) (i : Nat) (r : Bool) (d : Nat) (l : List Nat) (a : Nat) (h : fits r d l) (ha : M.isL a) (hi : i < if e = true then 536870912 else 2048) :
    (walkZ (strN (imgL e i r d l a))).code = 2 ∧ (decK (walkZ (strN (imgL e i r d l a)))).ext = e ∧ (decK (walkZ (strN (imgL e i r d l a)))).id = i ∧ (decK (walkZ (strN (imgL e i r d l a)))).rtr = r ∧ (decK (walkZ (strN (imgL e i r d l a)))).dlc = d ∧ (decK (walkZ (strN (imgL e i r d l a)))).data = l := by
  have hc := img_code e i r d l a h ha (imgL e i r d l a).length (Nat.le_refl _)
  have hz := img_swZ e i r d l a h ha (imgL e i r d l a).length (Nat.le_refl _)
  rw [List.take_length] at hc hz
  rw [if_pos rfl] at hc
  have ht := tail_walk e i r d l a h ha 10 (Nat.le_refl _)
  rw [← imgL_len e i r d l a] at ht
  have hz2 : swZ (strN (imgL e i r d l a)) = (2, plainL e i r d l ++ tailT a, false) := by
    rw [hz]
    exact ht
  obtain ⟨hw1, hw2⟩ := walk_code (strN (imgL e i r d l a))
  have hv := hw2 (by rw [hz2]; exact .inr rfl)
  rw [hz2] at hv
  dsimp only at hv
  have hk : decK (walkZ (strN (imgL e i r d l a))) = walkZ (strN (imgL e i r d l a)) := by unfold decK; rw [if_pos (.inr hc)]
  rw [hk]
  refine ⟨hc, ?_⟩
  obtain ⟨p1, p2⟩ := plain_lay e i r d l (tailT a) h
  have hlen : (plainL e i r d l ++ tailT a).length = (bodyL e i r d l).length + 15 + 10 := by rw [List.length_append, plainL_len, tailT_len]
  obtain ⟨r1, r2⟩ := vals_read hv p1 (by omega)
  have hpl : plainL e i r d l ++ tailT a = bodyL e i r d l ++ (M.num (M.crcN ((bodyL e i r d l).map (fun x => x - 48))) 15 ++ tailT a) := by unfold plainL; rw [List.append_assoc]
  rw [hpl] at r1 r2
  obtain ⟨b1, b2, b3, b4⟩ := body_lay e i r d l (M.num (M.crcN ((bodyL e i r d l).map (fun x => x - 48))) 15 ++ tailT a) h
  have hd : d % 2 ^ 4 = d := by have := h.d15; omega
  generalize M.num (M.crcN ((bodyL e i r d l).map (fun x => x - 48))) 15 ++ tailT a = t at *
  rw [b2] at r1 r2
  cases e with
  | false =>
    obtain ⟨x1, x2, x3, x4, x5⟩ := r1 b1
    obtain ⟨a13, a12, a15, a1, a19⟩ := body0 i r d l t
    rw [a1, valL_num] at x2
    rw [a12] at x3
    rw [a15, valL_num, hd] at x4
    rw [dat_flat _ l t 19 a19 h.small] at x5
    have hi' : i < 2048 := hi
    refine ⟨x1, by rw [x2]; omega, ?_, x4, x5⟩
    rw [x3]; cases r <;> rfl
  | true =>
    obtain ⟨x1, x2, x3, x4, x5⟩ := r2 b1
    obtain ⟨a13, a32, a35, a1, a14, a39⟩ := body1 i r d l t
    rw [a1, a14, valL_app, valL_num, valL_num, M.num_length] at x2
    rw [a32] at x3
    rw [a35, valL_num, hd] at x4
    rw [dat_flat _ l t 39 a39 h.small] at x5
    have hi' : i < 536870912 := hi
    refine ⟨x1, by rw [x2]; omega, ?_, x4, x5⟩
    rw [x3]; cases r <;> rfl
end Go.Proofs.Ytnefmdjodjpopaa
namespace Go.Proofs.Ytnefmdjodjpopaa
open Go.RowKit

set_option maxHeartbeats 1000000 in
theorem wDec_bit (b : Nat) (hb : b < 2) (w : World) :
    Calls Try.prog 86 #[.int .i64 (b : Int)] w fun o w' => o = .returned (.string (strN [48 + b])) ∧ Below w.heap.size w w' := by
  rcases (show b = 0 ∨ b = 1 by omega) with rfl | rfl
  · have hcv : (convert 28 9 (.slice (some ⟨w.heap.size, 0, none⟩) 1 1)).run Try.prog (w.alloc (.cells #[.int .u8 48] 5)) = .ok (.string (strN [48])) (w.alloc (.cells #[.int .u8 48] 5)) := by
      refine convB ⟨rfl, Nat.le_refl _, by simp, fun _ => ⟨w.heap.size, 0, rfl, fun j hj => ?_⟩⟩
      have : j = 0 := by simpa using hj
      subst this
      simp
    go_enter Try.func86, Try.ntmps86
    go_wp2
    go_ret
    exact ⟨rfl, (Below.refl _ _).alloc (Nat.le_refl _) _⟩
  · have hcv : (convert 28 9 (.slice (some ⟨w.heap.size, 0, none⟩) 1 1)).run Try.prog (w.alloc (.cells #[.int .u8 49] 5)) = .ok (.string (strN [49])) (w.alloc (.cells #[.int .u8 49] 5)) := by
      refine convB ⟨rfl, Nat.le_refl _, by simp, fun _ => ⟨w.heap.size, 0, rfl, fun j hj => ?_⟩⟩
      have : j = 0 := by simpa using hj
      subst this
      simp
    go_enter Try.func86, Try.ntmps86
    go_wp2
    go_ret
    exact ⟨rfl, (Below.refl _ _).alloc (Nat.le_refl _) _⟩
theorem and_bit (v m : Nat) (hv : v < 32768) : bits BinOp.and IntKind.i64 ((v : Int) / 2 ^ m) 1 = ((v / 2 ^ m % 2 : Nat) : Int) := by
  have hle : v / 2 ^ m ≤ v := Nat.div_le_self _ _
  have e : (v : Int) / 2 ^ m = ((v / 2 ^ m : Nat) : Int) := by push_cast; rfl
  rw [e]
  have := (bits_nat .i64 62 (by decide) wraps_i64 (v / 2 ^ m) 1 (by omega) (by omega)).1
  rw [show ((1 : Nat) : Int) = 1 from rfl] at this
  rw [this, Nat.and_one_is_mod]
set_option maxHeartbeats 2000000 in
theorem wBits_15 (v : Nat) (hv : v < 32768) (w : World) :
    Calls Try.prog 43 #[.int .i64 (v : Int), .int .i64 15] w fun o w' => o = .returned (.string (strN (M.num v 15))) ∧ Below w.heap.size w w' := by
  go_enter Try.func43, Try.ntmps43
  go_wp2
  go_loopw [5, 6] (fun t i wr => ∃ m : Nat, m ≤ 15 ∧ i = .int .i64 ((m : Int) - 1) ∧ t = .string (strN (M.num (v / 2 ^ m) (15 - m))) ∧ Below w.heap.size w wr) (fun _ i _ => (intOf i + 1).toNat)
  case atStart => exact ⟨15, Nat.le_refl _, rfl, rfl, Below.refl _ _⟩
  case round =>
    obtain ⟨m, hm, rfl, rfl, hb⟩ := hrel
    cases m with
    | zero =>
      have HB : Hid (Below w.heap.size w wr) := hb
      clear hb
      go_wp2
      go_ret
      exact ⟨by simp, HB.out⟩
    | succ m =>
      have HB : Hid (Below w.heap.size w wr) := hb
      have HM : Hid (m < 15) := by unfold Hid; omega
      have HT : Hid (M.num (v / 2 ^ m) (15 - m) = M.num (v / 2 ^ (m + 1)) (15 - (m + 1)) ++ [48 + v / 2 ^ m % 2]) := num_step v 15 m (by omega)
      have hi : ((m + 1 : Nat) : Int) - 1 = (m : Int) := by omega
      have hsz : (strN (M.num (v / 2 ^ (m + 1)) (15 - (m + 1)))).size ≤ 15 := by rw [strN_size, M.num_length]; omega
      clear hb
      rw [hi]
      generalize ht0 : strN (M.num (v / 2 ^ (m + 1)) (15 - (m + 1))) = t0 at *
      have HT0 : Hid (strN (M.num (v / 2 ^ (m + 1)) (15 - (m + 1))) = t0) := ht0
      clear ht0 hi
      go_wp2_with fail
      rw [and_bit v m hv]
      refine (wDec_bit (v / 2 ^ m % 2) (Nat.mod_lt _ (by decide)) wr).mono ?_
      rintro o w2 ⟨rfl, hb2⟩
      have HB2 : Hid (Below w.heap.size w w2) := HB.out.trans (hb2.mono HB.out.size)
      have hs1 : (strN [48 + v / 2 ^ m % 2]).size = 1 := by rw [strN_size]; rfl
      have HE : Hid (t0 ++ strN [48 + v / 2 ^ m % 2] = strN (M.num (v / 2 ^ m) (15 - m))) := by unfold Hid; rw [← HT0.out, strN_append, ← HT.out]
      clear hb2
      generalize strN [48 + v / 2 ^ m % 2] = t1 at *
      go_wp2
      go_roundw
      case rel => exact ⟨m, by have := HM.out; omega, by go_num, by rw [HE.out], HB2.out⟩
      case measure => simp [intOf]
end Go.Proofs.Ytnefmdjodjpopaa
namespace Go.Proofs.Ytnefmdjodjpopaa
open Go.RowKit

theorem strN_get (L : List Nat) (i : Nat) (hi : i < L.length) (hs : ∀ x ∈ L, x < 256) (h : i < (strN L).size) : ((strN L)[i]'h).toNat = L.getD i 0 := by
  rw [← lt_at (strN L) i h (by rw [lt_strN L hs]; exact hi)]
  simp [lt_strN L hs, hi]
set_option maxHeartbeats 2000000 in
theorem wFlip_49 (L : List Nat) (i : Nat) (hi : i < L.length) (hL : L.length ≤ 300) (hs : ∀ x ∈ L, x < 256) (h49 : L.getD i 0 = 49) (w : World) :
    Calls Try.prog 46 #[.string (strN L), .int .i64 (i : Int)] w fun o w' => o = .returned (.string (strN (L.take i ++ [48] ++ L.drop (i + 1)))) ∧ Below w.heap.size w w' := by
  have hsz : (strN L).size = L.length := strN_size L
  have hlt : i < (strN L).size := by omega
  have hat : (((strN L)[i]'hlt).toNat : Int) = 49 := by rw [strN_get L i hi hs hlt, h49]; rfl
  have HE : Hid ((strN L).extract 0 i ++ strN [48] ++ (strN L).extract (i + 1) L.length = strN (L.take i ++ [48] ++ L.drop (i + 1))) := by
    unfold Hid
    rw [strN_take, strN_drop L (i + 1) L.length rfl, strN_append, strN_append]
  have hs1 : ((strN L).extract 0 i).size = i := by rw [ByteArray.size_extract]; omega
  have hs2 : ((strN L).extract (i + 1) L.length).size = L.length - (i + 1) := by rw [ByteArray.size_extract]; omega
  have i1 : (i : Int) + 1 ≤ (L.length : Int) := by omega
  have hw : IntKind.i64.wrap ((i : Int) + 1) = ((i + 1 : Nat) : Int) := by
    have : (i : Int) + 1 = ((i + 1 : Nat) : Int) := by omega
    rw [this]
    simp [IntKind.wrap, IntKind.bits, IntKind.signed]
    omega
  clear h49 hs
  go_enter Try.func46, Try.ntmps46
  go_wp2
  go_quiet (fail)
  go_wp2
  go_ret
  exact ⟨congrArg (fun s => Ending.returned (.string s)) HE.out, below_drewN (Below.refl _ _) _⟩
set_option maxHeartbeats 4000000 in
set_option maxRecDepth 20000 in
theorem wFrame_same (w : World) (e : Bool) (i : Nat) (r : Bool) (d : Int) (a : Option Addr) (n cap : Nat) (l : List Nat) (h : isBytes w a n cap l) (a' : Option Addr) (cap' : Nat) (h' : isBytes w a' n cap' l) (hn : n ≤ 1048576) :
    Calls Try.prog 47 #[frV e i r d a n cap, frV e i r d a' n cap'] w fun o w' => o = .returned (.bool true) ∧ Below w.heap.size w w' := by
  have hE : (e != e) = false := by simp
  have hR : (r != r) = false := by simp
  have hD : (d != d) = false := by simp
  have hI : ((i : Int) != (i : Int)) = false := by simp
  have hbl : Below w.heap.size w ((w.alloc (frC e i r d a n cap 33)).alloc (frC e i r d a' n cap' 33)) := ((Below.refl _ _).alloc (Nat.le_refl _) _).alloc (by simp) _
  have HB : Hid (Below w.heap.size w ((w.alloc (frC e i r d a n cap 33)).alloc (frC e i r d a' n cap' 33))) := hbl
  have HY : Hid (isBytes ((w.alloc (frC e i r d a n cap 33)).alloc (frC e i r d a' n cap' 33)) a n cap l) := h.below hbl
  have HY' : Hid (isBytes ((w.alloc (frC e i r d a n cap 33)).alloc (frC e i r d a' n cap' 33)) a' n cap' l) := h'.below hbl
  clear hbl h h'
  go_enter Try.func47, Try.ntmps47
  go_wp2
  go_loopw [5] (fun ii wr => ∃ k : Nat, k ≤ n ∧ ii = .int .i64 (k : Int) ∧ ∃ q, wr = ((w.alloc (frC e i r d a n cap 33)).alloc (frC e i r d a' n cap' 33)).drewN q) (fun ii _ => n - (intOf ii).toNat)
  case atStart => exact ⟨0, Nat.zero_le _, rfl, 0, rfl⟩
  case round =>
    obtain ⟨k, hk, rfl, q, rfl⟩ := hrel
    by_cases hlt : k < n
    · have hl : l ≠ [] := by intro e; have := HY.out.len; rw [e] at this; simp at this; omega
      obtain ⟨g1, o1, rfl, k1⟩ := HY.out.cells hl
      obtain ⟨g2, o2, rfl, k2⟩ := HY'.out.cells hl
      have hkl : k < l.length := by have := HY.out.len; omega
      have c1 := k1 k hkl
      have c2 := k2 k hkl
      have hx : (((l[k] : Nat) : Int) != ((l[k] : Nat) : Int)) = false := by simp
      have b0 : ((w.alloc (frC e i r d (some ⟨g1, o1, none⟩) n cap 33)).alloc (frC e i r d (some ⟨g2, o2, none⟩) n cap' 33)).cell? ⟨w.heap.size, 4, none⟩ = some (.slice (some ⟨g1, o1, none⟩) n cap) := by go_simp
      have b1 : ((w.alloc (frC e i r d (some ⟨g1, o1, none⟩) n cap 33)).alloc (frC e i r d (some ⟨g2, o2, none⟩) n cap' 33)).cell? ⟨w.heap.size + 1, 4, none⟩ = some (.slice (some ⟨g2, o2, none⟩) n cap') := by go_simp
      generalize l[k] = x at *
      clear k1 k2 hkl hl
      generalize (w.alloc (frC e i r d (some ⟨g1, o1, none⟩) n cap 33)).alloc (frC e i r d (some ⟨g2, o2, none⟩) n cap' 33) = W at *
      go_wp2
      go_quiet (fail)
      go_wp2
      go_roundw
      case rel => exact ⟨k + 1, by omega, by go_num, _, rfl⟩
      case measure => simp [intOf]; omega
    · go_wp2
      go_ret
      exact ⟨rfl, below_drewN HB.out q⟩
end Go.Proofs.Ytnefmdjodjpopaa
namespace Go.Proofs.Ytnefmdjodjpopaa
open Go.RowKit

theorem valid_fits {e : Bool} {i : Nat} {r : Bool} {d : Int} {l : List Nat} (h : validB e i r d l.length = true) (hs : ∀ x ∈ l, x < 256) :
    ∃ dn : Nat, d = (dn : Int) ∧ fits r dn l ∧ (i < if e = true then 536870912 else 2048) := by
  unfold validB at h
  simp only [Bool.and_eq_true, decide_eq_true_eq, beq_iff_eq] at h
  obtain ⟨⟨⟨h1, h2⟩, h3⟩, h4⟩ := h
  refine ⟨d.toNat, by omega, ⟨by omega, ?_, hs⟩, ?_⟩
  · unfold dl at h4
    cases r
    · simp only [Bool.false_eq_true, if_false] at h4 ⊢
      split at h4 <;> omega
    · simp only [if_true] at h4 ⊢
      omega
  · cases e
    · simpa using h1
    · simpa using h1
theorem enc_img {e : Bool} {i : Nat} {r : Bool} {dn : Nat} {l : List Nat} (h : validB e i r (dn : Int) l.length = true) : encZ e i r (dn : Int) l.length l = strN (imgL e i r dn l 49) := by
  unfold encZ imgL tailT
  rw [if_pos h]
  rfl
theorem imgL_at (e : Bool) (i : Nat) (r : Bool) (d : Nat) (l : List Nat) (a : Nat) : (imgL e i r d l a).getD ((imgL e i r d l a).length - 9) 0 = a := by
  rw [imgL_len]
  unfold imgL
  rw [List.getD_eq_getElem?_getD, List.getElem?_append_right (by omega), show (M.stuffL (plainL e i r d l)).length + 10 - 9 - (M.stuffL (plainL e i r d l)).length = 1 by omega]
  rfl
theorem imgL_flip (e : Bool) (i : Nat) (r : Bool) (d : Nat) (l : List Nat) (a b : Nat) : (imgL e i r d l a).take ((imgL e i r d l a).length - 9) ++ [b] ++ (imgL e i r d l a).drop ((imgL e i r d l a).length - 9 + 1) = imgL e i r d l b := by
  rw [imgL_len]
  unfold imgL
  generalize M.stuffL (plainL e i r d l) = S
  rw [show S.length + 10 - 9 = S.length + 1 by omega, List.take_append, List.drop_append, List.take_of_length_le (by omega), List.drop_eq_nil_of_le (by omega), show S.length + 1 - S.length = 1 by omega, show S.length + 1 + 1 - S.length = 2 by omega]
  simp [tailT]
theorem dest_img (e : Bool) (i : Nat) (r : Bool) (d : Nat) (l : List Nat) (h : fits r d l) : destZ (strN (M.stuffL (plainL e i r d l))) = (strN (plainL e i r d l), -1) := by
  have hil := M.stuff_all _ (plainL_isL e i r d l)
  have hle := imgL_le e i r d l 49 h
  rw [imgL_len] at hle
  unfold destZ
  rw [if_pos (okT_strN _ 4000 hil (by omega)), lt_strN _ (isL_256 hil), M.ds_stuff_all _ (plainL_isL e i r d l)]
theorem img_take10 (e : Bool) (i : Nat) (r : Bool) (d : Nat) (l : List Nat) (a : Nat) : (imgL e i r d l a).take ((imgL e i r d l a).length - 10) = M.stuffL (plainL e i r d l) := by
  rw [imgL_len, Nat.add_sub_cancel]
  unfold imgL
  exact List.take_left' rfl
/-- the drawn frame in block F, and its bytes -/
structure imI (w0 : World) (F : Nat) (e : Bool) (i : Nat) (r : Bool) (d : Int) (ao : Option Addr) (m cp : Nat) (l : List Nat) (W : World) : Prop where
  f : frAt W F e i r d (.slice ao m cp)
  y : isBytes W ao m cp l
  bel : Below w0.heap.size w0 W
  le : w0.heap.size ≤ F
theorem imI.below {w0 : World} {F : Nat} {e : Bool} {i : Nat} {r : Bool} {d : Int} {ao : Option Addr} {m cp : Nat} {l : List Nat} {W W' : World} (h : imI w0 F e i r d ao m cp l W) (hb : Below W.heap.size W W') : imI w0 F e i r d ao m cp l W' :=
  ⟨h.f.below hb h.f.lt, h.y.below hb, h.bel.trans (hb.mono (by have := h.f.lt; have := h.le; omega)), h.le⟩
theorem imI.start {w0 w1 : World} {e : Bool} {i : Nat} {r : Bool} {d : Int} {ao : Option Addr} {m cp : Nat} {l : List Nat} (hy : isBytes w1 ao m cp l) (hb : Below w0.heap.size w0 w1) :
    imI w0 w1.heap.size e i r d ao m cp l (w1.alloc (.cells #[.bool e, .int .u32 (i : Int), .bool r, .int .i64 d, .slice ao m cp] 33)) :=
  ⟨heap_alloc_new w1 _, hy.below ((Below.refl _ _).alloc (Nat.le_refl _) _), hb.alloc hb.size _, hb.size⟩
set_option maxHeartbeats 4000000 in
set_option maxRecDepth 20000 in
/-- laws.FnImage -/
theorem lawImage (a : Option Addr) (n cap : Nat) (l : List Nat) (w : World) (h : isBytes w a n cap l) (hn : n ≤ 9223372036854775807) :
    Calls Try.prog 15 #[.slice a n cap] w fun o w' => o = .returned (.bool true) ∧ Below w.heap.size w w' := by
  by_cases hl : (1048576 : Int) < (n : Int)
  · clear h
    go_enter Try.func15, Try.ntmps15
    go_wp2
    go_ret
    exact ⟨rfl, Below.refl _ _⟩
  · have HD : Hid (Calls Try.prog 42 #[.slice a n cap] w fun o w' => drOut w o w') := drawEncode_any w a n cap l h (by omega)
    clear h hn
    go_enter Try.func15, Try.ntmps15
    go_wp2_with fail
    refine HD.out.mono ?_
    rintro o w1 ⟨e, i, r, d, ao, cp, dl, rfl, hi, hd, hl9, hy, hb⟩
    have st := imI.start (e := e) (i := i) (r := r) (d := d) hy hb
    have hsm := hy.small
    clear hb hy
    obtain ⟨p0, p1, p2, p3, p4⟩ := st.f.cells
    have ST : Hid (imI w w1.heap.size e i r d ao dl.length cp dl (w1.alloc (.cells #[.bool e, .int .u32 (i : Int), .bool r, .int .i64 d, .slice ao dl.length cp] 33))) := st
    clear st
    go_wp2_with fail
    refine (encode_any _ e i r d ao dl.length cp dl ST.out.y).mono ?_
    rintro o w2 ⟨rfl, hb2⟩
    have st := ST.out.below hb2
    clear ST hb2 p0 p1 p2 p3 p4
    generalize w1.heap.size = F at *
    obtain ⟨p0, p1, p2, p3, p4⟩ := st.f.cells
    have ST : Hid (imI w F e i r d ao dl.length cp dl w2) := st
    clear st
    go_wp2_with fail
    refine (specValid_any _ e i r d ao dl.length cp).mono ?_
    rintro o w3 ⟨rfl, hb3⟩
    have st := ST.out.below hb3
    clear ST hb3 p0 p1 p2 p3 p4
    obtain ⟨p0, p1, p2, p3, p4⟩ := st.f.cells
    cases hv : validB e i r d dl.length
    · have henc : encZ e i r d dl.length dl = ⟨#[]⟩ := by unfold encZ; rw [hv]; rfl
      have harb : arbZ e i r d dl.length = ⟨#[]⟩ := by unfold arbZ; rw [hv]; rfl
      rw [henc]
      have ST : Hid (imI w F e i r d ao dl.length cp dl w3) := st
      clear st
      go_wp2_with fail
      refine (valid_any _ e i r d ao dl.length cp dl ST.out.y).mono ?_
      rintro o w4 ⟨rfl, hb4⟩
      rw [hv]
      have st := ST.out.below hb4
      clear ST hb4 p0 p1 p2 p3 p4
      obtain ⟨p0, p1, p2, p3, p4⟩ := st.f.cells
      have ST : Hid (imI w F e i r d ao dl.length cp dl w4) := st
      clear st
      go_wp2_with fail
      refine (arb_any _ e i r d ao dl.length cp dl ST.out.y).mono ?_
      rintro o w5 ⟨rfl, hb5⟩
      rw [harb]
      have HB : Hid (Below w.heap.size w w5) := (ST.out.below hb5).bel
      clear ST hb5 p0 p1 p2 p3 p4
      go_wp2
      go_ret
      exact ⟨rfl, HB.out⟩
    · obtain ⟨dn, rfl, hf, hib⟩ := valid_fits hv hsm
      have h48 : M.isL 48 := .inl rfl
      have h49 : M.isL 49 := .inr rfl
      have hlen := imgL_len e i r dn dl 49
      have hle := imgL_le e i r dn dl 49 hf
      have hsz : (strN (imgL e i r dn dl 49)).size = (imgL e i r dn dl 49).length := strN_size _
      have H41 : Hid (∀ W, isBytes W ao dl.length cp dl → Calls Try.prog 41 #[frV e i r (dn : Int) ao dl.length cp] W fun o w' => o = .returned (.string (strN (imgL e i r dn dl 49))) ∧ Below W.heap.size W w') := by
        intro W hW; have := specEncode_any W e i r (dn : Int) ao dl.length cp dl hW; rw [enc_img hv] at this; exact this
      have H38 : Hid (∀ x, M.isL x → ∀ W, Calls Try.prog 38 #[.string (strN (imgL e i r dn dl x))] W fun o w' => ∃ ao' cp', o = .returned (.tuple #[frV e i r (dn : Int) ao' dl.length cp', .int .i64 2]) ∧ isBytes w' ao' dl.length cp' dl ∧ Below W.heap.size W w') := by
        intro x hx W
        obtain ⟨q1, q2, q3, q4, q5, q6⟩ := img_dec e i r dn dl x hf hx hib
        refine (decode_any (strN (imgL e i r dn dl x)) W).mono ?_
        rintro o w' ⟨ao', cp', rfl, ho, hb⟩
        rw [q1, q2, q3, q4, q5, q6]
        rw [q6] at ho
        exact ⟨ao', cp', rfl, own_bytes ho hsm rfl, hb⟩
      have H46 : Hid (∀ W, Calls Try.prog 46 #[.string (strN (imgL e i r dn dl 49)), .int .i64 (((imgL e i r dn dl 49).length - 9 : Nat) : Int)] W fun o w' => o = .returned (.string (strN (imgL e i r dn dl 48))) ∧ Below W.heap.size W w') := by
        intro W
        have := wFlip_49 (imgL e i r dn dl 49) ((imgL e i r dn dl 49).length - 9) (by omega) (by omega) (isL_256 (imgL_isL e i r dn dl 49 h49)) (imgL_at e i r dn dl 49) W
        rw [imgL_flip] at this
        exact this
      have H30 : Hid (∀ W k, k < (imgL e i r dn dl 49).length → Calls Try.prog 30 #[.string ((strN (imgL e i r dn dl 49)).extract 0 k)] W fun o w' => (∃ (f : Nat) (d o' : Bool), o = .returned (.agg #[.int .i64 ((if k + 1 = (imgL e i r dn dl 49).length then 1 else 0 : Nat) : Int), .int .i64 (f : Int), .bool d, .bool o'])) ∧ Below W.heap.size W w') := by
        intro W k hk
        refine (judge_any _ W).mono ?_
        rintro o w' ⟨rfl, hb⟩
        refine ⟨?_, hb⟩
        rw [strN_take]
        have hc := img_code e i r dn dl 49 hf h49 k (by omega)
        rw [if_neg (by omega)] at hc
        unfold judgeV
        rw [hc]
        have hg : goesOnB (if k + 1 = (imgL e i r dn dl 49).length then 1 else 0) = true := by split <;> rfl
        rw [if_pos hg]
        exact ⟨_, _, _, rfl⟩
      have H28 : Hid (∀ W, isBytes W ao dl.length cp dl → Calls Try.prog 28 #[frV e i r (dn : Int) ao dl.length cp] W fun o w' => o = .returned (.string (strN (bodyL e i r dn dl))) ∧ Below W.heap.size W w') := fun W hW => body_ok W e i r dn ao dl.length cp dl hW hv
      have H27 : Hid (∀ W, isBytes W ao dl.length cp dl → Calls Try.prog 27 #[frV e i r (dn : Int) ao dl.length cp] W fun o w' => o = .returned (.string (strN (bodyL e i r dn dl))) ∧ Below W.heap.size W w') := fun W hW => specBody_ok W e i r dn ao dl.length cp dl hW hv
      have H19 : Hid (∀ W, Calls Try.prog 19 #[.string ((strN (imgL e i r dn dl 49)).extract 0 ((imgL e i r dn dl 49).length - 10))] W fun o w' => o = .returned (.tuple #[.string (strN (plainL e i r dn dl)), .int .i64 (-1)]) ∧ Below W.heap.size W w') := by
        intro W
        have := destuff_any ((strN (imgL e i r dn dl 49)).extract 0 ((imgL e i r dn dl 49).length - 10)) W
        rw [strN_take, img_take10, dest_img e i r dn dl hf] at this
        rw [strN_take, img_take10]
        exact this
      have hbl := bodyL_length e i r dn dl
      have H17 : Hid (∀ W, Calls Try.prog 17 #[.string (strN (bodyL e i r dn dl))] W fun o w' => o = .returned (.int .i64 (M.crcN ((bodyL e i r dn dl).map (fun x => x - 48)) : Nat)) ∧ Below W.heap.size W w') := by
        intro W
        have := crc15_any (strN (bodyL e i r dn dl)) W
        rw [crcZ_strN _ (bodyL_isL e i r dn dl) (by rw [hbl]; cases e <;> simp <;> omega)] at this
        exact this
      have H43 : Hid (∀ W, Calls Try.prog 43 #[.int .i64 (M.crcN ((bodyL e i r dn dl).map (fun x => x - 48)) : Nat), .int .i64 15] W fun o w' => o = .returned (.string (strN (M.num (M.crcN ((bodyL e i r dn dl).map (fun x => x - 48))) 15))) ∧ Below W.heap.size W w') := fun W => wBits_15 _ (M.crcN_lt _) W
      have HP : Hid (strN (plainL e i r dn dl) = strN (bodyL e i r dn dl) ++ strN (M.num (M.crcN ((bodyL e i r dn dl).map (fun x => x - 48))) 15)) := by unfold Hid; rw [strN_append]; rfl
      have hbs : (strN (bodyL e i r dn dl)).size ≤ 200 := by rw [strN_size, hbl]; cases e <;> simp <;> omega
      have hns : (strN (M.num (M.crcN ((bodyL e i r dn dl).map (fun x => x - 48))) 15)).size = 15 := by rw [strN_size, M.num_length]
      rw [enc_img hv]
      clear hv hlen hsm hd hib hi hbl
      have ST : Hid (imI w F e i r (dn : Int) ao dl.length cp dl w3) := st
      clear st hf
      generalize M.crcN ((bodyL e i r dn dl).map (fun x => x - 48)) = cr at *
      generalize strN (M.num cr 15) = tn at *
      generalize strN (bodyL e i r dn dl) = tb at *
      generalize strN (plainL e i r dn dl) = tp at *
      have hge : 10 ≤ (imgL e i r dn dl 49).length := by rw [imgL_len]; omega
      have HA := H38.out 49 h49
      have HB2 := H38.out 48 h48
      clear H38
      generalize (imgL e i r dn dl 49).length = Ln at *
      generalize strN (imgL e i r dn dl 49) = s at *
      generalize strN (imgL e i r dn dl 48) = s2 at *
      have H38a : Hid (∀ W, Calls Try.prog 38 #[.string s] W fun o w' => ∃ ao' cp', o = .returned (.tuple #[frV e i r (dn : Int) ao' dl.length cp', .int .i64 2]) ∧ isBytes w' ao' dl.length cp' dl ∧ Below W.heap.size W w') := HA
      have H38b : Hid (∀ W, Calls Try.prog 38 #[.string s2] W fun o w' => ∃ ao' cp', o = .returned (.tuple #[frV e i r (dn : Int) ao' dl.length cp', .int .i64 2]) ∧ isBytes w' ao' dl.length cp' dl ∧ Below W.heap.size W w') := HB2
      clear HA HB2
      go_wp2_with fail
      refine (H41.out _ ST.out.y).mono ?_
      rintro o w4 ⟨rfl, hb4⟩
      have st := ST.out.below hb4
      clear ST hb4 p0 p1 p2 p3 p4 H41
      have ST : Hid (imI w F e i r (dn : Int) ao dl.length cp dl w4) := st
      clear st
      go_wp2_with fail
      refine (H38a.out _).mono ?_
      rintro o w5 ⟨ao1, cp1, rfl, hy1, hb5⟩
      have st := ST.out.below hb5
      have stA := imI.start (e := e) (i := i) (r := r) (d := (dn : Int)) hy1 st.bel
      have st := st.below ((Below.refl _ _).alloc (Nat.le_refl _) (.cells #[.bool e, .int .u32 (i : Int), .bool r, .int .i64 (dn : Int), .slice ao1 dl.length cp1] 33))
      have ST : Hid (imI w F e i r (dn : Int) ao dl.length cp dl (w5.alloc (.cells #[.bool e, .int .u32 (i : Int), .bool r, .int .i64 (dn : Int), .slice ao1 dl.length cp1] 33)) ∧ imI w w5.heap.size e i r (dn : Int) ao1 dl.length cp1 dl (w5.alloc (.cells #[.bool e, .int .u32 (i : Int), .bool r, .int .i64 (dn : Int), .slice ao1 dl.length cp1] 33))) := ⟨st, stA⟩
      clear st stA hy1 hb5 H38a
      have hi9 : ((Ln : Nat) : Int) - 9 = ((Ln - 9 : Nat) : Int) := by omega
      go_wp2_with fail
      refine (H46.out _).mono ?_
      rintro o w6 ⟨rfl, hb6⟩
      have st := ST.out.1.below hb6
      have stA := ST.out.2.below hb6
      clear ST hb6 H46 hi9
      generalize w5.heap.size = FA at *
      have ST : Hid (imI w F e i r (dn : Int) ao dl.length cp dl w6 ∧ imI w FA e i r (dn : Int) ao1 dl.length cp1 dl w6) := ⟨st, stA⟩
      clear st stA
      go_wp2_with fail
      refine (H38b.out _).mono ?_
      rintro o w7 ⟨ao2, cp2, rfl, hy2, hb7⟩
      have st := ST.out.1.below hb7
      have stA := ST.out.2.below hb7
      have stB := imI.start (e := e) (i := i) (r := r) (d := (dn : Int)) hy2 st.bel
      have hbA : Below w7.heap.size w7 (w7.alloc (.cells #[.bool e, .int .u32 (i : Int), .bool r, .int .i64 (dn : Int), .slice ao2 dl.length cp2] 33)) := (Below.refl _ _).alloc (Nat.le_refl _) _
      have st := st.below hbA
      have stA := stA.below hbA
      obtain ⟨p0, p1, p2, p3, p4⟩ := st.f.cells
      obtain ⟨q0, q1, q2, q3, q4⟩ := stA.f.cells
      have ST : Hid (imI w F e i r (dn : Int) ao dl.length cp dl (w7.alloc (.cells #[.bool e, .int .u32 (i : Int), .bool r, .int .i64 (dn : Int), .slice ao2 dl.length cp2] 33)) ∧ imI w FA e i r (dn : Int) ao1 dl.length cp1 dl (w7.alloc (.cells #[.bool e, .int .u32 (i : Int), .bool r, .int .i64 (dn : Int), .slice ao2 dl.length cp2] 33)) ∧ imI w w7.heap.size e i r (dn : Int) ao2 dl.length cp2 dl (w7.alloc (.cells #[.bool e, .int .u32 (i : Int), .bool r, .int .i64 (dn : Int), .slice ao2 dl.length cp2] 33))) := ⟨st, stA, stB⟩
      clear st stA stB hy2 hb7 H38b hbA
      go_wp2_with fail
      refine (wFrame_same _ e i r (dn : Int) ao1 dl.length cp1 dl ST.out.2.1.y ao cp ST.out.1.y (by omega)).mono ?_
      rintro o w8 ⟨rfl, hb8⟩
      have st := ST.out.1.below hb8
      have stB := ST.out.2.2.below hb8
      clear ST hb8 p0 p1 p2 p3 p4 q0 q1 q2 q3 q4
      generalize w7.heap.size = FB at *
      obtain ⟨p0, p1, p2, p3, p4⟩ := st.f.cells
      obtain ⟨q0, q1, q2, q3, q4⟩ := stB.f.cells
      have ST : Hid (imI w F e i r (dn : Int) ao dl.length cp dl w8 ∧ imI w FB e i r (dn : Int) ao2 dl.length cp2 dl w8) := ⟨st, stB⟩
      clear st stB
      go_wp2_with fail
      refine (wFrame_same _ e i r (dn : Int) ao2 dl.length cp2 dl ST.out.2.y ao cp ST.out.1.y (by omega)).mono ?_
      rintro o w9 ⟨rfl, hb9⟩
      have st := ST.out.1.below hb9
      clear ST hb9 p0 p1 p2 p3 p4 q0 q1 q2 q3 q4
      go_wp2_with fail
      go_loopw [9] (fun ii wr => ∃ k : Nat, k ≤ Ln ∧ ii = .int .i64 (k : Int) ∧ imI w F e i r (dn : Int) ao dl.length cp dl wr) (fun ii _ => Ln - (intOf ii).toNat)
      case atStart => exact ⟨0, Nat.zero_le _, rfl, st⟩
      case round =>
        clear st
        obtain ⟨k, hk, rfl, st⟩ := hrel
        by_cases hlt : k < Ln
        · have HK := H30.out wr k hlt
          have ST : Hid (imI w F e i r (dn : Int) ao dl.length cp dl wr) := st
          clear st
          have hks : k ≤ s.size := by omega
          by_cases hk1 : k + 1 = Ln
          · rw [if_pos hk1] at HK
            have hk1' : ((k : Int) != (Ln : Int) - 1) = false := by simp; omega
            have HKK : Hid (k + 1 = Ln) := hk1
            clear hk1
            go_wp2_with (first | (go_at_call 30; refine HK.mono ?_; rintro o w2 ⟨⟨fl, dd, oo, rfl⟩, hb2⟩))
            have st2 := (ST.out.below hb2).below ((Below.refl _ _).alloc (Nat.le_refl _) (.cells #[.int .i64 1, .int .i64 (fl : Int), .bool dd, .bool oo] 39))
            go_roundw
            case rel => exact ⟨k + 1, by omega, by go_num, st2⟩
            case measure => simp [intOf]; omega
          · rw [if_neg hk1] at HK
            clear hk1
            go_wp2_with (first | (go_at_call 30; refine HK.mono ?_; rintro o w2 ⟨⟨fl, dd, oo, rfl⟩, hb2⟩))
            have st2 := (ST.out.below hb2).below ((Below.refl _ _).alloc (Nat.le_refl _) (.cells #[.int .i64 0, .int .i64 (fl : Int), .bool dd, .bool oo] 39))
            go_roundw
            case rel => exact ⟨k + 1, by omega, by go_num, st2⟩
            case measure => simp [intOf]; omega
        · have hlt' : ¬ (k : Int) < (Ln : Int) := by omega
          clear H30 hlt
          obtain ⟨p0, p1, p2, p3, p4⟩ := st.f.cells
          have ST : Hid (imI w F e i r (dn : Int) ao dl.length cp dl wr) := st
          clear st
          go_wp2_with fail
          refine (H28.out _ ST.out.y).mono ?_
          rintro o w2 ⟨rfl, hb2⟩
          have st := ST.out.below hb2
          clear ST hb2 p0 p1 p2 p3 p4 H28
          have ST : Hid (imI w F e i r (dn : Int) ao dl.length cp dl w2) := st
          clear st
          have hi10 : ((Ln : Nat) : Int) - 10 = ((Ln - 10 : Nat) : Int) := by omega
          go_wp2_with fail
          refine (H19.out _).mono ?_
          rintro o w3 ⟨rfl, hb3⟩
          have st := ST.out.below hb3
          clear ST hb3 H19 hi10
          obtain ⟨p0, p1, p2, p3, p4⟩ := st.f.cells
          have ST : Hid (imI w F e i r (dn : Int) ao dl.length cp dl w3) := st
          clear st
          rw [HP.out]
          clear HP
          go_wp2_with fail
          refine (H17.out _).mono ?_
          rintro o w4 ⟨rfl, hb4⟩
          have st := ST.out.below hb4
          clear ST hb4 p0 p1 p2 p3 p4 H17
          have ST : Hid (imI w F e i r (dn : Int) ao dl.length cp dl w4) := st
          clear st
          go_wp2_with fail
          refine (H43.out _).mono ?_
          rintro o w5 ⟨rfl, hb5⟩
          have st := ST.out.below hb5
          clear ST hb5 H43
          obtain ⟨p0, p1, p2, p3, p4⟩ := st.f.cells
          have ST : Hid (imI w F e i r (dn : Int) ao dl.length cp dl w5) := st
          clear st
          go_wp2_with fail
          refine (H27.out _ ST.out.y).mono ?_
          rintro o w6 ⟨rfl, hb6⟩
          have HB : Hid (Below w.heap.size w w6) := (ST.out.below hb6).bel
          clear ST hb6 p0 p1 p2 p3 p4 H27
          go_wp2
          go_ret
          exact ⟨rfl, HB.out⟩
end Go.Proofs.Ytnefmdjodjpopaa
