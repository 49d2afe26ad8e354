import Derived.Test.YtpknchjjfiiaeaaGreatDoorV24
import Derived.Test.YtpknchjjfiiaeaaGreatDoorV08
namespace Go.Proofs.YtpknchjjfiiaeaaGreatDoor
open Go.RowKit
set_option linter.unusedVariables false
def feedL (st : Bool) (o l : List Nat) : List Nat := l.foldl (feed st) o
theorem feedL_snoc (st : Bool) (o l : List Nat) (c : Nat) : feedL st o (l ++ [c]) = feed st (feedL st o l) c := by simp [feedL]
theorem feedL_append (st : Bool) (o l m : List Nat) : feedL st o (l ++ m) = feedL st (feedL st o l) m := by simp [feedL]
theorem feedL_false (o l : List Nat) : feedL false o l = o ++ l := by
  induction l generalizing o with
  | nil => simp [feedL]
  | cons a l ih => show feedL false (feed false o a) l = _; rw [ih]; simp [feed]
theorem feedL_true (l : List Nat) : feedL true [] l = J.M.stuffL l := by
  unfold feedL J.M.stuffL
  congr 1
/-- letters, and no full run where stuffing goes on -/
structure good (st : Bool) (o : List Nat) : Prop where
  l : ∀ x ∈ o, J.M.isL x
  r : st = true → (J.M.trail o).2 ≤ 4
theorem good.nil (st : Bool) : good st [] := ⟨(fun x hx => by cases hx), fun _ => by decide⟩
theorem good.feed {st : Bool} {o : List Nat} {c : Nat} (h : good st o) (hc : J.M.isL c) : good st (feed st o c) ∧ (feed st o c).length ≤ o.length + 2 := by
  cases st
  · refine ⟨⟨isL_snoc h.l hc, fun e => by cases e⟩, ?_⟩
    simp [Go.Proofs.YtpknchjjfiiaeaaGreatDoor.feed]
  · have h4 := h.r rfl
    show good true (J.M.stStep o c) ∧ (J.M.stStep o c).length ≤ _
    unfold J.M.stStep
    have hle := J.M.hear_le (J.M.trail o) c
    have hopp := J.M.isL_opp hc
    split
    · refine ⟨⟨isL_snoc (isL_snoc h.l hc) hopp.1, fun _ => ?_⟩, by simp⟩
      rw [J.M.trail_snoc, J.M.trail_snoc]
      have hf := J.M.hear_fst (J.M.trail o) c
      generalize J.M.hear (J.M.trail o) c = z at *
      obtain ⟨z1, z2⟩ := z
      have hf : z1 = c := hf
      rw [J.M.hear_other z1 z2 _ (by rw [hf]; exact hopp.2)]
      show 1 ≤ 4
      decide
    · rename_i hne
      refine ⟨⟨isL_snoc h.l hc, fun _ => ?_⟩, by simp⟩
      rw [J.M.trail_snoc] at hne ⊢
      omega
theorem good.feedL {st : Bool} {o : List Nat} (h : good st o) : ∀ l, (∀ x ∈ l, J.M.isL x) → good st (feedL st o l) ∧ (feedL st o l).length ≤ o.length + 2 * l.length := by
  intro l
  induction l generalizing o with
  | nil => intro _; exact ⟨h, by simp [Go.Proofs.YtpknchjjfiiaeaaGreatDoor.feedL]⟩
  | cons a l ih =>
    intro hl
    have h1 := h.feed (hl a (by simp))
    have h2 := ih h1.1 (fun x hx => hl x (by simp [hx]))
    refine ⟨h2.1, ?_⟩
    have : (Go.Proofs.YtpknchjjfiiaeaaGreatDoor.feedL st o (a :: l)).length ≤ (Go.Proofs.YtpknchjjfiiaeaaGreatDoor.feed st o a).length + 2 * l.length := h2.2
    simp only [List.length_cons]
    omega
theorem bit64 (x d : Nat) (hx : x < 18446744073709551616) : wrap64 (bits BinOp.and IntKind.u64 ((x : Int) / 2 ^ d) 1) = ((x / 2 ^ d % 2 : Nat) : Int) := by
  have e : (x : Int) / 2 ^ d = ((x / 2 ^ d : Nat) : Int) := by push_cast; rfl
  have hy : x / 2 ^ d < 18446744073709551616 := Nat.lt_of_le_of_lt (Nat.div_le_self _ _) hx
  rw [e]
  generalize x / 2 ^ d = y at *
  have := u64_and_nat y 1 hy (by decide)
  rw [show ((1 : Nat) : Int) = 1 from rfl] at this
  rw [this, Nat.and_two_pow_sub_one_eq_mod (n := 1)]
  unfold wrap64
  omega
theorem num_stepD (v c m : Nat) (h : m < c) : J.M.num (v / 2 ^ m) (c - m) = J.M.num (v / 2 ^ (m + 1)) (c - (m + 1)) ++ [48 + v / 2 ^ m % 2] := by
  have e : v / 2 ^ m / 2 = v / 2 ^ (m + 1) := by
    rw [Nat.div_div_eq_div_mul, ← Nat.pow_succ]
  have e2 : c - m = (c - (m + 1)) + 1 := by omega
  rw [e2, J.M.num, e]
set_option maxHeartbeats 2000000 in
/-- bitWriter.bits -/
theorem bwS.bits {w0 w : World} {b : Nat} {o : List Nat} {st : Bool} {r : Nat × Nat} (h : bwS w0 b o st (runOf st o r) w) (hg : good st o) (v c : Nat) (hv : v < 18446744073709551616) (hc : c ≤ 64) (hn : o.length + 2 * c ≤ 3990) :
    Calls Tryz.prog 81 #[.pointer (some ⟨b, 0, none⟩), .int .u64 (v : Int), .int .i64 (c : Int)] w fun o' w' => o' = .returned (.tuple #[]) ∧ bwS w0 b (feedL st o (J.M.num v c)) st (runOf st (feedL st o (J.M.num v c)) r) w' ∧ Lib.OthersKept 64 (some b) w w' := by
  have HG := hidYY hg
  have H0 := hidYY h
  clear h hg
  go_enter Tryz.func81, Tryz.ntmps81
  go_wp2
  go_loopw [6] (fun i wr => ∃ q : Nat, q ≤ c ∧ i = .int .i64 ((q : Int) - 1) ∧ bwS w0 b (feedL st o (J.M.num (v / 2 ^ q) (c - q))) st (runOf st (feedL st o (J.M.num (v / 2 ^ q) (c - q))) r) wr ∧ Lib.OthersKept 64 (some b) w wr) (fun i _ => (intOf i + 1).toNat)
  case atStart => exact ⟨c, Nat.le_refl _, rfl, by simpa [J.M.num, feedL] using H0.out, Lib.OthersKept.refl _ _ _⟩
  case round =>
    obtain ⟨q, hq, rfl, hw, hk⟩ := hrel
    by_cases hq0 : q = 0
    · subst hq0
      rw [Nat.sub_zero, Nat.pow_zero, Nat.div_one] at hw
      have HW := hidYY hw
      have HK := hidYY hk
      clear hw hk
      go_wp2
      go_end0
      exact ⟨rfl, HW.out, HK.out⟩
    · obtain ⟨m, rfl⟩ : ∃ m, q = m + 1 := ⟨q - 1, by omega⟩
      have hgl := HG.out.feedL (J.M.num (v / 2 ^ (m + 1)) (c - (m + 1))) (J.M.num_isL _ _)
      rw [J.M.num_length] at hgl
      have HN : Hid (feedL st o (J.M.num (v / 2 ^ m) (c - m)) = feed st (feedL st o (J.M.num (v / 2 ^ (m + 1)) (c - (m + 1)))) (48 + v / 2 ^ m % 2)) := by
        show _ = _
        rw [num_stepD v c m (by omega), feedL_snoc]
      generalize feedL st o (J.M.num (v / 2 ^ (m + 1)) (c - (m + 1))) = l1 at *
      have hbit := bit64 v m hv
      have HC : Hid (Calls Tryz.prog 31 #[.pointer (some ⟨b, 0, none⟩), .int .i64 (wrap64 (Go.bits BinOp.and IntKind.u64 ((v : Int) / 2 ^ m) 1))] wr fun o' w' => o' = .returned (.tuple #[]) ∧ bwS w0 b (feed st l1 (48 + v / 2 ^ m % 2)) st (runOf st (feed st l1 (48 + v / 2 ^ m % 2)) r) w' ∧ Lib.OthersKept 64 (some b) wr w') := by
        show Calls _ _ _ _ _
        rw [hbit]
        exact hw.bit hgl.1.l (by omega) (by omega) hgl.1.r
      have HK := hidYY hk
      clear hw hk hgl hbit
      go_wp2_with (first | (go_at_call 31; refine HC.out.mono ?_; rintro o' w3 ⟨rfl, h3, k3⟩))
      have H3 := hidYY (And.intro h3 k3)
      clear h3 k3 HC
      go_wp2_with fail
      go_roundw
      case rel => exact ⟨m, by omega, by go_num, by rw [HN.out]; exact H3.out.1, okept HK.out H3.out.2⟩
      case measure => simp [intOf]
end Go.Proofs.YtpknchjjfiiaeaaGreatDoor
