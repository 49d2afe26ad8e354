import Derived.Test.YtnefmdjodjpopaaBC
namespace Go.Proofs.Ytnefmdjodjpopaa
open Go.RowKit

/-- what the model's Judge makes of the walk -/
def sjV (code : Nat) (p : List Nat) (d : Bool) : Value := if goesOnB code = true then .agg #[.int .i64 (code : Int), .int .i64 (fieldL p : Nat), .bool d, .bool (crcOkL p)] else .agg #[.int .i64 (code : Int), .int .i64 0, .bool false, .bool false]
theorem swF_len (L : List Nat) : ∀ f i, (swF L f i).2.1.length ≤ f + i
  | 0, i => by have := sw_len L i; show (sw L i).2.1.length ≤ _; omega
  | f + 1, i => by
    rw [swF_succ]
    split
    · have := swF_len L f (i + 1); omega
    · have := sw_len L i; show (sw L i).2.1.length ≤ _; omega
theorem swF_small (L : List Nat) (h : ∀ x ∈ L, M.isL x) : ∀ f i, f + i ≤ L.length → ∀ x ∈ (swF L f i).2.1, M.isL x
  | 0, i, hi => sw_small L h i (by omega)
  | f + 1, i, hi => by
    rw [swF_succ]
    split
    · exact swF_small L h f (i + 1) (by omega)
    · exact sw_small L h i (by omega)
theorem swZ_bytes (s : ByteArray) : (swZ s).2.1.length ≤ 4000 ∧ ∀ x ∈ (swZ s).2.1, M.isL x := by
  unfold swZ
  split
  · rename_i hk
    have := okT_size hk
    have h1 := swF_len (lt s) (lt s).length 0
    refine ⟨?_, swF_small (lt s) (lt_isL hk) _ 0 (by omega)⟩
    rw [lt_length] at h1 ⊢
    omega
  · exact ⟨by simp, by simp⟩
set_option maxHeartbeats 2000000 in
set_option maxRecDepth 20000 in
theorem specJudge_any (s : ByteArray) (w : World) (hs : s.size ≤ maxLen) :
    Calls Try.prog 29 #[.string s] w fun e w' => e = .returned (sjV (swZ s).1 (swZ s).2.1 (swZ s).2.2) ∧ Below w.heap.size w w' := by
  have HS : Hid (s.size ≤ maxLen) := hs
  clear hs
  obtain ⟨hpl, hps⟩ := swZ_bytes s
  go_enter Try.func29, Try.ntmps29
  go_wp2_with fail
  refine (l1walk_any s _ HS.out).mono ?_
  rintro e w1 ⟨v, rfl, ho, hb1⟩
  obtain ⟨hr, hb⟩ := ju_res hb1
  obtain ⟨ao, cap, rfl, hby⟩ := ho.bytes (fun x hx => by rcases hps x hx with h | h <;> omega)
  have H68 : Hid (Calls Try.prog 68 #[.slice ao (swZ s).2.1.length cap] w1 fun e w' => e = .returned (.int .i64 (fieldL (swZ s).2.1 : Nat)) ∧ w1 = w') := l1field_any w1 ao _ cap _ hby (by omega)
  have H69 : Hid (Calls Try.prog 69 #[.slice ao (swZ s).2.1.length cap] w1 fun e w' => e = .returned (.bool (crcOkL (swZ s).2.1)) ∧ Below w1.heap.size w1 w') := l1crcOk_any w1 ao _ cap _ hby (by omega)
  clear hb1 ho hby hps
  have HZ : Hid (swZ s = ((swZ s).1, (swZ s).2.1, (swZ s).2.2)) := rfl
  generalize hp : (swZ s).2.1 = p at *
  generalize hcd : (swZ s).1 = code at *
  generalize hdd : (swZ s).2.2 = d at *
  clear hp hcd hdd
  by_cases hgo : goesOnB code = true
  · have hc2 : code = 0 ∨ code = 1 := by simpa [goesOnB] using hgo
    clear hgo
    rcases hc2 with rfl | rfl
    · go_wp2_with (first | (go_at_call 68; refine H68.out.mono ?_; rintro e w2 ⟨rfl, rfl⟩) | (go_at_call 69; refine H69.out.mono ?_; rintro e w2 ⟨rfl, hb2⟩; obtain ⟨x0, x1, x2, x3, d0, d1, d2, d3, z0, z1, z2, z3⟩ := ju_d ⟨_, _, _, _, (hb2.block _ (lt_of_block hr)).trans hr⟩))
      refine bodyPost_ret (v := sjV 0 p d) ?_ rfl ⟨by rw [HZ.out], ?_⟩
      · simp [results, Try.results29, go_sem, sjV, goesOnB, d0, d1, d2, d3]
      · exact be4 _ _ _ _ (hb.trans (hb2.mono hb.size)) (Nat.le_refl _)
    · go_wp2_with (first | (go_at_call 68; refine H68.out.mono ?_; rintro e w2 ⟨rfl, rfl⟩) | (go_at_call 69; refine H69.out.mono ?_; rintro e w2 ⟨rfl, hb2⟩; obtain ⟨x0, x1, x2, x3, d0, d1, d2, d3, z0, z1, z2, z3⟩ := ju_d ⟨_, _, _, _, (hb2.block _ (lt_of_block hr)).trans hr⟩))
      refine bodyPost_ret (v := sjV 1 p d) ?_ rfl ⟨by rw [HZ.out], ?_⟩
      · simp [results, Try.results29, go_sem, sjV, goesOnB, d0, d1, d2, d3]
      · exact be4 _ _ _ _ (hb.trans (hb2.mono hb.size)) (Nat.le_refl _)
  · have n0 : ((code : Int) != 0) = true := by simp [goesOnB] at hgo; simp; omega
    have n1 : ((code : Int) != 1) = true := by simp [goesOnB] at hgo; simp; omega
    obtain ⟨x0, x1, x2, x3, d0, d1, d2, d3, z0, z1, z2, z3⟩ := ju_d ⟨_, _, _, _, hr⟩
    have HG : Hid (¬ goesOnB code = true) := hgo
    clear hgo
    go_wp2
    refine bodyPost_ret (v := sjV code p d) ?_ rfl ⟨by rw [HZ.out], ?_⟩
    · simp [results, Try.results29, go_sem, sjV, HG.out, d0, d1, d2, d3]
    · exact be4 _ _ _ _ hb (Nat.le_refl _)
end Go.Proofs.Ytnefmdjodjpopaa
