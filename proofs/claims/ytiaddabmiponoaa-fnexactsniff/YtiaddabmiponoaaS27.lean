import Derived.Test.YtiaddabmiponoaaS26
namespace Go.Proofs.Ytiaddabmiponoaa
open Go.RowKit
set_option linter.unusedVariables false
theorem datL_small (p : List Nat) (H j : Nat) : (datL p H j).length = j ∧ ∀ x ∈ datL p H j, x < 256 := by
  refine ⟨by simp [datL], fun x hx => ?_⟩
  unfold datL at hx
  rw [List.mem_map] at hx
  obtain ⟨t, -, rfl⟩ := hx
  exact valL_lt8 _
theorem dec_len (s : ByteArray) : (decK (walkZ s)).data.length ≤ 8 ∧ ∀ x ∈ (decK (walkZ s)).data, x < 256 := by
  obtain ⟨hcode, hvals⟩ := walk_code s
  by_cases hc : (swZ s).1 = 1 ∨ (swZ s).1 = 2
  · have hv := hvals hc
    have h12 := swZ12 s hc
    obtain ⟨r1, r2⟩ := vals_read hv h12.1 h12.2
    have hk : decK (walkZ s) = walkZ s := by unfold decK; rw [if_pos (by rw [hcode]; exact hc)]
    rw [hk]
    have hN := layN_le (swZ s).2.1
    rcases layH_or (swZ s).2.1 with e | e
    · rw [(r1 e).2.2.2.2]; obtain ⟨a, b⟩ := datL_small (swZ s).2.1 19 (layN (swZ s).2.1); exact ⟨by omega, b⟩
    · rw [(r2 e).2.2.2.2]; obtain ⟨a, b⟩ := datL_small (swZ s).2.1 39 (layN (swZ s).2.1); exact ⟨by omega, b⟩
  · have hk : decK (walkZ s) = Wk.zero := by unfold decK; rw [if_neg (by rw [hcode]; exact hc)]
    rw [hk]
    exact ⟨by decide, by intro x hx; cases hx⟩
theorem markSlot_nil (w : World) : Calls Try.prog 7 #[.slice none 0 0, .int .i64 1] w fun o w' => o = .returned (.int .i64 1) ∧ w' = w := by
  go_enter Try.func7, Try.ntmps7
  go_wp2
  go_loopw [1, 5] (fun kk i wr => i = .int .i64 0 ∧ kk = .int .i64 1 ∧ wr = w) (fun _ _ _ => 0)
  case atStart => exact ⟨rfl, rfl, rfl⟩
  case round =>
    obtain ⟨rfl, rfl, rfl⟩ := hrel
    go_wp2
    go_ret
    exact ⟨rfl, rfl⟩
theorem heldSlot_nil (w : World) : Calls Try.prog 8 #[.slice none 0 0, .int .i64 1] w fun o w' => o = .returned (.int .i64 1) ∧ w' = w := by
  go_enter Try.func8, Try.ntmps8
  go_wp2
  go_loopw [1, 5] (fun kk i wr => i = .int .i64 0 ∧ kk = .int .i64 1 ∧ wr = w) (fun _ _ _ => 0)
  case atStart => exact ⟨rfl, rfl, rfl⟩
  case round =>
    obtain ⟨rfl, rfl, rfl⟩ := hrel
    go_wp2
    go_ret
    exact ⟨rfl, rfl⟩
/-- the header of the j-th slot's bytes -/
def hdx (rs : List Sx) (j : Nat) : Hd := match rs[j]? with
  | some r => r.2
  | none => (none, 0, 0)
theorem hdx_at {rs : List Sx} {j : Nat} (h : j < rs.length) : hdx rs j = rs[j].2 := by
  unfold hdx
  rw [List.getElem?_eq_getElem h]
theorem rowF_own {w : World} {B E sz g n k : Nat} {xs : List Value} (h : w.ownsRow B E sz (.slice (some ⟨g, 0, none⟩) n k) n xs) : rowF w g (n * sz) := by
  obtain ⟨g', cap, e, _, _, _, hc⟩ := own_slice h (by intro e; cases e)
  cases e
  intro t ht
  refine ⟨?_, World.ownsRow.frozenAt h t⟩
  have hl : xs.length = n * sz := h.1
  exact ⟨_, (hc w rfl t ht).trans (List.getElem?_eq_getElem (by omega))⟩
theorem slR.sh {s : ByteArray} {B g n k : Nat} {rs : List Sx} {W : World} (h : slR s B (.slice (some ⟨g, 0, none⟩) n k) rs W) (hn : n = rs.length) : sh7 W g n (hdx rs) := by
  subst hn
  obtain ⟨c0, f0, hg0⟩ := ownsRow_kind h.own rfl
  refine ⟨rowF_own h.own, fun j hj => ?_⟩
  rw [hdx_at hj]
  have hr := h.dat rs[j] (List.getElem_mem hj)
  refine ⟨h.rng j hj 6 _ rfl, ?_⟩
  have hl := dec_len (s.extract rs[j].1.1 (rs[j].1.1 + rs[j].1.2))
  obtain ⟨e1, e2⟩ := ownsB_hd hr
  have hle : rs[j].2.2.1 ≤ 8 := by rw [e1]; exact hl.1
  refine ⟨by omega, ?_, ?_⟩
  · rcases e2 with ⟨e3, e4⟩ | ⟨b, e3, _, _⟩
    · rw [e4]; exact Nat.zero_le _
    · rw [e3] at hr
      obtain ⟨g', cap, e, _, _, hc, _⟩ := own_slice hr (by intro e; cases e)
      injection e with _ e5 e6
      rw [e6, e1]
      exact hc
  · rcases e2 with h' | ⟨b, e3, _, _⟩
    · exact Or.inl h'
    · refine Or.inr ⟨b, e3, ?_, ?_⟩
      · rintro rfl
        obtain ⟨c, f, hb⟩ := ownsRow_kind hr (by rw [e3])
        rw [hg0] at hb
        injection hb with hb
        injection hb with _ hb _
        exact absurd hb (by decide)
      · rw [e3] at hr
        have := rowF_own (n := rs[j].2.2.1) (sz := 1) (k := rs[j].2.2.2) (g := b) (w := W) (B := B) (E := 5) (xs := bv (fk s rs[j].1.1 rs[j].1.2).data) (by rw [e1] at hr ⊢; exact hr)
        rw [Nat.mul_one] at this
        exact this
/-- marks of a row of slots, and what is held of them -/
theorem slR.mark {s : ByteArray} {B : Nat} {v : Value} {rs : List Sx} {W : World} (h : slR s B v rs W) (hn : rs.length ≤ 100000) : Calls Try.prog 7 #[v, .int .i64 1] W fun o w' => ∃ k : Nat, o = .returned (.int .i64 (k : Int)) ∧ Below B W w' ∧ Calls Try.prog 8 #[v, .int .i64 1] w' fun o w2 => o = .returned (.int .i64 (k : Int)) ∧ w2 = w' := by
  rcases h.len with ⟨rfl, rfl⟩ | ⟨g, k, rfl, hk⟩
  · refine (markSlot_nil W).mono ?_
    rintro o w' ⟨rfl, rfl⟩
    exact ⟨1, rfl, Below.refl _ _, heldSlot_nil w'⟩
  · have hsh := h.sh rfl
    have hB := (ownsRow_lt h.own rfl).2
    have hab : abv B (hdx rs) rs.length := fun j hj b e => by
      rw [hdx_at hj] at e
      rcases (ownsB_hd (h.dat rs[j] (List.getElem_mem hj))).2 with ⟨e', _⟩ | ⟨b', e', h1, _⟩
      · rw [e'] at e; cases e
      · rw [e'] at e; cases e; exact h1
    have hds : dst (hdx rs) rs.length := fun i j hij hj b e e' => by
      rw [hdx_at (by omega)] at e
      rw [hdx_at hj] at e'
      exact List.pairwise_iff_getElem.1 h.dis i j (by omega) hj hij _ e e'
    refine (markSlotS_gen B W g rs.length k 1 (hdx rs) hsh hk (by omega) (by omega) hB hab).mono ?_
    rintro o w' ⟨rfl, h1, h2, _, _, _, h6⟩
    exact ⟨_, rfl, h6, heldSlotS_gen w' g rs.length k 1 (hdx rs) h2 (h1 hds) hk (by omega) (by omega)⟩
theorem SN.bd {s : ByteArray} {i : Nat} {L : List (Nat × Nat)} (h : SN s i L) : L.length ≤ s.size - i := by
  induction h with
  | done h => simp
  | one h _ _ ih => omega
  | nil h _ _ => simp
  | bad h _ hf _ hx _ ih =>
    have := hf.lo
    have := hx.gt hf.hi
    omega
  | whole h _ hf _ hx _ ih =>
    have := hf.lo
    have := hx.ge hf.hi
    simp only [List.length_cons]
    omega
set_option maxHeartbeats 8000000 in
set_option maxRecDepth 20000 in
/-- laws.FnExactSniff, out of impl.Sniff's contract -/
theorem lawSniff (s : ByteArray) (w : World) (m : Int) (hs : s.size ≤ maxLen) (hm : w.cell? ⟨0, 0, none⟩ = some (.int .i64 m))
    (him : ∀ (L : List (Nat × Nat)) (X : World), ((okT s 6000 = true ∧ SN s 0 L) ∨ (okT s 6000 = false ∧ L = [])) → X.cell? ⟨0, 0, none⟩ = some (.int .i64 m) → Calls Try.prog 5 #[.string s] X fun o w' => ∃ v rs, o = .returned v ∧ slR s X.heap.size v rs w' ∧ rs.map (·.1) = L ∧ Below X.heap.size X w') :
    Calls Try.prog 3 #[.string s] w fun o w' => o = .returned (.bool true) ∧ Below w.heap.size w w' := by
  obtain ⟨L, hL⟩ : ∃ L, ((okT s 6000 = true ∧ SN s 0 L) ∨ (okT s 6000 = false ∧ L = [])) := by
    cases hk : okT s 6000 with
    | true =>
      obtain ⟨L, h⟩ := SN_ex s s.size 0 (by omega)
      exact ⟨L, Or.inl ⟨rfl, h⟩⟩
    | false => exact ⟨[], Or.inr ⟨rfl, rfl⟩⟩
  have hLn : L.length ≤ 6000 := by
    rcases hL with ⟨hk, h⟩ | ⟨_, rfl⟩
    · have := h.bd
      have := (okT_letters hk).1
      omega
    · simp
  have HSP : Hid (∀ X, Calls Try.prog 4 #[.string s] X fun o w' => ∃ v rs, o = .returned v ∧ slR s X.heap.size v rs w' ∧ rs.map (·.1) = L ∧ Below X.heap.size X w') := fun X => specSniff_any s L X hs hL
  have HIM : Hid (∀ X, X.cell? ⟨0, 0, none⟩ = some (.int .i64 m) → Calls Try.prog 5 #[.string s] X fun o w' => ∃ v rs, o = .returned v ∧ slR s X.heap.size v rs w' ∧ rs.map (·.1) = L ∧ Below X.heap.size X w') := fun X hX => him L X hL hX
  have HEQ : Hid (∀ X B1 B2 v1 v2 r1 r2, slR s B1 v1 r1 X → slR s B2 v2 r2 X → r1.map (·.1) = L → r2.map (·.1) = L → Calls Try.prog 6 #[v1, v2] X fun o w' => o = .returned (.bool true) ∧ Below X.heap.size X w') := fun X B1 B2 v1 v2 r1 r2 h1 h2 e1 e2 => eqSlotS_same s X B1 B2 v1 v2 r1 r2 h1 h2 (e1.trans e2.symm) (fun x _ => (dec_len _).2) (fun x _ => Nat.le_trans (dec_len _).1 (by decide)) (by have := congrArg List.length e1; simp at this; omega)
  have HMK : Hid (∀ X B v rs, slR s B v rs X → rs.map (·.1) = L → Calls Try.prog 7 #[v, .int .i64 1] X fun o w' => ∃ k : Nat, o = .returned (.int .i64 (k : Int)) ∧ Below B X w' ∧ Calls Try.prog 8 #[v, .int .i64 1] w' fun o w2 => o = .returned (.int .i64 (k : Int)) ∧ w2 = w') := fun X B v rs h e => h.mark (by have := congrArg List.length e; simp at this; omega)
  have HM0 : Hid (∀ X, Below w.heap.size w X → X.cell? ⟨0, 0, none⟩ = some (.int .i64 m)) := fun X hX => (hX.cell (by exact World.block_lt_of_cell? w _ hm)).trans hm
  clear hm him hL hLn
  by_cases hl : (1048576 : Int) < (s.size : Int)
  · unfold maxLen at hs
    go_enter Try.func3, Try.ntmps3
    go_wp2
    go_ret
    exact ⟨rfl, Below.refl _ _⟩
  · go_enter Try.func3, Try.ntmps3
    go_wp2_with fail
    refine (HSP.out _).mono ?_
    rintro o w1 ⟨v0, rs0, rfl, h0, e0, b1⟩
    have H0 := hidB (And.intro h0 (And.intro e0 b1))
    clear h0 e0 b1
    go_wp2_with fail
    refine (HIM.out w1 (HM0.out _ H0.out.2.2)).mono ?_
    rintro o w2 ⟨v1, rs1, rfl, h1, e1, b2⟩
    have H1 := hidB (And.intro h1 (And.intro e1 b2))
    clear h1 e1 b2
    go_wp2_with fail
    refine (HEQ.out w2 _ _ v1 v0 rs1 rs0 H1.out.1 (H0.out.1.below H1.out.2.2) H1.out.2.1 H0.out.2.1).mono ?_
    rintro o w3 ⟨rfl, b3⟩
    have H3 : Hid (slR s w1.heap.size v1 rs1 w3 ∧ Below w1.heap.size w1 w3) := ⟨H1.out.1.below b3, H1.out.2.2.trans (b3.mono H1.out.2.2.size)⟩
    clear b3
    go_wp2_with fail
    refine (HMK.out w3 _ v1 rs1 H3.out.1 H1.out.2.1).mono ?_
    rintro o w4 ⟨k, rfl, b4, hh⟩
    have H4 := hidB (H3.out.2.trans b4)
    have HH := hidB hh
    clear b4 hh
    go_wp2_with fail
    refine HH.out.mono ?_
    rintro o w5 ⟨rfl, rfl⟩
    have hk0 : ¬ (k : Int) < 0 := by omega
    have hkk : ((k : Int) != (k : Int)) = false := by simp
    clear HH H3
    have HB4 := hidB (H0.out.2.2.trans (H4.out.mono H0.out.2.2.size))
    go_wp2_with fail
    refine (HIM.out _ (HM0.out _ HB4.out)).mono ?_
    rintro o w6 ⟨v2, rs2, rfl, h2, e2, b6⟩
    have H6 : Hid (slR s w5.heap.size v2 rs2 w6 ∧ rs2.map (·.1) = L ∧ Below w1.heap.size w1 w6 ∧ Below w.heap.size w w6) := ⟨h2, e2, H4.out.trans (b6.mono H4.out.size), HB4.out.trans (b6.mono HB4.out.size)⟩
    clear h2 e2 b6
    go_wp2_with fail
    refine (HEQ.out w6 _ _ v2 v0 rs2 rs0 H6.out.1 (H0.out.1.below H6.out.2.2.1) H6.out.2.1 H0.out.2.1).mono ?_
    rintro o w7 ⟨rfl, b7⟩
    have HB7 := hidB (H6.out.2.2.2.trans (b7.mono H6.out.2.2.2.size))
    clear b7
    go_wp2_with fail
    go_ret
    exact ⟨rfl, HB7.out⟩
end Go.Proofs.Ytiaddabmiponoaa
