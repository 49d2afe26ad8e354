import Derived.Test.YtihndnclplkleaaF
namespace Go.Proofs.Ytihndnclplkleaa
open Go.RowKit
theorem okP_parts {N : Nat} {l : List Nat} (h : okP (N : Int) l = true) : N ≤ 4000 ∧ N ≤ 64 * l.length ∧ l.length ≤ 1000 := by
  simp only [okP, Bool.and_eq_true, decide_eq_true_eq] at h
  omega
theorem app_byteb {ops : Array Oper} {rest : List Oper} {o : Oper} {a : Act} {Q : Exit → Act → World → Prop} (w0 wr : World) (hgd : o.guard = none) (s x : Operand)
    (ho : o.op = .call { callee := .builtin .append, args := #[s, x], argTypes := #[91, 91] })
    (B : Nat) (v : Value) (l : List Nat) (c : Nat) (ci : Int) (hci : ci = (c : Int)) (hs : a.eval s = v) (hown : ownsB wr B v l)
    (b : Nat) (hbz : b = wr.heap.size) (hx : a.eval x = .slice (some ⟨b, 0, none⟩) 1 1) (hlen : l.length ≤ 100000000) (hB : B ≤ wr.heap.size) (hbel : Below B w0 wr)
    (h : ∀ v' w', ownsB w' B v' (l ++ [c]) → Below B w0 w' → B ≤ w'.heap.size → wpList Try.prog ops Q rest (a.put o.dst v') w') :
    wpList Try.prog ops Q (o :: rest) a (wr.alloc (.cells #[.int .u8 ci] 5)) := by
  subst hbz
  exact app_byte w0 wr hgd s x ho B v l c ci hci hs hown hx hlen hB hbel h
theorem conv_row {w : World} {g : Nat} {l : List Nat} (h : ∀ t (ht : t < l.length), w.cell? ⟨g, t, none⟩ = some (.int .u8 (l[t] : Int))) (hl : ∀ x ∈ l, x < 256) : (convert 91 9 (.slice (some ⟨g, 0, none⟩) l.length l.length)).run Try.prog w = .ok (.string (strN l)) w := by
  have := run_convert_bytes_back (P := Try.prog) w 91 9 5 ⟨g, 0, none⟩ l.length (l.map UInt8.ofNat) Try.underlying91 Try.underlying5 Try.underlying9 (by
    intro j hj
    have hj' : j < l.length := by simpa using hj
    have hc := h j hj'
    have hx := hl l[j] (List.getElem_mem hj')
    have e : (UInt8.ofNat l[j]).toNat = l[j] := by simp; omega
    have e2 : (⟨g, 0, none⟩ : Addr).add j = ⟨g, j, none⟩ := by simp only [Addr.add]; split <;> simp_all
    rw [e2, List.getElem_map, e]
    exact hc)
  rw [List.length_map] at this
  exact this
set_option maxHeartbeats 1000000 in
set_option maxRecDepth 20000 in
theorem specUnpack_ok (w : World) (N : Nat) (a : Option Addr) (n cap : Nat) (l : List Nat) (h : isWords w a n cap l) (hok : okP (N : Int) l = true) :
    Calls Try.prog 29 #[pkV (N : Int) a n cap] w fun o w' => o = .returned (.string (strN (unL l N))) ∧ Below w.heap.size w w' := by
  obtain ⟨hN, hNl, hln⟩ := okP_parts hok
  have hl := h.len
  have hNn : N ≤ 64 * n := by omega
  have hn : n ≤ 1000 := by omega
  have HH : Hid (isWords w a n cap l) := h
  have HO : Hid (okP (N : Int) l = true) := hok
  clear h hok hl hNl hln
  go_enter Try.func29, Try.ntmps29
  go_wp2_with (first | (go_at_call 27; refine (l2ok_any _ (N : Int) a n cap l (HH.out.below ((Below.refl _ _).alloc (Nat.le_refl _) _))).mono ?_; rintro o w1 ⟨rfl, hb0⟩; rw [HO.out]; have hb1 : Below (w.heap.size + 1) (w.alloc (pkC (N : Int) a n cap 27)) w1 := hb0.mono (by simp); obtain ⟨c0, c1, hB⟩ := pk_in hb1))
  have hz1 : w.heap.size + 1 ≤ w1.heap.size := by have := hb1.size; simpa using this
  have hown := own_nil w1 (w.heap.size + 1) hz1
  have hb2 := hb1.alloc hz1 (.cells #[] 5)
  go_loopw [3, 4] (fun v i wr => ∃ k : Nat, k ≤ N ∧ i = .int .i64 (k : Int) ∧ ownsB wr (w.heap.size + 1) v (unL l k) ∧ Below (w.heap.size + 1) (w.alloc (pkC (N : Int) a n cap 27)) wr ∧ w.heap.size + 1 ≤ wr.heap.size) (fun _ i _ => N - (intOf i).toNat)
  case atStart => exact ⟨0, Nat.zero_le _, rfl, hown, hb2, by simp; omega⟩
  case round =>
    clear hown hb2 hz1 c0 c1 hB hb1 hb0
    obtain ⟨k, hk, rfl, hown, hb, hz⟩ := hrel
    obtain ⟨c0, c1, hB⟩ := pk_in hb
    by_cases hlt : k < N
    · have HZ : Hid (Below (w.heap.size + 1) (w.alloc (pkC (N : Int) a n cap 27)) wr ∧ Below w.heap.size w wr ∧ ownsB wr (w.heap.size + 1) u3 (unL l k)) := ⟨hb, hB, hown⟩
      have HV : Hid (lev l k < 2) := lev_lt l k
      have HU : Hid (unL l (k + 1) = unL l k ++ [48 + lev l k] ∧ (unL l k).length = k) := ⟨unL_succ l k, unL_len l k⟩
      clear hb hB hown
      have hlv := HV.out
      have HC : Hid (∀ W, isWords W a n cap l → Calls Try.prog 60 #[pkV (N : Int) a n cap, .int .i64 (k : Int)] W fun o w' => o = .returned (.int .i64 (lev l k : Int)) ∧ w' = W.alloc (pkC (N : Int) a n cap 27)) := fun W hW => l2bit_ok W (N : Int) a n cap l hW k (by omega) (by omega)
      generalize lev l k = L at *
      go_wp2_with (first | (go_at_call 60; refine (HC.out _ (HH.out.below HZ.out.2.1)).mono ?_; rintro o w1 ⟨rfl, rfl⟩) | (at_builtin; refine app_byteb (w.alloc (pkC (N : Int) a n cap 27)) (wr.alloc (pkC (N : Int) a n cap 27)) rfl (.tmp 15) (.tmp 21) rfl (w.heap.size + 1) _ (unL l k) (48 + L) _ ?_ rfl (World.ownsRow.alloc HZ.out.2.2 _) (wr.heap.size + 1) (by simp) rfl ?_ ?_ (HZ.out.1.alloc hz _) ?_))
      · push_cast; rfl
      · have := HU.out.2; omega
      · simp; omega
      · intro v2 w2 ho2 hb2 hz2
        have ho3 : ownsB w2 (w.heap.size + 1) v2 (unL l (k + 1)) := by rw [HU.out.1]; exact ho2
        go_wp2
        go_roundw
        case rel => exact ⟨k + 1, by omega, by go_num, ho3, hb2, hz2⟩
        case measure => simp [intOf]; omega
    · have hkN : k = N := by omega
      subst hkN
      have hcv := conv_own hown (unL_small l k)
      go_wp2
      go_ret
      exact ⟨rfl, hB⟩
theorem specUnpack_any (w : World) (N : Int) (a : Option Addr) (n cap : Nat) (l : List Nat) (h : isWords w a n cap l) :
    Calls Try.prog 29 #[pkV N a n cap] w fun o w' => o = .returned (.string (unZ N l)) ∧ Below w.heap.size w w' := by
  cases hok : okP N l
  · have HH : Hid (isWords w a n cap l) := h
    have HO : Hid (okP N l = false) := hok
    have HU : Hid (unZ N l = ⟨#[]⟩) := by unfold Hid unZ; rw [hok]; rfl
    clear h hok
    go_enter Try.func29, Try.ntmps29
    go_wp2_with (first | (go_at_call 27; refine (l2ok_any _ N a n cap l (HH.out.below ((Below.refl _ _).alloc (Nat.le_refl _) _))).mono ?_; rintro o w1 ⟨rfl, hb0⟩; rw [HO.out]))
    go_ret
    exact ⟨ret_str HU.out.symm, ((Below.refl _ _).alloc (Nat.le_refl _) _).trans (hb0.mono (by simp))⟩
  · obtain ⟨M, rfl⟩ : ∃ M : Nat, N = (M : Int) := ⟨N.toNat, by
      simp only [okP, Bool.and_eq_true, decide_eq_true_eq] at hok
      omega⟩
    have HU : unZ (M : Int) l = strN (unL l M) := by unfold unZ; rw [if_pos hok]; rfl
    rw [HU]
    exact specUnpack_ok w M a n cap l h hok
end Go.Proofs.Ytihndnclplkleaa
