import Derived.Test.YtihndnclplkleaaIN
namespace Go.Proofs.Ytihndnclplkleaa
open Go.RowKit
theorem lt_of_some {w : World} {g : Nat} {o : Obj} (hg : w.heap[g]? = some o) : g < w.heap.size := by
  rcases Nat.lt_or_ge g w.heap.size with h | h
  · exact h
  · rw [Array.getElem?_eq_none h] at hg; cases hg
/-- a row that the call made, as a slice of its own -/
theorem own_slice {w : World} {B n E sz : Nat} {v : Value} {xs : List Value} (ho : w.ownsRow B E sz v n xs) (hv : v ≠ .slice none 0 0) :
    ∃ g cap, v = .slice (some ⟨g, 0, none⟩) n cap ∧ B ≤ g ∧ g < w.heap.size ∧ n ≤ cap ∧ ∀ W : World, W.heap[g]? = w.heap[g]? → ∀ t, t < n * sz → W.cell? ⟨g, t, none⟩ = xs[t]? := by
  rcases ho.2 with ⟨e, _⟩ | ⟨g, cap, cur, hv', hb, hg, hcp, hmx, hsz, htk⟩
  · exact absurd e hv
  · refine ⟨g, cap, hv', hb, lt_of_some hg, hcp, fun W hW t ht => ?_⟩
    have hcur : cur[t]? = xs[t]? := by rw [← htk, List.getElem?_take_of_lt ht, Array.getElem?_toList]
    have e : W.heap[g]? = some (.cells cur E (0, 0)) := hW.trans hg
    rw [← hcur]
    simp [World.cell?, e]
theorem ownsB_bytes {w : World} {B : Nat} {v : Value} {l : List Nat} (h : ownsB w B v l) (hv : v ≠ .slice none 0 0) (hl : ∀ x ∈ l, x < 256) :
    ∃ g k, v = .slice (some ⟨g, 0, none⟩) l.length k ∧ B ≤ g ∧ g < w.heap.size ∧ St B w (fun W => isBytes W (some ⟨g, 0, none⟩) l.length k l) := by
  obtain ⟨g, cap, rfl, h1, h2, h3, h4⟩ := own_slice h hv
  refine ⟨g, cap, rfl, h1, h2, fun W hW => ⟨rfl, h3, hl, fun _ => ⟨g, 0, rfl, fun j hj => ?_⟩⟩⟩
  rw [Nat.zero_add, h4 W (hW g h1 h2) j (by omega), bv_at l j hj]
theorem take_snoc (l : List Nat) (k : Nat) (h : k < l.length) : l.take k ++ [l[k]] = l.take (k + 1) := by rw [List.take_succ_eq_append_getElem h]
set_option maxHeartbeats 2000000 in
set_option maxRecDepth 20000 in
/-- spec.l1copyFrame -/
theorem l1copyFrame_any (w : World) (e : Bool) (i : Nat) (r : Bool) (d : Int) (a : Option Addr) (n cap : Nat) (l : List Nat) (h : isBytes w a n cap l) (hn : n ≤ 1048576) :
    Calls Try.prog 65 #[frV e i r d a n cap] w fun o w' => ∃ g k, o = .returned (frV e i r d (some ⟨g, 0, none⟩) n k) ∧ (w.heap.size ≤ g ∧ g < w'.heap.size ∧ St (w.heap.size + 2) w' (fun W => isBytes W (some ⟨g, 0, none⟩) n k l) ∧ w.heap.size + 2 ≤ g) ∧ Below w.heap.size w w' := by
  have HH : Hid (isBytes w a n cap l) := h
  have HL : Hid (n = l.length) := h.len
  have HSm : Hid (∀ x ∈ l, x < 256) := h.small
  have hcp := h.cap
  clear h
  have hB0 : Below w.heap.size w ((w.alloc (.cells #[.bool e, .int .u32 (i : Int), .bool r, .int .i64 d, .slice a n cap] 93)).alloc (.cells #[.bool false, .int .u32 0, .bool false, .int .i64 0, .slice none 0 0] 93)) := ((Below.refl _ _).alloc (Nat.le_refl _) _).alloc (by simp) _
  have HB0 : Hid _ := hB0
  clear hB0
  go_enter Try.func65, Try.ntmps65
  go_wp2_with fail
  have hown := own_nil ((w.alloc (.cells #[.bool e, .int .u32 (i : Int), .bool r, .int .i64 d, .slice a n cap] 93)).alloc (.cells #[.bool false, .int .u32 0, .bool false, .int .i64 0, .slice none 0 0] 93)) (w.heap.size + 2) (by simp)
  have x0 : ((w.alloc (.cells #[.bool e, .int .u32 (i : Int), .bool r, .int .i64 d, .slice a n cap] 93)).alloc (.cells #[.bool false, .int .u32 0, .bool false, .int .i64 0, .slice none 0 0] 93)).heap[w.heap.size]? = some (.cells [.bool e, .int .u32 (i : Int), .bool r, .int .i64 d, .slice a n cap].toArray 93) := by
    rw [Below.heap_alloc _ _ _ (by simp)]
    exact heap_alloc_new w _
  have x1 : rowZ ((w.alloc (.cells #[.bool e, .int .u32 (i : Int), .bool r, .int .i64 d, .slice a n cap] 93)).alloc (.cells #[.bool false, .int .u32 0, .bool false, .int .i64 0, .slice none 0 0] 93)) (w.heap.size + 1) 5 := by
    have := rowZ_alloc (w.alloc (.cells #[.bool e, .int .u32 (i : Int), .bool r, .int .i64 d, .slice a n cap] 93)) [.bool false, .int .u32 0, .bool false, .int .i64 0, .slice none 0 0] 93
    simpa using this
  have hz2 : ((w.alloc (.cells #[.bool e, .int .u32 (i : Int), .bool r, .int .i64 d, .slice a n cap] 93)).alloc (.cells #[.bool false, .int .u32 0, .bool false, .int .i64 0, .slice none 0 0] 93)).heap.size = w.heap.size + 2 := by simp
  have hs2 : w.heap.size + 1 + 1 = ((w.alloc (.cells #[.bool e, .int .u32 (i : Int), .bool r, .int .i64 d, .slice a n cap] 93)).alloc (.cells #[.bool false, .int .u32 0, .bool false, .int .i64 0, .slice none 0 0] 93)).heap.size := by simp
  simp only [hs2]
  clear hs2
  generalize (w.alloc (.cells #[.bool e, .int .u32 (i : Int), .bool r, .int .i64 d, .slice a n cap] 93)).alloc (.cells #[.bool false, .int .u32 0, .bool false, .int .i64 0, .slice none 0 0] 93) = W2 at *
  rw [← hz2] at hown
  have HX0 : Hid (W2.heap[w.heap.size]? = some (.cells [.bool e, .int .u32 (i : Int), .bool r, .int .i64 d, .slice a n cap].toArray 93)) := x0
  have HX1 : Hid (rowZ W2 (w.heap.size + 1) 5) := x1
  have HZ2 : Hid (W2.heap.size = w.heap.size + 2) := hz2
  clear x0 x1 hz2
  go_loopw [3, 4] (fun v t wr => ∃ k : Nat, k ≤ n ∧ t = .int .i64 k ∧ ownsB wr W2.heap.size v (l.take k) ∧ (k = 0 → v = .slice (some ⟨W2.heap.size, 0, none⟩) 0 0) ∧ Below W2.heap.size W2 wr) (fun _ t _ => n - (intOf t).toNat)
  case atStart => exact ⟨0, Nat.zero_le _, rfl, hown, fun _ => rfl, (Below.refl _ _).alloc (Nat.le_refl _) _⟩
  case round =>
    clear hown
    obtain ⟨k, hk, rfl, ho, hv0, hb⟩ := hrel
    have hrg := range_block ((hb.block _ (by have := HZ2.out; omega)).trans HX0.out)
    have y0 := hrg 0 (.bool e) rfl
    have y1 := hrg 1 (.int .u32 (i : Int)) rfl
    have y2 := hrg 2 (.bool r) rfl
    have y3 := hrg 3 (.int .i64 d) rfl
    have y4 := hrg 4 (.slice a n cap) rfl
    simp only [Nat.zero_add, Nat.add_zero] at y0 y1 y2 y3 y4
    clear hrg
    by_cases hlt : k < n
    · have hkl : k < l.length := by have := HL.out; omega
      obtain ⟨g0, o0, rfl, hc⟩ := HH.out.cells (by intro e; rw [e] at hkl; exact absurd hkl (Nat.not_lt_zero _))
      have hx := hc k hkl
      have hgz : g0 < w.heap.size := World.block_lt_of_cell? w _ hx
      have xk := (hb.cell (p := ⟨g0, o0 + k, none⟩) (by have := HZ2.out; show g0 < _; omega)).trans ((HB0.out.cell (p := ⟨g0, o0 + k, none⟩) (by exact hgz)).trans hx)
      have HO : Hid (ownsB wr W2.heap.size u3 (l.take k)) := ho
      have HB : Hid (Below W2.heap.size W2 wr) := hb
      have HT : Hid (l.take k ++ [l[k]] = l.take (k + 1)) := take_snoc l k hkl
      have HLT : Hid ((l.take k).length ≤ 100000000) := by show _ ≤ _; rw [List.length_take]; omega
      clear ho hb hc hx hv0
      generalize l[k] = ck at *
      go_wp2_with (first | (at_builtin; refine app_byte W2 wr rfl (.tmp 13) (.tmp 19) rfl W2.heap.size u3 (l.take k) ck _ rfl rfl HO.out rfl HLT.out HB.out.size HB.out ?_; intro v' w' ho' hb' _))
      go_roundw
      case rel => exact ⟨k + 1, by omega, by go_num, by rw [← HT.out]; exact ho', fun e => absurd e (by omega), hb'⟩
      case measure => simp [intOf]; omega
    · have hkn : k = n := by omega
      subst hkn
      have htk : l.take k = l := by rw [List.take_of_length_le (by have := HL.out; omega)]
      rw [htk] at ho
      have hnn : u3 ≠ .slice none 0 0 := by
        intro e
        by_cases hk0 : k = 0
        · rw [hv0 hk0] at e; cases e
        · subst e
          rcases ho.2 with ⟨_, h⟩ | ⟨g, _, _, h, _⟩
          · have := HL.out; omega
          · cases h
      obtain ⟨g1, k1, rfl, q1, q2, q3⟩ := ownsB_bytes ho hnn HSm.out
      rw [← HL.out] at q3 ⊢
      have HQ : Hid (w.heap.size + 2 ≤ g1 ∧ g1 < wr.heap.size ∧ St W2.heap.size wr (fun W => isBytes W (some ⟨g1, 0, none⟩) k k1 l)) := ⟨by have := HZ2.out; omega, q2, q3⟩
      have HB : Hid (Below w.heap.size w wr) := HB0.out.trans (hb.mono (by have := HZ2.out; omega))
      have hZ := HX1.out.below hb (by have := HZ2.out; omega)
      obtain ⟨u0, z0⟩ := hZ.cell 0 (by omega)
      obtain ⟨u1, z1⟩ := hZ.cell 1 (by omega)
      obtain ⟨u2, z2⟩ := hZ.cell 2 (by omega)
      obtain ⟨u3, z3⟩ := hZ.cell 3 (by omega)
      obtain ⟨u4, z4⟩ := hZ.cell 4 (by omega)
      have f0 := hZ.free 0
      have f1 := hZ.free 1
      have f2 := hZ.free 2
      have f3 := hZ.free 3
      have f4 := hZ.free 4
      clear hZ q1 q2 q3 ho hb hv0 hnn htk
      go_wp2
      refine bodyPost_ret (v := frV e i r d (some ⟨g1, 0, none⟩) k k1) (by simp [results, Try.results65, go_sem, z0, z1, z2, z3, z4]) rfl ?_
      have hq := HQ.out
      have hz := HZ2.out
      refine ⟨g1, k1, rfl, ⟨by omega, by simpa using hq.2.1, ?_, hq.1⟩, ?_⟩
      · rw [show w.heap.size + 2 = W2.heap.size from hz.symm]
        exact ((((hq.2.2.set _ _ (by omega) _).set _ _ (by omega) _).set _ _ (by omega) _).set _ _ (by omega) _).set _ _ (by omega) _
      · (repeat refine Below.setCell ?_ (by simp) _)
        exact HB.out
end Go.Proofs.Ytihndnclplkleaa
