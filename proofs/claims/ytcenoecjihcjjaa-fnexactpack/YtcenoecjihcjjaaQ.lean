import Derived.Test.YtcenoecjihcjjaaO
namespace Go.Proofs.Ytcenoecjihcjjaa
open Go.RowKit

theorem own_none (w : World) (B : Nat) : ownsW w B (.slice none 0 0) [] := ⟨by simp [wv], .inl ⟨rfl, rfl⟩⟩
theorem wn_zero (s : ByteArray) : wn s 0 = [] := by simp [wn]
/-- the writer and the iterator behind k letters -/
structure pkS (w0 : World) (b : Nat) (s : ByteArray) (k : Nat) (W : World) : Prop where
  bw : bwI w0 b s k W
  it : W.heap[b + 1]? = some (.stringIter s k)
theorem pkS.next {w0 : World} {b : Nat} {s : ByteArray} {k : Nat} {W : World} (h : pkS w0 b s k W) (k' : Nat) : bwI w0 b s k (W.iterAt (b + 1) s k') ∧ (W.iterAt (b + 1) s k').heap[b + 1]? = some (.stringIter s k') := by
  obtain ⟨⟨v, hh, own⟩, hbel⟩ := h.bw
  refine ⟨⟨⟨v, (Lib.iterAt_other W (b + 1) b s k' (by omega)).trans hh, own.otherBlock fun g hg => ?_⟩, Lib.below_iterAt hbel (by omega) s k'⟩, Lib.iterAt_heap W (b + 1) s k k' h.it⟩
  obtain ⟨c, fz, hc⟩ := own.kind g hg
  refine Lib.iterAt_other W (b + 1) g s k' (fun e => ?_)
  rw [e, h.it] at hc
  cases hc
theorem ownsW.slice {w : World} {B : Nat} {v : Value} {l : List Nat} (h : ownsW w B v l) : ∃ ao cp, v = .slice ao l.length cp ∧ l.length ≤ cp := by
  obtain ⟨_, ⟨rfl, h2⟩ | ⟨g, cap, cur, rfl, hb, hh, hc, _⟩⟩ := h
  · exact ⟨none, 0, by rw [h2], by omega⟩
  · exact ⟨_, cap, rfl, hc⟩
theorem ownsW.lower {w : World} {B B' : Nat} {v : Value} {l : List Nat} (h : ownsW w B v l) (hB : B' ≤ B) : ownsW w B' v l := by
  obtain ⟨h1, h2 | ⟨g, cap, cur, rfl, hb, rest⟩⟩ := h
  · exact ⟨h1, .inl h2⟩
  · exact ⟨h1, .inr ⟨g, cap, cur, rfl, by omega, rest⟩⟩
theorem ownsW.cap {w : World} {B : Nat} {ao : Option Addr} {n cp : Nat} {l : List Nat} (h : ownsW w B (.slice ao n cp) l) (hn : n = l.length) : n ≤ cp := by
  obtain ⟨ao', cp', e, h2⟩ := h.slice
  cases e
  omega
theorem finish_any (w : World) (b : Nat) (n : Nat) (ao : Option Addr) (m cp : Nat) (hh : w.heap[b]? = some (.cells #[.int .i64 (n : Int), .slice ao m cp, .bool false, .int .i32 0, .int .i64 0] 58)) :
    Calls Try.prog 28 #[.pointer (some ⟨b, 0, none⟩)] w fun o w' => o = .returned (pkV (n : Int) ao m cp) ∧ Below w.heap.size w w' := by
  obtain ⟨c0, c1, -, -, -, hbz⟩ := bw_cells hh
  go_enter Try.func28, Try.ntmps28
  go_wp2
  go_region
  go_wp2
  refine bodyPost_ret (v := pkV (n : Int) ao m cp) (by simp [results, Try.results28, go_sem]) rfl ?_
  exact ⟨rfl, ((Below.refl _ _).alloc (Nat.le_refl _) _).drew⟩
theorem fb_at {s : ByteArray} (hs : okT s 4000 = true) (k : Nat) (h : k < s.size) : (s[k].toNat = 48 ∧ fb s k = 0) ∨ (s[k].toNat = 49 ∧ fb s k = 1) := by
  unfold okT at hs; rw [Bool.and_eq_true] at hs
  rcases okC_val (List.all_eq_true.1 hs.2 s[k] (by rw [Array.mem_toList_iff]; exact Array.getElem_mem (xs := s.data) (i := k) h)) with h1 | h1
  · exact .inl ⟨h1, fb_zero h (by omega)⟩
  · exact .inr ⟨h1, fb_one h (by omega)⟩
set_option maxHeartbeats 2000000 in
set_option maxRecDepth 20000 in
theorem implPack_ok (s : ByteArray) (w : World) (hs : okT s 4000 = true) (hz : s.size ≤ 4000) :
    Calls Try.prog 11 #[.string s] w fun o w' => ∃ ao cap, o = .returned (pkV (s.size : Int) ao ((s.size + 63) / 64) cap) ∧ (s.size + 63) / 64 ≤ cap ∧ ownsW w' w.heap.size (.slice ao ((s.size + 63) / 64) cap) (pkL s ((s.size + 63) / 64)) ∧ Below w.heap.size w w' := by
  have HS : Hid (okT s 4000 = true) := hs
  clear hs
  go_enter Try.func11, Try.ntmps11
  go_wp2_with (first | (go_at_call 26; refine (isBitText_any _ _ _).mono ?_; rw [HS.out]; rintro o w1 ⟨rfl, hb1⟩))
  have hb2 : Below w.heap.size w w1 := ((Below.refl _ _).alloc (Nat.le_refl _) _).trans (hb1.mono (by simp))
  have hres := hb1.block w.heap.size (by simp)
  have hresf : w1.heap[w.heap.size]? = some (.cells #[.int .i64 0, .slice none 0 0] 30) := by rw [hres]; exact heap_alloc_new w _
  have hwz : w.heap.size < w1.heap.size := lt_of_block hresf
  have st0 : pkS w1 w1.heap.size s 0 ((w1.alloc (.cells #[.int .i64 0, .slice none 0 0, .bool false, .int .i32 0, .int .i64 0] 58)).iter s 0) := by
    refine ⟨⟨⟨.slice none 0 0, ?_, by rw [wn_zero]; exact own_none _ _⟩, ((Below.refl _ _).alloc (Nat.le_refl _) _).alloc (by simp) _⟩, ?_⟩
    · unfold World.iter
      rw [Below.heap_alloc _ _ _ (by simp)]
      exact heap_alloc_new w1 _
    · have := World.iter_heap (w1.alloc (.cells #[.int .i64 0, .slice none 0 0, .bool false, .int .i32 0, .int .i64 0] 58)) s 0
      simpa using this
  have HR : Hid (Below w.heap.size w w1 ∧ w1.heap[w.heap.size]? = some (.cells #[.int .i64 0, .slice none 0 0] 30)) := ⟨hb2, hresf⟩
  clear hb1 hb2 hres hresf
  generalize hb : w1.heap.size = b at *
  go_loopw [5] (fun _ wr => ∃ k : Nat, k ≤ s.size ∧ pkS w1 b s k wr) (fun _ wr => s.size - wr.iterPos (b + 1))
  case atStart => exact ⟨0, Nat.zero_le _, st0⟩
  case round =>
    clear st0
    obtain ⟨k, hk, st⟩ := hrel
    by_cases hlt : k < s.size
    · have hv := fb_at HS.out k hlt
      have hnx := fun ty => Lib.run_next_ascii_at (P := Try.prog) wr (b + 1) s k ty st.it hlt (by rcases hv with h | h <;> omega)
      have st1 := st.next (k + 1)
      have HP : Hid (wr.iterPos (b + 1) = k) := iterPos_of st.it
      clear st
      generalize wr.iterAt (b + 1) s (k + 1) = wr1 at *
      have HC : Hid (Calls Try.prog 27 #[.pointer (some ⟨b, 0, none⟩), .int .i64 (fb s k : Int)] wr1 fun o w' => o = .returned (.tuple #[]) ∧ pkS w1 b s (k + 1) w') := by
        refine (bit_step w1 wr1 b k s st1.1 (by omega)).mono ?_
        rintro o w' ⟨rfl, hbw, hkp⟩
        exact ⟨rfl, hbw, hkp _ _ st1.2 (by simp) (by intro c fz e; cases e)⟩
      clear st1
      rcases hv with ⟨h48, hf⟩ | ⟨h49, hf⟩
      · rw [h48] at hnx
        rw [hf] at HC
        go_wp2_with (first | (go_at_call 27; refine HC.out.mono ?_; rintro o w2 ⟨rfl, st2⟩))
        go_roundw
        case rel => exact ⟨k + 1, by omega, st2⟩
        case measure => rw [iterPos_of st2.it, HP.out]; omega
      · rw [h49] at hnx
        rw [hf] at HC
        go_wp2_with (first | (go_at_call 27; refine HC.out.mono ?_; rintro o w2 ⟨rfl, st2⟩))
        go_roundw
        case rel => exact ⟨k + 1, by omega, st2⟩
        case measure => rw [iterPos_of st2.it, HP.out]; omega
    · have hke : k = s.size := by omega
      subst hke
      have hnx : ∀ ty, (Instr.next (.pointer (some ⟨b + 1, 0, none⟩)) true ty).run Try.prog wr = _ := fun ty => Lib.run_next_end_at wr (b + 1) s s.size ty st.it hlt
      obtain ⟨⟨v, hh, own⟩, hbel⟩ := st.bw
      rw [wn_end] at own
      obtain ⟨ao, cp, rfl, hcp⟩ := own.slice
      rw [pkL_len] at hh hcp own
      have HF : Hid (Calls Try.prog 28 #[.pointer (some ⟨b, 0, none⟩)] wr fun o w' => o = .returned (pkV (s.size : Int) ao ((s.size + 63) / 64) cp) ∧ Below wr.heap.size wr w') := finish_any wr b s.size ao _ cp hh
      have HO : Hid (ownsW wr (b + 1) (.slice ao ((s.size + 63) / 64) cp) (pkL s ((s.size + 63) / 64)) ∧ (s.size + 63) / 64 ≤ cp ∧ Below b w1 wr) := ⟨own, hcp, hbel⟩
      clear st own hcp hbel hh hlt
      have HD : Hid (∀ w2, Below wr.heap.size wr w2 → w2.cell? ⟨w.heap.size, 0, none⟩ = some (.int .i64 0) ∧ w2.cell? ⟨w.heap.size, 1, none⟩ = some (.slice none 0 0) ∧ w2.frozen? ⟨w.heap.size, 0, none⟩ = false ∧ w2.frozen? ⟨w.heap.size, 1, none⟩ = false) := by
        intro w2 hb2
        have h0 := (HO.out.2.2.block w.heap.size hwz).trans HR.out.2
        have h1 := (hb2.block w.heap.size (lt_of_block h0)).trans h0
        exact ⟨by simp [World.cell?, h1], by simp [World.cell?, h1], by simp [World.frozen?, h1], by simp [World.frozen?, h1]⟩
      go_wp2_with (first | (go_at_call 28; refine HF.out.mono ?_; rintro o w2 ⟨rfl, hb2⟩; obtain ⟨d0, d1, g0, g1⟩ := HD.out w2 hb2))
      refine bodyPost_ret (v := pkV (s.size : Int) ao ((s.size + 63) / 64) cp) (by simp [results, Try.results11, go_sem, d0, d1]) rfl ?_
      have ho2 : ownsW w2 (b + 1) (.slice ao ((s.size + 63) / 64) cp) (pkL s ((s.size + 63) / 64)) := HO.out.1.otherBlock fun g hg => hb2.block g (World.ownsRow.lt HO.out.1 g hg).2
      have hB : Below w.heap.size w w2 := HR.out.1.trans ((HO.out.2.2.mono (by omega)).trans (hb2.mono (by have := Below.size HO.out.2.2; omega)))
      have H2 := (ho2.setCellO w.heap.size 0 (.int .i64 (s.size : Int)) (by omega)).setCellO w.heap.size 1 (.slice ao ((s.size + 63) / 64) cp) (by omega)
      exact ⟨ao, cp, rfl, HO.out.2.1, H2.lower (by omega), (hB.setCell (p := ⟨_, 0, none⟩) (by simp) _).setCell (p := ⟨_, 1, none⟩) (by simp) _⟩
end Go.Proofs.Ytcenoecjihcjjaa
