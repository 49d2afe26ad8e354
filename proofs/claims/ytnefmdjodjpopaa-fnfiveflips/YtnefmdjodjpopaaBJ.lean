import Derived.Test.YtnefmdjodjpopaaBI
import Derived.Test.YtnefmdjodjpopaaAV
namespace Go.Proofs.Ytnefmdjodjpopaa
open Go.RowKit

theorem chunk_dat (p : List Nat) (h : endL p ≤ p.length) : chunk8 ((p.take (endL p)).drop (layH p)) = datL p (layH p) (layN p) := by
  have hE : endL p = layH p + 8 * layN p := rfl
  have hl : ((p.take (endL p)).drop (layH p)).length = 8 * layN p := by rw [List.length_drop, List.length_take]; omega
  unfold chunk8 datL
  rw [hl, show (8 * layN p + 7) / 8 = layN p by omega]
  apply List.map_congr_left
  intro j hj
  rw [List.mem_range] at hj
  rw [List.drop_drop, List.drop_take, List.take_take, Nat.min_eq_left (by omega)]
/-- the two ways to read a frame off the plain letters -/
theorem vals_read {k : Wk} {p : List Nat} (h : Vals k p) (h1 : layH p ≤ p.length) (h2 : endL p + 24 ≤ p.length) :
    (layH p = 19 → k.ext = false ∧ k.id = valL ((p.drop 1).take 11) ∧ k.rtr = decide (p.getD 12 0 = 49) ∧ k.dlc = valL ((p.drop 15).take 4) ∧ k.data = datL p 19 (layN p)) ∧
    (layH p = 39 → k.ext = true ∧ k.id = valL ((p.drop 1).take 11 ++ (p.drop 14).take 18) ∧ k.rtr = decide (p.getD 32 0 = 49) ∧ k.dlc = valL ((p.drop 35).take 4) ∧ k.data = datL p 39 (layN p)) := by
  have hi := layH_iff p
  have hd : k.data = datL p (layH p) (layN p) := by
    rw [h.data]; unfold dataL
    rw [if_neg (by omega), chunk_dat p (by omega)]
  have hdl := h.dlc
  constructor
  · intro e
    have hn : ¬ p.getD 13 0 = 49 := by rw [← hi, e]; decide
    rw [e] at hd hdl
    refine ⟨by rw [h.ext]; simpa using hn, ?_, ?_, hdl, hd⟩
    · rw [h.id]; unfold idL; rw [if_neg hn, List.append_nil]
    · rw [h.rtr, if_neg (fun a => hn a.2)]
  · intro e
    have hn : p.getD 13 0 = 49 := by rw [← hi, e]
    rw [e] at hd hdl
    refine ⟨by rw [h.ext]; simpa using hn, ?_, ?_, hdl, hd⟩
    · rw [h.id]; unfold idL; rw [if_pos hn]
    · rw [h.rtr, if_pos ⟨by omega, hn⟩]
theorem walk_code (s : ByteArray) : (walkZ s).code = (swZ s).1 ∧ ((swZ s).1 = 1 ∨ (swZ s).1 = 2 → Vals (walkZ s) (swZ s).2.1) := by
  unfold walkZ swZ
  by_cases hk : okT s 4000 = true
  · rw [if_pos hk, if_pos hk]
    obtain ⟨h1, -, h3⟩ := walk_all (lt s) (lt_isL hk)
    exact ⟨h1, fun a => h3 (by omega)⟩
  · rw [if_neg hk, if_neg hk]
    refine ⟨rfl, fun a => ?_⟩
    rcases a with a | a <;> cases a
set_option maxHeartbeats 2000000 in
set_option maxRecDepth 20000 in
theorem specDecode_no (s : ByteArray) (w : World) (hs : s.size ≤ maxLen) (hc : ¬ ((swZ s).1 = 1 ∨ (swZ s).1 = 2)) :
    Calls Try.prog 37 #[.string s] w fun e w' => e = .returned (.tuple #[frV false 0 false 0 none 0 0, .int .i64 ((swZ s).1 : Nat)]) ∧ Below w.heap.size w w' := by
  have HS : Hid (s.size ≤ maxLen) := hs
  clear hs
  go_enter Try.func37, Try.ntmps37
  go_wp2_with fail
  refine (l1walk_any s _ HS.out).mono ?_
  rintro e w1 ⟨v, rfl, ho, hb1⟩
  obtain ⟨hr, hb⟩ := sd_res hb1
  have HO : Hid (ownsB w1 w.heap.size v (swZ s).2.1) := by
    have h1 : (w.alloc (.cells #[.bool false, .int .u32 0, .bool false, .int .i64 0, .slice none 0 0] 33)).heap.size = w.heap.size + 1 := by simp
    exact ho.lower (by rw [h1]; omega)
  obtain ⟨ao, cap, rfl⟩ := ho.shapeB
  clear ho hb1
  generalize hcd : (swZ s).1 = code at *
  have HCD : Hid ((swZ s).1 = code) := hcd
  clear hcd
  have n1 : ((code : Int) != 1) = true := by simp; omega
  have n2 : ((code : Int) != 2) = true := by simp; omega
  clear hc
  have HB : Hid (Below w.heap.size w w1) := hb
  clear hb
  have e0 : w1.cell? ⟨w.heap.size, 0, none⟩ = some (.bool false) := by simp [World.cell?, hr]
  have e1 : w1.cell? ⟨w.heap.size, 1, none⟩ = some (.int .u32 0) := by simp [World.cell?, hr]
  have e2 : w1.cell? ⟨w.heap.size, 2, none⟩ = some (.bool false) := by simp [World.cell?, hr]
  have e3 : w1.cell? ⟨w.heap.size, 3, none⟩ = some (.int .i64 0) := by simp [World.cell?, hr]
  have e4 : w1.cell? ⟨w.heap.size, 4, none⟩ = some (.slice none 0 0) := by simp [World.cell?, hr]
  have y0 : w1.frozen? ⟨w.heap.size, 0, none⟩ = false := by simp [World.frozen?, hr]
  have y1 : w1.frozen? ⟨w.heap.size, 1, none⟩ = false := by simp [World.frozen?, hr]
  have y2 : w1.frozen? ⟨w.heap.size, 2, none⟩ = false := by simp [World.frozen?, hr]
  have y3 : w1.frozen? ⟨w.heap.size, 3, none⟩ = false := by simp [World.frozen?, hr]
  have y4 : w1.frozen? ⟨w.heap.size, 4, none⟩ = false := by simp [World.frozen?, hr]
  clear hr
  go_wp2
  refine bodyPost_ret (v := .tuple #[frV false 0 false 0 none 0 0, .int .i64 (code : Int)]) (by simp [results, Try.results37, go_sem, e0, e1, e2, e3, e4]) rfl ⟨by rw [HCD.out], ?_⟩
  exact ((((HB.out.setCell (p := ⟨_, 0, none⟩) (Nat.le_refl _) _).setCell (p := ⟨_, 1, none⟩) (Nat.le_refl _) _).setCell (p := ⟨_, 2, none⟩) (Nat.le_refl _) _).setCell (p := ⟨_, 3, none⟩) (Nat.le_refl _) _).setCell (p := ⟨_, 4, none⟩) (Nat.le_refl _) _
theorem specDecode_any (s : ByteArray) (w : World) (hs : s.size ≤ maxLen) :
    Calls Try.prog 37 #[.string s] w fun e w' => ∃ ao cap, e = .returned (.tuple #[frV (decK (walkZ s)).ext (decK (walkZ s)).id (decK (walkZ s)).rtr ((decK (walkZ s)).dlc : Int) ao (decK (walkZ s)).data.length cap, .int .i64 ((walkZ s).code : Int)]) ∧ ownsB w' w.heap.size (.slice ao (decK (walkZ s)).data.length cap) (decK (walkZ s)).data ∧ Below w.heap.size w w' := by
  obtain ⟨hcode, hvals⟩ := walk_code s
  by_cases hc : (swZ s).1 = 1 ∨ (swZ s).1 = 2
  · have hv := hvals hc
    have h12 := swZ12 s hc
    obtain ⟨r1, r2⟩ := vals_read hv h12.1 h12.2
    have hk : decK (walkZ s) = walkZ s := by unfold decK; rw [if_pos (by rw [hcode]; exact hc)]
    rw [hk, hcode]
    have hz : swZ s = ((swZ s).1, (swZ s).2.1, (swZ s).2.2) := rfl
    generalize hp : (swZ s).2.1 = p at *
    generalize hd : (swZ s).2.2 = dd at *
    clear hp hd
    rcases layH_or p with e | e
    · obtain ⟨a1, a2, a3, a4, a5⟩ := r1 e
      rw [a1, a2, a3, a4, a5]
      rcases hc with hc | hc <;> rw [hc] at hz ⊢
      · exact specDecode_19_1 s w hs p dd hz e
      · exact specDecode_19_2 s w hs p dd hz e
    · obtain ⟨a1, a2, a3, a4, a5⟩ := r2 e
      rw [a1, a2, a3, a4, a5]
      rcases hc with hc | hc <;> rw [hc] at hz ⊢
      · exact specDecode_39_1 s w hs p dd hz e
      · exact specDecode_39_2 s w hs p dd hz e
  · have hk : decK (walkZ s) = Wk.zero := by unfold decK; rw [if_neg (by rw [hcode]; exact hc)]
    rw [hk, hcode]
    refine (specDecode_no s w hs hc).mono ?_
    rintro e w' ⟨rfl, hb⟩
    exact ⟨none, 0, rfl, own_none _ _, hb⟩
end Go.Proofs.Ytnefmdjodjpopaa
