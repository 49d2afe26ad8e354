import Derived.Test.YtihndnclplkleaaKC
namespace Go.Proofs.Ytihndnclplkleaa
open Go.RowKit
theorem at8.range {w : World} {g o : Nat} {b : R8} {ao : Option Addr} {m c : Nat} (h : at8 w g o b ao m c) : w.rangeAt g o [.int .i64 b.x, .int .i64 b.y, .int .i64 b.z, .bool b.e, .int .u32 (b.i : Int), .bool b.r, .int .i64 b.d, .slice ao m c] := by
  intro j v hv
  match j, hv with
  | 0, hv => cases hv; exact h.c0
  | 1, hv => cases hv; exact h.c1
  | 2, hv => cases hv; exact h.c2
  | 3, hv => cases hv; exact h.c3
  | 4, hv => cases hv; exact h.c4
  | 5, hv => cases hv; exact h.c5
  | 6, hv => cases hv; exact h.c6
  | 7, hv => cases hv; exact h.cs
theorem at5.range {w : World} {g o : Nat} {b : R5} {ao : Option Addr} {m c : Nat} (h : at5 w g o b ao m c) : w.rangeAt g o [.bool b.e, .int .u32 (b.i : Int), .bool b.r, .int .i64 b.d, .slice ao m c] := by
  intro j v hv
  match j, hv with
  | 0, hv => cases hv; exact h.c0
  | 1, hv => cases hv; exact h.c1
  | 2, hv => cases hv; exact h.c2
  | 3, hv => cases hv; exact h.c3
  | 4, hv => cases hv; exact h.cs
theorem at3.range {w : World} {g o : Nat} {b : R3} (h : at3 w g o b) : w.rangeAt g o [.bool b.e, .int .u32 b.m, .int .u32 b.k] := by
  intro j v hv
  match j, hv with
  | 0, hv => cases hv; exact h.c0
  | 1, hv => cases hv; exact h.c1
  | 2, hv => cases hv; exact h.c2
theorem blk.loadAt {w : World} {b : Nat} (pre mid post : List Value) {T : TypeId} (h : blk w b (pre ++ mid ++ post) T) : w.rangeAt b pre.length mid := by
  intro j v hv
  have hj : j < mid.length := (List.getElem?_eq_some_iff.1 hv).1
  refine h.cell _ _ ?_
  rw [List.append_assoc, List.getElem?_append_right (by omega), Nat.add_sub_cancel_left, List.getElem?_append_left hj]
  exact hv
theorem one8L (x y z : Int) (e : Bool) (i : Int) (r : Bool) (d : Int) (a : Option Addr) (n c : Nat) : ∀ u ∈ [Value.int .i64 x, .int .i64 y, .int .i64 z, .bool e, .int .u32 i, .bool r, .int .i64 d, .slice a n c], u.oneCell' = true := by
  intro u hu
  simp only [List.mem_cons, List.not_mem_nil, or_false] at hu
  rcases hu with rfl | rfl | rfl | rfl | rfl | rfl | rfl | rfl <;> rfl
theorem take8 {bs : List R8} {rs : List (R8 × Nat × Nat)} {k : Nat} (h : rs.map (·.1) = bs.take k) (hk : k < bs.length) (p : R8 × Nat × Nat) (hp : p.1 = bs[k]) : (rs ++ [p]).map (·.1) = bs.take (k + 1) := by
  rw [List.map_append, h, List.take_succ_eq_append_getElem hk, List.map_cons, List.map_nil, hp]
theorem take8_len {bs : List R8} {rs : List (R8 × Nat × Nat)} {k : Nat} (h : rs.map (·.1) = bs.take k) (hk : k ≤ bs.length) : rs.length = k := by
  have := congrArg List.length h
  rw [List.length_map, List.length_take] at this
  omega
set_option maxHeartbeats 4000000 in
set_option maxRecDepth 20000 in
/-- spec.l3copyEvents -/
theorem l3copyEvents_any (w : World) (a : Option Addr) (n cap : Nat) (bs : List R8) (h : isR8s w a n cap bs) (hn : n ≤ 1048576) (hd : ∀ j (h : j < bs.length), bs[j].l.length ≤ 1048576) :
    Calls Try.prog 66 #[.slice a n cap] w fun o w' => ∃ g k, o = .returned (.slice (some ⟨g, 0, none⟩) n k) ∧ (w.heap.size ≤ g ∧ g < w'.heap.size ∧ St w.heap.size w' (fun W => isR8s W (some ⟨g, 0, none⟩) n k bs)) ∧ Below w.heap.size w w' := by
  have HH : Hid (isR8s w a n cap bs) := h
  have HL : Hid (n = bs.length) := h.len
  have hcp := h.cap
  have HD : Hid (∀ j (h : j < bs.length), bs[j].l.length ≤ 1048576) := hd
  clear h hd
  go_enter Try.func66, Try.ntmps66
  go_wp2_with fail
  have hown := ownG.nil rc8 w w.heap.size 129 8 (Nat.le_refl _)
  go_loopw [3, 4] (fun v t wr => ∃ k g kc rs, k ≤ n ∧ v = .slice (some ⟨g, 0, none⟩) k kc ∧ t = .int .i64 (k : Int) ∧ ownG rc8 wr w.heap.size 129 8 g kc rs ∧ rs.map (·.1) = bs.take k ∧ Below w.heap.size w wr) (fun _ t _ => n - (intOf t).toNat)
  case atStart => exact ⟨0, _, 0, [], Nat.zero_le _, rfl, rfl, hown, by simp, (Below.refl _ _).alloc (Nat.le_refl _) _⟩
  case round =>
    clear hown
    obtain ⟨k, g, kc, rs, hk, rfl, rfl, ho, hm, hb⟩ := hrel
    by_cases hlt : k < n
    · have hkl : k < bs.length := by have := HL.out; omega
      obtain ⟨g0, o0, rfl, hc⟩ := HH.out.cells (by intro e; rw [e] at hkl; exact absurd hkl (Nat.not_lt_zero _))
      obtain ⟨ao, m, c, hat⟩ := hc k hkl
      have HM : Hid (m = bs[k].l.length) := hat.dat.len
      have HRG := (at8.below hat hb).range
      have HDT : Hid (isBytes wr ao m c bs[k].l) := hat.dat.below hb
      have HMM : Hid (m ≤ 1048576) := by show _ ≤ _; rw [HM.out]; exact HD.out k hkl
      have HTK : Hid (∀ gd kd : Nat, List.map (fun p : R8 × Nat × Nat => p.1) (rs ++ [(bs[k], gd, kd)]) = bs.take (k + 1)) := fun gd kd => take8 hm hkl (bs[k], gd, kd) rfl
      have HLN : Hid (rs.length = k) := take8_len hm (by omega)
      have HEN : Hid (∀ gd kd, rc8.enc (bs[k], gd, kd) = [.int .i64 bs[k].x, .int .i64 bs[k].y, .int .i64 bs[k].z, .bool bs[k].e, .int .u32 (bs[k].i : Int), .bool bs[k].r, .int .i64 bs[k].d, .slice (some ⟨gd, 0, none⟩) m kd]) := fun gd kd => by show _ = _; rw [HM.out]; rfl
      clear hc hat hm
      generalize bs[k] = bk at *
      obtain ⟨x, y, z, e, i, r, d, l⟩ := bk
      simp only [] at HRG HEN HDT HM
      have HRG : Hid (wr.rangeAt g0 (o0 + k * 8) [.int .i64 x, .int .i64 y, .int .i64 z, .bool e, .int .u32 (i : Int), .bool r, .int .i64 d, .slice ao m c]) := HRG
      have HO : Hid (ownG rc8 wr w.heap.size 129 8 g kc rs) := ho
      have HB : Hid (Below w.heap.size w wr) := hb
      have HAL : Hid (blk (wr.alloc (.cells [.int .i64 0, .int .i64 0, .int .i64 0, .bool false, .int .u32 0, .bool false, .int .i64 0, .slice none 0 0].toArray 129)) wr.heap.size ([] ++ [.int .i64 0, .int .i64 0, .int .i64 0, .bool false, .int .u32 0, .bool false, .int .i64 0, .slice none 0 0] ++ []) 129) := blk.new wr _ 129
      clear ho hb
      go_wp2_with (first
        | (refine wpList_load_mid (P := Try.prog) rfl 129 (.tmp 15) rfl g0 (o0 + k * 8) rfl _ _ HRG.out Try.underlying129 rfl sz129 ?_)
        | (refine wpList_store_mid (P := Try.prog) rfl 129 (.tmp 5) (.tmp 16) rfl wr.heap.size 0 _ rfl rfl (HAL.out.there 0 8 (by simp)) sz129 (one8 _ _ _ _ _ _ _ _ _ _) ?_; generalize hW2 : World.setCells (wr.alloc _) wr.heap.size 0 _ = w2; have HP2 : Hid (blk w2 wr.heap.size ([.int .i64 x, .int .i64 y, .int .i64 z] ++ [.bool e, .int .u32 (i : Int), .bool r, .int .i64 d, .slice ao m c] ++ []) 129) := (hW2 ▸ blk.put [] _ [] [.int .i64 x, .int .i64 y, .int .i64 z, .bool e, .int .u32 (i : Int), .bool r, .int .i64 d, .slice ao m c] HAL.out rfl); have HB2 : Hid (Below wr.heap.size wr w2) := (hW2 ▸ setCells_below (Nat.le_refl _) _ _ ((Below.refl _ _).alloc (Nat.le_refl _) _)); have HS2 : Hid (w2.heap.size = wr.heap.size + 1) := (by show _ = _; rw [← hW2, setCells_size]; simp); clear hW2)
        | (refine wpList_load_mid (P := Try.prog) rfl 93 (.tmp 17) rfl wr.heap.size 3 rfl [.bool e, .int .u32 (i : Int), .bool r, .int .i64 d, .slice ao m c] _ (blk.loadAt [.int .i64 x, .int .i64 y, .int .i64 z] [.bool e, .int .u32 (i : Int), .bool r, .int .i64 d, .slice ao m c] [] HP2.out) Try.underlying93 rfl sz93 ?_)
        | (go_at_call 65; refine (l1copyFrame_any w2 e i r d ao m c l (HDT.out.below HB2.out) HMM.out).mono ?_; rintro o w3 ⟨gd, kd, rfl, ⟨q1, q2, q3, q4⟩, hb3⟩; have HQ3 : Hid (w2.heap.size + 2 ≤ gd ∧ gd < w3.heap.size ∧ St (w2.heap.size + 2) w3 (fun W => isBytes W (some ⟨gd, 0, none⟩) m kd l)) := ⟨q4, q2, q3⟩; have HP3 : Hid (blk w3 wr.heap.size ([.int .i64 x, .int .i64 y, .int .i64 z] ++ [.bool e, .int .u32 (i : Int), .bool r, .int .i64 d, .slice ao m c] ++ []) 129) := HP2.out.below hb3; have HB3 : Hid (Below wr.heap.size wr w3) := HB2.out.trans (hb3.mono HB2.out.size); clear q1 q2 q3 q4 hb3)
        | (refine wpList_store_mid (P := Try.prog) rfl 93 (.tmp 20) (.tmp 19) rfl wr.heap.size 3 _ rfl rfl (HP3.out.there 3 5 (by simp)) sz93 (one5 _ _ _ _ _ _ _) ?_; generalize hW4 : World.setCells w3 wr.heap.size 3 _ = w4; have HP4 : Hid (blk w4 wr.heap.size [.int .i64 x, .int .i64 y, .int .i64 z, .bool e, .int .u32 (i : Int), .bool r, .int .i64 d, .slice (some ⟨gd, 0, none⟩) m kd] 129) := (hW4 ▸ blk.put [.int .i64 x, .int .i64 y, .int .i64 z] [.bool e, .int .u32 (i : Int), .bool r, .int .i64 d, .slice ao m c] [] [.bool e, .int .u32 (i : Int), .bool r, .int .i64 d, .slice (some ⟨gd, 0, none⟩) m kd] HP3.out rfl); have HB4 : Hid (Below wr.heap.size wr w4) := (hW4 ▸ setCells_below (Nat.le_refl _) _ _ HB3.out); have HQ4 : Hid (wr.heap.size < gd ∧ gd < w4.heap.size ∧ isBytes w4 (some ⟨gd, 0, none⟩) m kd l) := (by show _ ∧ _; have h2 := HS2.out; obtain ⟨h3, h4, h5⟩ := HQ3.out; refine ⟨by omega, by rw [← hW4, setCells_size]; exact h4, ?_⟩; rw [← hW4]; exact (h5.setCells _ _ (by omega) _).now); clear hW4)
        | (refine wpList_load_mid (P := Try.prog) rfl 129 (.tmp 5) rfl wr.heap.size 0 rfl [.int .i64 x, .int .i64 y, .int .i64 z, .bool e, .int .u32 (i : Int), .bool r, .int .i64 d, .slice (some ⟨gd, 0, none⟩) m kd] _ HP4.out.load Try.underlying129 rfl sz129 ?_)
        | (at_builtin; refine app_rec (w := w4.alloc (.cells #[.int .i64 x, .int .i64 y, .int .i64 z, .bool e, .int .u32 (i : Int), .bool r, .int .i64 d, .slice (some ⟨gd, 0, none⟩) m kd] 129)) rfl (.tmp 21) (.tmp 23) 39 129 _ 8 72 Try.info129 Try.underlying39 rfl (by decide) (by decide) rfl w.heap.size g k kc (rs.flatMap rc8.enc) rfl (by have := ((HO.out.below HB4.out).alloc (.cells #[.int .i64 x, .int .i64 y, .int .i64 z, .bool e, .int .u32 (i : Int), .bool r, .int .i64 d, .slice (some ⟨gd, 0, none⟩) m kd] 129)).own; rw [HLN.out] at this; exact this) w4.heap.size [.int .i64 x, .int .i64 y, .int .i64 z, .bool e, .int .u32 (i : Int), .bool r, .int .i64 d, .slice (some ⟨gd, 0, none⟩) m kd] rfl rfl (blk.new w4 _ 129) (one8L _ _ _ _ _ _ _ _ _ _) (by omega) (by have := HB.out.size; have := HB4.out.size; simp; omega) ?_; intro g' k' w6 ho6 hg6 hg' hB6))
      go_roundw
      case rel =>
        obtain ⟨h1, h2, h3⟩ := HQ4.out
        have hO4 := (HO.out.below HB4.out).alloc (.cells #[.int .i64 x, .int .i64 y, .int .i64 z, .bool e, .int .u32 (i : Int), .bool r, .int .i64 d, .slice (some ⟨gd, 0, none⟩) m kd] 129)
        have hgl := HO.out.lt
        have hml := HM.out
        refine ⟨k + 1, g', k', rs ++ [(⟨x, y, z, e, i, r, d, l⟩, gd, kd)], by omega, rfl, by go_num, ?_, HTK.out gd kd, ?_⟩
        · refine hO4.snoc (⟨x, y, z, e, i, r, d, l⟩, gd, kd) ?_ ?_ ?_ ?_ ?_ hg6 hg'
          · show isBytes _ (some ⟨gd, 0, none⟩) l.length kd l
            rw [← hml]
            exact h3.below ((Below.refl _ _).alloc (Nat.le_refl _) _)
          · show w.heap.size ≤ gd
            omega
          · show gd ≠ g
            omega
          · show gd < _
            simp
            omega
          · rw [HEN.out, HLN.out]
            exact ho6
        · have hbb := HB.out.trans (HB4.out.mono HB.out.size)
          refine (hbb.alloc hbb.size _).grown hg6 (by have := hbb.size; simp; omega) ?_
          intro k0 hk0
          have : k0 = g := by simpa using hk0.symm
          omega
      case measure => simp [intOf]; omega
    · have hkn : k = n := by omega
      subst hkn
      have hln := take8_len hm (by have := HL.out; omega)
      rw [List.take_of_length_le (by have := HL.out; omega)] at hm
      have HQ : Hid (w.heap.size ≤ g ∧ g < wr.heap.size ∧ St w.heap.size wr (fun W => isR8s W (some ⟨g, 0, none⟩) k kc bs)) := by
        have := ho.r8
        rw [hm, hln] at this
        exact ⟨ho.lt.1, ho.lt.2, this⟩
      clear ho hm hln
      go_wp2
      go_ret
      exact ⟨g, kc, rfl, HQ.out, hb⟩
end Go.Proofs.Ytihndnclplkleaa
