import Derived.Test.YtnefmdjodjpopaaV
namespace Go.Proofs.Ytnefmdjodjpopaa
open Go.RowKit

theorem num_step (v c m : Nat) (h : m < c) : M.num (v / 2 ^ m) (c - m) = M.num (v / 2 ^ (m + 1)) (c - (m + 1)) ++ [48 + v / 2 ^ m % 2] := by
  have e : v / 2 ^ m / 2 = v / 2 ^ (m + 1) := by
    rw [Nat.div_div_eq_div_mul, ← Nat.pow_succ]
  have e2 : c - m = (c - (m + 1)) + 1 := by omega
  rw [e2, M.num, e]

theorem bit_at (x m : Nat) (hx : x < 4294967296) : (48 + bits BinOp.and IntKind.u32 ((x : Int) / 2 ^ m) 1) % 256 = ((48 + x / 2 ^ m % 2 : Nat) : Int) := by
  have e : (x : Int) / 2 ^ m = ((x / 2 ^ m : Nat) : Int) := by simp
  have hy : x / 2 ^ m < 4294967296 := Nat.lt_of_le_of_lt (Nat.div_le_self _ _) hx
  rw [e, show (1 : Int) = ((1 : Nat) : Int) from rfl, u32_and_nat _ _ hy (by omega), nat_mask1]
  omega
set_option maxHeartbeats 1000000 in
theorem appendBits_any (w : World) (B : Nat) (v : Value) (l : List Nat) (x c : Nat) (hown : ownsB w B v l) (hB : B ≤ w.heap.size) (hl : l.length ≤ 10000) (hx : x < 4294967296) (hc : c ≤ 32) :
    Calls Try.prog 65 #[v, .int .u32 x, .int .i64 c] w fun o w' => ∃ v', o = .returned v' ∧ ownsB w' B v' (l ++ M.num x c) ∧ Below B w w' ∧ Lib.OthersKept 5 none w w' := by
  go_enter Try.func65, Try.ntmps65
  go_wp2
  go_loopw [0, 7] (fun v i wr => ∃ q : Nat, q ≤ c ∧ i = .int .i64 ((q : Int) - 1) ∧ ownsB wr B v (l ++ M.num (x / 2 ^ q) (c - q)) ∧ Below B w wr ∧ Lib.OthersKept 5 none w wr ∧ B ≤ wr.heap.size) (fun _ i _ => (intOf i + 1).toNat)
  case atStart => exact ⟨c, Nat.le_refl _, rfl, by simpa [M.num] using hown, Below.refl _ _, Lib.OthersKept.refl _ _ _, hB⟩
  case round =>
    have hB0 := hB
    clear hown hB
    obtain ⟨q, hq, rfl, hown, hbel, hok, hB⟩ := hrel
    by_cases hq0 : q = 0
    · subst hq0
      rw [Nat.sub_zero, Nat.pow_zero, Nat.div_one] at hown
      go_wp2
      go_ret
      exact ⟨_, rfl, hown, hbel, hok⟩
    · obtain ⟨m, rfl⟩ : ∃ m, q = m + 1 := ⟨q - 1, by omega⟩
      have hll : (l ++ M.num (x / 2 ^ (m + 1)) (c - (m + 1))).length ≤ 20000 := by rw [List.length_append, M.num_length]; omega
      have HN : Hid (l ++ M.num (x / 2 ^ m) (c - m) = (l ++ M.num (x / 2 ^ (m + 1)) (c - (m + 1))) ++ [48 + x / 2 ^ m % 2]) := by rw [num_step x c m (by omega), List.append_assoc]; exact rfl
      generalize l ++ M.num (x / 2 ^ (m + 1)) (c - (m + 1)) = l1 at *
      go_wp2_with (first | (at_builtin; refine app_byte2 w wr rfl (.tmp 14) (.tmp 21) rfl B _ l1 (48 + x / 2 ^ m % 2) _ (bit_at x m hx) rfl hown rfl (by omega) hB hbel ?_))
      intro v3 w3 ho3 hb3 hk3
      have hz3 : B ≤ w3.heap.size := Nat.le_trans hB0 hb3.size
      clear hown hbel hB
      go_wp2
      go_roundw
      case rel => exact ⟨m, by omega, by go_num, by rw [HN.out]; exact ho3, hb3, hok.trans hk3, hz3⟩
      case measure => simp [intOf]

/-- the letters of the arbitration field -/
def arbL (e : Bool) (i : Nat) (r : Bool) : List Nat :=
  if e = true then M.num (i / 2 ^ 18) 11 ++ [49, 49] ++ M.num i 18 ++ [48 + r.toNat] else M.num i 11 ++ [48 + r.toNat] ++ [48]
theorem arbL_length (e : Bool) (i : Nat) (r : Bool) : (arbL e i r).length ≤ 32 := by
  cases e <;> simp [arbL, M.num_length]

theorem num01 : M.num 0 1 = [48] := rfl
theorem num11 : M.num 1 1 = [49] := rfl
/-- two letters put behind a row of letters -/
theorem app_two {ops : Array Oper} {rest : List Oper} {o : Oper} {a : Act} {Q : Exit → Act → World → Prop} (w0 wr : World) (hgd : o.guard = none) (s x : Operand)
    (ho : o.op = .call { callee := .builtin .append, args := #[s, x], argTypes := #[28, 28] })
    (B : Nat) (v : Value) (l : List Nat) (c d : Nat) (hs : a.eval s = v) (hown : ownsB wr B v l)
    (hx : a.eval x = .slice (some ⟨wr.heap.size, 0, none⟩) 2 2) (hlen : l.length ≤ 100000000) (hB : B ≤ wr.heap.size) (hbel : Below B w0 wr)
    (h : ∀ v' w', ownsB w' B v' (l ++ [c, d]) → Below B w0 w' → Lib.OthersKept 5 none wr w' → wpList Try.prog ops Q rest (a.put o.dst v') w') :
    wpList Try.prog ops Q (o :: rest) a (wr.alloc (.cells #[.int .u8 (c : Int), .int .u8 (d : Int)] 5)) := by
  obtain ⟨i0, hi, hz0, hz1, hz2⟩ := info_parts Try.info5
  refine wpList_append_own _ hgd s x 28 ho B 5 i0 (.int .u8 0) 1 1 Try.underlying28 hi hz0 hz1 hz2 rfl (by decide) v l.length (bv l) hs (World.ownsRow.alloc hown _) ⟨wr.heap.size, 0, none⟩ 2 2 [.int .u8 (c : Int), .int .u8 (d : Int)] hx rfl ?_ ?_ ?_ ?_ ?_ ?_
  · exact cell_two_new wr (.int .u8 (c : Int)) (.int .u8 (d : Int)) 5
  · intro u hu; simp at hu; rcases hu with rfl | rfl <;> rfl
  · unfold maxLen; omega
  · omega
  · simp; omega
  · intro v' w' ho' hg _
    have hr : ∀ k, v.ownBlock = some k → B ≤ k := fun k hk => (World.ownsRow.lt hown k hk).1
    refine h v' w' ?_ ((hbel.alloc hB _).grown hg (by simp; omega) hr) (((Lib.OthersKept.refl 5 none wr).alloc _).grown hg ?_)
    · have e1 : bv (l ++ [c, d]) = bv l ++ [.int .u8 (c : Int), .int .u8 (d : Int)] := by simp [bv]
      unfold ownsB
      rw [e1, List.length_append]
      exact ho'
    · intro g hg'
      exact ownsB.kind (B := B) (l := l) (World.ownsRow.alloc hown _) g hg'
/-- the box of a frame stands through what only rows of letters are turned by -/
theorem box_kept {W W' : World} {b : Nat} {o : Obj} (h : W.heap[b]? = some o) (hk : Lib.OthersKept 5 none W W') (ho : ∀ c fz, o ≠ .cells c 5 fz) : W'.heap[b]? = some o := hk b o h (by simp) ho
theorem frC_ne (e : Bool) (i : Nat) (r : Bool) (d : Int) (a : Option Addr) (n cap : Nat) : ∀ c fz, frC e i r d a n cap 33 ≠ .cells c 5 fz := by
  intro c fz h; cases h
theorem frC_cells {W : World} {b : Nat} {e : Bool} {i : Nat} {r : Bool} {d : Int} {a : Option Addr} {n cap : Nat} (h : W.heap[b]? = some (frC e i r d a n cap 33)) :
    W.cell? ⟨b, 0, none⟩ = some (.bool e) ∧ W.cell? ⟨b, 1, none⟩ = some (.int .u32 (i : Int)) ∧ W.cell? ⟨b, 2, none⟩ = some (.bool r) ∧ W.cell? ⟨b, 3, none⟩ = some (.int .i64 d) ∧ W.cell? ⟨b, 4, none⟩ = some (.slice a n cap) := by
  refine ⟨?_, ?_, ?_, ?_, ?_⟩ <;> simp [World.cell?, h]

set_option maxHeartbeats 1000000 in
theorem appendArb_any (w : World) (B : Nat) (v : Value) (l : List Nat) (hown : ownsB w B v l) (hB : B ≤ w.heap.size) (hl : l.length ≤ 1000)
    (e : Bool) (i : Nat) (r : Bool) (d : Int) (a : Option Addr) (n cap : Nat) (hi : i < 4294967296) :
    Calls Try.prog 64 #[v, frV e i r d a n cap] w fun o w' => ∃ v', o = .returned v' ∧ ownsB w' B v' (l ++ arbL e i r) ∧ Below B w w' ∧ Lib.OthersKept 5 none w w' := by
  have hown1 : ownsB (w.alloc (frC e i r d a n cap 33)) B v l := World.ownsRow.alloc hown _
  have hbox := heap_alloc_new w (frC e i r d a n cap 33)
  have hbel1 : Below B w (w.alloc (frC e i r d a n cap 33)) := (Below.refl _ _).alloc hB _
  have hok1 : Lib.OthersKept 5 none w (w.alloc (frC e i r d a n cap 33)) := (Lib.OthersKept.refl 5 none w).alloc _
  have hz1 : B ≤ (w.alloc (frC e i r d a n cap 33)).heap.size := by simp; omega
  have HALL : Hid (ownsB (w.alloc (frC e i r d a n cap 33)) B v l ∧ (w.alloc (frC e i r d a n cap 33)).heap[w.heap.size]? = some (frC e i r d a n cap 33) ∧ Below B w (w.alloc (frC e i r d a n cap 33)) ∧ Lib.OthersKept 5 none w (w.alloc (frC e i r d a n cap 33)) ∧ B ≤ (w.alloc (frC e i r d a n cap 33)).heap.size) := ⟨hown1, hbox, hbel1, hok1, hz1⟩
  clear hown1 hbox hbel1 hok1 hz1 hown
  cases e
  · cases r
    · go_enter Try.func64, Try.ntmps64
      go_wp2_with fail
      refine (appendBits_any _ B v l i 11 HALL.out.1 HALL.out.2.2.2.2 (by omega) hi (by omega)).mono ?_
      rintro o w2 ⟨v2, rfl, ho2, hb2, hk2⟩
      go_wp2_with fail
      have hz2 : B ≤ w2.heap.size := Nat.le_trans HALL.out.2.2.2.2 hb2.size
      refine (appendBits_any _ B v2 _ 0 1 ho2 hz2 (by simp [M.num_length]; omega) (by omega) (by omega)).mono ?_
      rintro o w3 ⟨v3, rfl, ho3, hb3, hk3⟩
      have hz3 : B ≤ w3.heap.size := Nat.le_trans hz2 hb3.size
      go_wp2_with (first | (at_builtin; refine app_byte2 w3 w3 rfl (.tmp 18) (.tmp 19) rfl B _ _ 48 _ rfl rfl ho3 rfl (by simp [M.num_length]; omega) hz3 (Below.refl _ _) ?_))
      intro v4 w4 ho4 hb4 hk4
      go_wp2
      go_ret
      refine ⟨_, rfl, ?_, HALL.out.2.2.1.trans (hb2.trans (hb3.trans hb4)), HALL.out.2.2.2.1.trans (hk2.trans (hk3.trans hk4))⟩
      have hfin : ownsB w4 B v4 (l ++ arbL false i false) := by simpa [arbL, num01, num11] using ho4
      exact hfin
    · go_enter Try.func64, Try.ntmps64
      go_wp2_with fail
      refine (appendBits_any _ B v l i 11 HALL.out.1 HALL.out.2.2.2.2 (by omega) hi (by omega)).mono ?_
      rintro o w2 ⟨v2, rfl, ho2, hb2, hk2⟩
      go_wp2_with fail
      have hz2 : B ≤ w2.heap.size := Nat.le_trans HALL.out.2.2.2.2 hb2.size
      refine (appendBits_any _ B v2 _ 1 1 ho2 hz2 (by simp [M.num_length]; omega) (by omega) (by omega)).mono ?_
      rintro o w3 ⟨v3, rfl, ho3, hb3, hk3⟩
      have hz3 : B ≤ w3.heap.size := Nat.le_trans hz2 hb3.size
      go_wp2_with (first | (at_builtin; refine app_byte2 w3 w3 rfl (.tmp 18) (.tmp 19) rfl B _ _ 48 _ rfl rfl ho3 rfl (by simp [M.num_length]; omega) hz3 (Below.refl _ _) ?_))
      intro v4 w4 ho4 hb4 hk4
      go_wp2
      go_ret
      refine ⟨_, rfl, ?_, HALL.out.2.2.1.trans (hb2.trans (hb3.trans hb4)), HALL.out.2.2.2.1.trans (hk2.trans (hk3.trans hk4))⟩
      have hfin : ownsB w4 B v4 (l ++ arbL false i true) := by simpa [arbL, num01, num11] using ho4
      exact hfin
  · cases r
    · have hdv : ((i : Int) / 262144) = ((i / 2 ^ 18 : Nat) : Int) := by omega
      have HDV : Hid (((i : Int) / 262144) = ((i / 2 ^ 18 : Nat) : Int)) := hdv
      clear hdv
      go_enter Try.func64, Try.ntmps64
      go_wp2_with fail
      rw [HDV.out]
      refine (appendBits_any _ B v l (i / 2 ^ 18) 11 HALL.out.1 HALL.out.2.2.2.2 (by omega) (by omega) (by omega)).mono ?_
      rintro o w2 ⟨v2, rfl, ho2, hb2, hk2⟩
      have hz2 : B ≤ w2.heap.size := Nat.le_trans HALL.out.2.2.2.2 hb2.size
      have hx2 := box_kept HALL.out.2.1 hk2 (frC_ne _ _ _ _ _ _ _)
      go_wp2_with (first | (at_builtin; refine app_two w2 w2 rfl (.tmp 26) (.tmp 27) rfl B _ _ 49 49 rfl ho2 rfl (by simp [M.num_length]; omega) hz2 (Below.refl _ _) ?_))
      intro v3 w3 ho3 hb3 hk3
      have hz3 : B ≤ w3.heap.size := Nat.le_trans hz2 hb3.size
      have hx3 := frC_cells (box_kept hx2 hk3 (frC_ne _ _ _ _ _ _ _))
      have HX2 : Hid True := trivial
      clear hx2 HX2
      go_wp2_with fail
      refine (appendBits_any _ B v3 _ i 18 ho3 hz3 (by simp [M.num_length]; omega) hi (by omega)).mono ?_
      rintro o w4 ⟨v4, rfl, ho4, hb4, hk4⟩
      have hz4 : B ≤ w4.heap.size := Nat.le_trans hz3 hb4.size
      clear hx3
      go_wp2_with fail
      refine (appendBits_any _ B v4 _ 0 1 ho4 hz4 (by simp [M.num_length]; omega) (by omega) (by omega)).mono ?_
      rintro o w5 ⟨v5, rfl, ho5, hb5, hk5⟩
      go_wp2
      go_ret
      refine ⟨_, rfl, ?_, HALL.out.2.2.1.trans (hb2.trans (hb3.trans (hb4.trans hb5))), HALL.out.2.2.2.1.trans (hk2.trans (hk3.trans (hk4.trans hk5)))⟩
      have hfin : ownsB w5 B v5 (l ++ arbL true i false) := by simpa [arbL, num01, num11] using ho5
      exact hfin
    · have hdv : ((i : Int) / 262144) = ((i / 2 ^ 18 : Nat) : Int) := by omega
      have HDV : Hid (((i : Int) / 262144) = ((i / 2 ^ 18 : Nat) : Int)) := hdv
      clear hdv
      go_enter Try.func64, Try.ntmps64
      go_wp2_with fail
      rw [HDV.out]
      refine (appendBits_any _ B v l (i / 2 ^ 18) 11 HALL.out.1 HALL.out.2.2.2.2 (by omega) (by omega) (by omega)).mono ?_
      rintro o w2 ⟨v2, rfl, ho2, hb2, hk2⟩
      have hz2 : B ≤ w2.heap.size := Nat.le_trans HALL.out.2.2.2.2 hb2.size
      have hx2 := box_kept HALL.out.2.1 hk2 (frC_ne _ _ _ _ _ _ _)
      go_wp2_with (first | (at_builtin; refine app_two w2 w2 rfl (.tmp 26) (.tmp 27) rfl B _ _ 49 49 rfl ho2 rfl (by simp [M.num_length]; omega) hz2 (Below.refl _ _) ?_))
      intro v3 w3 ho3 hb3 hk3
      have hz3 : B ≤ w3.heap.size := Nat.le_trans hz2 hb3.size
      have hx3 := frC_cells (box_kept hx2 hk3 (frC_ne _ _ _ _ _ _ _))
      have HX2 : Hid True := trivial
      clear hx2 HX2
      go_wp2_with fail
      refine (appendBits_any _ B v3 _ i 18 ho3 hz3 (by simp [M.num_length]; omega) hi (by omega)).mono ?_
      rintro o w4 ⟨v4, rfl, ho4, hb4, hk4⟩
      have hz4 : B ≤ w4.heap.size := Nat.le_trans hz3 hb4.size
      clear hx3
      go_wp2_with fail
      refine (appendBits_any _ B v4 _ 1 1 ho4 hz4 (by simp [M.num_length]; omega) (by omega) (by omega)).mono ?_
      rintro o w5 ⟨v5, rfl, ho5, hb5, hk5⟩
      go_wp2
      go_ret
      refine ⟨_, rfl, ?_, HALL.out.2.2.1.trans (hb2.trans (hb3.trans (hb4.trans hb5))), HALL.out.2.2.2.1.trans (hk2.trans (hk3.trans (hk4.trans hk5)))⟩
      have hfin : ownsB w5 B v5 (l ++ arbL true i true) := by simpa [arbL, num01, num11] using ho5
      exact hfin

theorem sizeRes_any (w : World) (e : Bool) (i : Nat) (r : Bool) (d : Int) (a : Option Addr) (n cap : Nat) :
    Calls Try.prog 66 #[.int .i64 7, frV e i r d a n cap] w fun o w' => o = .returned (.int .i64 ((1 + e.toNat : Nat) : Int)) ∧ w.alloc (frC e i r d a n cap 33) = w' := by
  cases e
  · go_enter Try.func66, Try.ntmps66
    go_wp2
    go_ret
    exact ⟨rfl, rfl⟩
  · go_enter Try.func66, Try.ntmps66
    go_wp2
    go_ret
    exact ⟨rfl, rfl⟩
/-- the letters of the body -/
def bodyL (e : Bool) (i : Nat) (r : Bool) (d : Nat) (l : List Nat) : List Nat :=
  [48] ++ arbL e i r ++ M.num 0 (1 + e.toNat) ++ M.num d 4 ++ l.flatMap (fun x => M.num x 8)
theorem bodyL_length (e : Bool) (i : Nat) (r : Bool) (d : Nat) (l : List Nat) : (bodyL e i r d l).length = (if e = true then 39 else 19) + 8 * l.length := by
  have h8 : (l.flatMap (fun x => M.num x 8)).length = 8 * l.length := by
    induction l with
    | nil => rfl
    | cons a l ih => rw [List.flatMap_cons, List.length_append, ih, M.num_length, List.length_cons]; omega
  cases e <;> simp [bodyL, arbL, M.num_length, h8] <;> omega
theorem bodyL_isL (e : Bool) (i : Nat) (r : Bool) (d : Nat) (l : List Nat) : ∀ x ∈ bodyL e i r d l, M.isL x := by
  have hf : ∀ x, x = 48 + r.toNat → M.isL x := by intro x hx; subst hx; cases r; exact .inl rfl; exact .inr rfl
  have h0 : M.isL 48 := .inl rfl
  have h1 : M.isL 49 := .inr rfl
  intro x hx
  cases e
  · simp only [bodyL, arbL, List.mem_append, List.mem_flatMap, List.mem_singleton, Bool.false_eq_true, if_false] at hx
    rcases hx with (((rfl | (hx | hx) | hx) | hx) | hx) | ⟨y, _, hx⟩
    · exact h0
    · exact M.num_isL _ _ x hx
    · exact hf x hx
    · subst hx; exact h0
    · exact M.num_isL _ _ x hx
    · exact M.num_isL _ _ x hx
    · exact M.num_isL _ _ x hx
  · simp only [bodyL, arbL, List.mem_append, List.mem_flatMap, List.mem_cons, List.not_mem_nil, or_false, if_true] at hx
    rcases hx with (((rfl | (((hx | hx) | hx) | hx)) | hx) | hx) | ⟨y, _, hx⟩
    · exact h0
    · exact M.num_isL _ _ x hx
    · rcases hx with rfl | rfl <;> exact h1
    · exact M.num_isL _ _ x hx
    · exact hf x hx
    · exact M.num_isL _ _ x hx
    · exact M.num_isL _ _ x hx
    · exact M.num_isL _ _ x hx
theorem own_one (w : World) (c : Nat) (B : Nat) (hB : B ≤ w.heap.size) : ownsB (w.alloc (.cells #[.int .u8 (c : Int)] 5)) B (.slice (some ⟨w.heap.size, 0, none⟩) 1 1) [c] :=
  World.ownsRow_lit w #[.int .u8 (c : Int)] 1 hB (by decide) rfl
end Go.Proofs.Ytnefmdjodjpopaa
