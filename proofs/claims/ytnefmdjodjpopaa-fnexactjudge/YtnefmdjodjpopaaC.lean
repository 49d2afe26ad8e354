import Derived.Test.YtnefmdjodjpopaaB
namespace Go.Proofs.Ytnefmdjodjpopaa
open Go.RowKit

theorem Try.info5 : (Try.prog.info? 5).map (fun i => (i.zero, i.size, i.bytes)) = some (some (.int .u8 0), 1, 1) := by kernel_rfl
def bv (l : List Nat) : List Value := l.map (fun x : Nat => Value.int .u8 (x : Int))
theorem bv_length (l : List Nat) : (bv l).length = l.length := by simp [bv]
theorem bv_append (l m : List Nat) : bv (l ++ m) = bv l ++ bv m := by simp [bv]
theorem bv_at (l : List Nat) (j : Nat) (h : j < l.length) : (bv l)[j]? = some (Value.int .u8 (l[j] : Int)) := by simp [bv, h]

/-- the slice v is a row of letters that the call itself made, in blocks from B on -/
def ownsB (w : World) (B : Nat) (v : Value) (l : List Nat) : Prop := w.ownsRow B 5 1 v l.length (bv l)

/-- one letter put behind a row of letters that the call itself made -/
theorem app_byte {ops : Array Oper} {rest : List Oper} {o : Oper} {a : Act} {Q : Exit → Act → World → Prop} (w0 wr : World) (hgd : o.guard = none) (s x : Operand)
    (ho : o.op = .call { callee := .builtin .append, args := #[s, x], argTypes := #[28, 28] })
    (B : Nat) (v : Value) (l : List Nat) (c : Nat) (ci : Int) (hci : ci = (c : Int)) (hs : a.eval s = v) (hown : ownsB wr B v l)
    (hx : a.eval x = .slice (some ⟨wr.heap.size, 0, none⟩) 1 1) (hlen : l.length ≤ 100000000) (hB : B ≤ wr.heap.size) (hbel : Below B w0 wr)
    (h : ∀ v' w', ownsB w' B v' (l ++ [c]) → Below B w0 w' → B ≤ w'.heap.size → wpList Try.prog ops Q rest (a.put o.dst v') w') :
    wpList Try.prog ops Q (o :: rest) a (wr.alloc (.cells #[.int .u8 ci] 5)) := by
  subst hci
  obtain ⟨i0, hi, hz0, hz1, hz2⟩ := info_parts Try.info5
  refine wpList_append_own _ hgd s x 28 ho B 5 i0 (.int .u8 0) 1 1 Try.underlying28 hi hz0 hz1 hz2 rfl (by decide) v l.length (bv l) hs (World.ownsRow.alloc hown _) ⟨wr.heap.size, 0, none⟩ 1 1 [.int .u8 (c : Int)] hx rfl ?_ ?_ ?_ ?_ ?_ ?_
  · intro j u hj
    match j, hj with
    | 0, hj => simp at hj; subst hj; simp [Addr.add]
  · intro u hu; simp at hu; subst hu; rfl
  · unfold maxLen; omega
  · omega
  · simp; omega
  · intro v' w' ho' hg _
    have hr : ∀ k, v.ownBlock = some k → B ≤ k := fun k hk => (World.ownsRow.lt hown k hk).1
    refine h v' w' ?_ ((hbel.alloc hB _).grown hg (by simp; omega) hr) (Nat.le_trans (by simp; omega) hg.size)
    have e1 : bv (l ++ [c]) = bv l ++ [.int .u8 (c : Int)] := by simp [bv]
    unfold ownsB
    rw [e1, List.length_append]
    exact ho'

theorem own_nil (w : World) (B : Nat) (hB : B ≤ w.heap.size) : ownsB (w.alloc (.cells #[] 5)) B (.slice (some ⟨w.heap.size, 0, none⟩) 0 0) [] :=
  World.ownsRow_made w #[] 0 hB (by decide) rfl
/-- the row of letters, cell by cell -/
structure rowB (w : World) (g n : Nat) (f : Nat → Nat) : Prop where
  cell : ∀ t, t < n → w.cell? ⟨g, t, none⟩ = some (.int .u8 (f t : Int))
  free : ∀ t, t < n → w.frozen? ⟨g, t, none⟩ = false
theorem ownsB.open {w : World} {B : Nat} {v : Value} {l : List Nat} (h : ownsB w B v l) (hl : l ≠ []) :
    ∃ g cap, v = .slice (some ⟨g, 0, none⟩) l.length cap ∧ B ≤ g ∧ g < w.heap.size ∧ l.length ≤ cap ∧ cap ≤ maxLen ∧ rowB w g l.length (fun t => l.getD t 0) := by
  have h' := h
  obtain ⟨_, h1 | ⟨g, cap, cur, rfl, hb, hh, hc, hm, hsz, htk⟩⟩ := h
  · exact absurd (List.length_eq_zero_iff.1 h1.2) hl
  · refine ⟨g, cap, rfl, hb, (World.ownsRow.lt h' g rfl).2, hc, hm, fun t ht => ?_, fun t ht => ?_⟩
    · rw [World.ownsRow.cellAt h' t (by omega), bv_at l t ht]; simp [List.getD, ht]
    · exact World.ownsRow.frozenAt h' t
theorem rowB.of {w : World} {g n : Nat} {f f' : Nat → Nat} (h : rowB w g n f) (he : ∀ t, t < n → f t = f' t) : rowB w g n f' :=
  ⟨fun t ht => by rw [← he t ht]; exact h.cell t ht, h.free⟩
theorem rowB.set {w : World} {g n : Nat} {f f' : Nat → Nat} (h : rowB w g n f) (t0 : Nat) (ht0 : t0 < n) (x : Int) (hx : x = (f' t0 : Int)) (he : ∀ t, t < n → t ≠ t0 → f t = f' t) : rowB (w.setCell ⟨g, t0, none⟩ (.int .u8 x)).drew g n f' := by
  refine ⟨fun t ht => ?_, fun t ht => ?_⟩
  · rw [World.cell?_drew]
    by_cases e : t = t0
    · subst e
      rw [World.cell?_setCell_same _ _ _ (h.cell t ht), hx]
    · rw [World.cell?_setCell_other _ _ _ _ (by intro hh; exact e (by simpa using hh.symm)), h.cell t ht, he t ht e]
  · rw [World.frozen?_drew, World.frozen?_setCell]
    exact h.free t ht
theorem g_at (j : Nat) (hj : j < 16) (h : j < (ByteArray.mk #[49, 49, 48, 48, 48, 49, 48, 49, 49, 48, 48, 49, 49, 48, 48, 49]).size) : (((ByteArray.mk #[49, 49, 48, 48, 48, 49, 48, 49, 49, 48, 48, 49, 49, 48, 48, 49])[j]'h).toNat : Int) = 48 + ((M.gbit j).toNat : Int) := by
  have : ∀ j : Fin 16, (((ByteArray.mk #[49, 49, 48, 48, 48, 49, 48, 49, 49, 48, 48, 49, 49, 48, 48, 49])[j.val]'(j.isLt)).toNat : Int) = 48 + ((M.gbit j.val).toNat : Int) := by decide
  exact this ⟨j, hj⟩
theorem xor_bits (a b : Bool) : bits BinOp.xor IntKind.u8 (a.toNat : Int) (b.toNat : Int) = ((a ^^ b).toNat : Int) := by
  rw [u8_xor_nat _ _ (by cases a <;> decide) (by cases b <;> decide)]
  cases a <;> cases b <;> rfl
theorem xor_cell (a : Bool) (j : Nat) (hj : j < 16) (h : j < (ByteArray.mk #[49, 49, 48, 48, 48, 49, 48, 49, 49, 48, 48, 49, 49, 48, 48, 49]).size) :
    bits BinOp.xor IntKind.u8 (a.toNat : Int) ((((ByteArray.mk #[49, 49, 48, 48, 48, 49, 48, 49, 49, 48, 48, 49, 49, 48, 48, 49])[j]'h).toNat - 48 : Int) % 256) = ((a ^^ M.gbit j).toNat : Int) := by
  rw [g_at j hj h, ← xor_bits]
  congr 1
  have : (M.gbit j).toNat < 2 := by cases M.gbit j <;> decide
  omega
theorem V0_at (l : List Nat) (hb : ∀ x ∈ l, x < 2) (t : Nat) (_ : t < (l ++ List.replicate 15 0).length) : (l ++ List.replicate 15 0).getD t 0 = (M.V l 0 t).toNat := by
  rw [M.V_zero]
  unfold M.mb
  by_cases h : t < l.length
  · have hx := hb l[t] (List.getElem_mem h)
    have e1 : (l ++ List.replicate 15 0).getD t 0 = l[t] := by simp [List.getD, List.getElem?_append_left h, h]
    have e2 : l.getD t 0 = l[t] := by simp [List.getD, h]
    rw [e1, e2]
    generalize l[t] = x at *
    have : x = 0 ∨ x = 1 := by omega
    rcases this with rfl | rfl <;> rfl
  · have e2 : l.getD t 0 = 0 := by simp [List.getD, List.getElem?_eq_none (Nat.le_of_not_lt h)]
    have e1 : (l ++ List.replicate 15 0).getD t 0 = 0 := by
      unfold List.getD
      rw [List.getElem?_append_right (Nat.le_of_not_lt h), List.getElem?_replicate]
      split <;> rfl
    rw [e1, e2]; rfl
theorem sub48 (c : UInt8) (h : c.toNat = 48 ∨ c.toNat = 49) : (c.toNat : Int) - 48 = ((c.toNat - 48 : Nat) : Int) := by omega

set_option maxHeartbeats 400000 in
theorem specCrc_ok (s : ByteArray) (w : World) (hs : s.size ≤ maxLen) (hk : okT s 2000 = true) :
    Calls Try.prog 16 #[.string s] w fun e w' => e = .returned (.int .i64 (crcZ s)) ∧ Below w.heap.size w w' := by
    have hsz := okT_size hk
    go_enter Try.func16, Try.ntmps16
    go_wp2_with (go_at_call 48; refine (okBits_any _ _ _ hs).mono ?_; rintro e w1 ⟨rfl, rfl⟩)
    have HK : Hid (okT s 2000 = true) := hk
    clear hk
    go_loopw [3, 4] (fun v i wr => ∃ k : Nat, k ≤ s.size ∧ i = .int .i64 k ∧ ownsB wr w.heap.size v ((bl s).take k) ∧ Below w.heap.size w wr ∧ w.heap.size ≤ wr.heap.size) (fun _ i _ => s.size - (intOf i).toNat)
    case atStart => exact ⟨0, Nat.zero_le _, rfl, own_nil _ _ (Nat.le_refl _), (Below.refl _ _).alloc (Nat.le_refl _) _, by simp⟩
    case round =>
      obtain ⟨k, hk, rfl, hown, hbel, hz⟩ := hrel
      by_cases hlt : k < s.size
      · have hv := okT_at HK.out k hlt
        have hll : ((bl s).take k).length ≤ 100000000 := by rw [List.length_take, bl_length]; omega
        have HS : Hid ((bl s).take (k + 1) = (bl s).take k ++ [s[k].toNat - 48]) := bl_snoc s k hlt
        generalize (bl s).take k = l at *
        rcases hv with hv | hv
        · have HS' : Hid ((bl s).take (k + 1) = l ++ [0]) := by rw [HS.out, hv]; exact rfl
          clear HS
          go_wp2_with (at_builtin; refine app_byte w wr rfl (.tmp 21) (.tmp 26) rfl w.heap.size _ l 0 _ rfl rfl hown rfl hll hz hbel ?_)
          intro v' w' hown' hbel' hz'
          clear hown hbel hz
          go_wp2
          go_roundw
          case rel => exact ⟨k + 1, by omega, by go_num, by rw [HS'.out]; exact hown', hbel', hz'⟩
          case measure => simp [intOf]; omega
        · have HS' : Hid ((bl s).take (k + 1) = l ++ [1]) := by rw [HS.out, hv]; exact rfl
          clear HS
          go_wp2_with (at_builtin; refine app_byte w wr rfl (.tmp 21) (.tmp 26) rfl w.heap.size _ l 1 _ rfl rfl hown rfl hll hz hbel ?_)
          intro v' w' hown' hbel' hz'
          clear hown hbel hz
          go_wp2
          go_roundw
          case rel => exact ⟨k + 1, by omega, by go_num, by rw [HS'.out]; exact hown', hbel', hz'⟩
          case measure => simp [intOf]; omega
      · have hke : (bl s).take k = bl s := List.take_of_length_le (by rw [bl_length]; omega)
        rw [hke] at hown
        have hbn := bl_length s
        clear hke
        go_wp2
        have hB0 : ∀ x ∈ bl s, x < 2 := bl_bits HK.out
        generalize hL : bl s = l at *
        have HL : Hid (bl s = l) := hL
        clear hL
        go_loopw [3, 5] (fun v i wr => ∃ j : Nat, j ≤ 15 ∧ i = .int .i64 j ∧ ownsB wr w.heap.size v (l ++ List.replicate j 0) ∧ Below w.heap.size w wr ∧ w.heap.size ≤ wr.heap.size) (fun _ i _ => 15 - (intOf i).toNat)
        case atStart => exact ⟨0, Nat.zero_le _, rfl, by simpa using hown, hbel, hz⟩
        case round =>
          clear hown hbel hz
          obtain ⟨j, hj, rfl, hown, hbel, hz⟩ := hrel
          by_cases hlt : j < 15
          · have hll : (l ++ List.replicate j 0).length ≤ 100000000 := by rw [List.length_append, List.length_replicate]; omega
            have HS : Hid (l ++ List.replicate (j + 1) 0 = (l ++ List.replicate j 0) ++ [0]) := by rw [List.append_assoc, List.replicate_succ']; exact rfl
            generalize l ++ List.replicate j 0 = l' at *
            go_wp2_with (at_builtin; refine app_byte w _ rfl (.tmp 32) (.tmp 33) rfl w.heap.size _ l' 0 _ rfl rfl hown rfl hll hz hbel ?_)
            intro v' w' hown' hbel' hz'
            clear hown hbel hz
            go_wp2
            go_roundw
            case rel => exact ⟨j + 1, by omega, by go_num, by rw [HS.out]; exact hown', hbel', hz'⟩
            case measure => simp [intOf]; omega
          · have hj' : j = 15 := by omega
            subst hj'
            have hown3 : ∃ g cap n, u3 = .slice (some ⟨g, 0, none⟩) n cap ∧ w.heap.size ≤ g ∧ g < wr.heap.size ∧ n ≤ cap ∧ cap ≤ maxLen ∧ l.length + 15 ≤ n ∧ n ≤ l.length + 15 ∧ rowB wr g n (fun t => (M.V l 0 t).toNat) := by
              obtain ⟨g, cap, hv, h1, h2, h3, h4, h5⟩ := hown.open (by simp)
              exact ⟨g, cap, _, hv, h1, h2, h3, h4, by simp, by simp, h5.of (V0_at l hB0)⟩
            clear hown
            obtain ⟨g, cap, n, rfl, hgB, hgz, hcap, hcm, hn1, hn2, hrow⟩ := hown3
            unfold maxLen at hcm
            have hbn1 : l.length ≤ 2000 := by omega
            have HBN : Hid (l.length = s.size) := hbn
            clear hbn
            go_wp2
            go_loopw [7, 8] (fun i _ wr => ∃ k : Nat, k ≤ l.length ∧ i = .int .i64 k ∧ rowB wr g n (fun t => (M.V l k t).toNat) ∧ Below w.heap.size w wr ∧ g < wr.heap.size) (fun i _ _ => l.length - (intOf i).toNat)
            case atStart => exact ⟨0, Nat.zero_le _, rfl, hrow, hbel, hgz⟩
            case round =>
              clear hrow hbel hgz hz
              obtain ⟨i, hi, rfl, hrow, hbel, hgz⟩ := hrel
              by_cases hil : i < l.length
              · have hc := hrow.cell i (by omega)
                have HST : Hid (∀ j, M.V l (i + 1) j = (M.V l i j ^^ (M.V l i i && (decide (i ≤ j ∧ j < i + 16) && M.gbit (j - i))))) := fun j => M.V_step l i j hB0 hil
                cases hb : M.V l i i
                · simp only [hb, Bool.toNat_false] at hc
                  have HB : Hid (M.V l i i = false) := hb
                  clear hb
                  go_wp2
                  go_roundw
                  case rel => exact ⟨i + 1, by omega, by go_num, hrow.of (fun t _ => by rw [HST.out t, HB.out]; simp), hbel, hgz⟩
                  case measure => simp [intOf]; omega
                · simp only [hb, Bool.toNat_true] at hc
                  have HB : Hid (M.V l i i = true) := hb
                  clear hb
                  go_wp2
                  go_loopw [8] (fun jj wr => ∃ j : Nat, j ≤ 16 ∧ jj = .int .i64 j ∧ rowB wr g n (fun t => (M.V l i t ^^ (decide (i ≤ t ∧ t < i + j) && M.gbit (t - i))).toNat) ∧ Below w.heap.size w wr ∧ g < wr.heap.size) (fun jj _ => 16 - (intOf jj).toNat)
                  case atStart => exact ⟨0, Nat.zero_le _, rfl, hrow.of (fun t _ => by rw [show decide (i ≤ t ∧ t < i + 0) = false from decide_eq_false (by omega)]; simp), hbel, hgz⟩
                  case round =>
                    clear hrow hbel hgz hc
                    obtain ⟨j, hj, rfl, hrow, hbel, hgz⟩ := hrel
                    by_cases hjl : j < 16
                    · have hc := hrow.cell (i + j) (by omega)
                      have hf := hrow.free (i + j) (by omega)
                      go_wp2
                      go_region
                      go_wp2
                      refine ⟨⟨j + 1, by omega, by go_num, hrow.set (i + j) (by omega) _ ?_ ?_, (hbel.setCell (by exact hgB) _).drew, by simpa using hgz⟩, by simp [intOf]; omega⟩
                      · rw [xor_cell _ j hjl, show decide (i ≤ i + j ∧ i + j < i + (j + 1)) = true from decide_eq_true (by omega), show i + j - i = j from by omega]
                        simp
                      · intro t ht hne
                        have e : decide (i ≤ t ∧ t < i + j) = decide (i ≤ t ∧ t < i + (j + 1)) := by
                          rw [Bool.eq_iff_iff]; simp; omega
                        simp only [e]
                    · have hj16 : j = 16 := by omega
                      subst hj16
                      have hrow' : rowB wr g n (fun t => (M.V l (i + 1) t).toNat) := hrow.of (fun t _ => by rw [HST.out t, HB.out]; simp)
                      clear hrow
                      go_wp2
                      go_roundw
                      case rel => exact ⟨i + 1, by omega, by go_num, hrow', hbel, hgz⟩
                      case measure => simp [intOf]; omega
              · have hil' : i = l.length := by omega
                subst hil'
                have hr := M.crcN_lt l
                have HV : Hid (∀ k, k < 15 → M.V l l.length (l.length + k) = (M.crcN l).testBit (14 - k)) := M.V_end l
                have HZ : Hid (crcZ s = (M.crcN (bl s) : Nat)) := by simp [crcZ, HK.out, Hid]
                go_wp2
                go_loopw [9, 10] (fun c i wr => ∃ q : Nat, q ≤ 15 ∧ i = .int .i64 ((l.length + q : Nat) : Int) ∧ c = .int .i64 ((M.topv (M.crcN l) q : Nat) : Int) ∧ rowB wr g n (fun t => (M.V l l.length t).toNat) ∧ Below w.heap.size w wr ∧ g < wr.heap.size) (fun _ i _ => l.length + 15 - (intOf i).toNat)
                case atStart => exact ⟨0, by omega, by go_num, by rw [M.topv_zero _ hr]; rfl, hrow, hbel, hgz⟩
                case round =>
                  clear hrow hbel hgz
                  obtain ⟨q, hq, rfl, rfl, hrow, hbel, hgz⟩ := hrel
                  have htp := M.topv_le (M.crcN l) q hr
                  by_cases hql : q < 15
                  · have hc := hrow.cell (l.length + q) (by omega)
                    rw [HV.out q hql] at hc
                    have HT : Hid (M.topv (M.crcN l) (q + 1) = 2 * M.topv (M.crcN l) q + ((M.crcN l).testBit (14 - q)).toNat) := M.topv_succ _ q hql
                    have hbb : ((M.crcN l).testBit (14 - q)).toNat < 2 := by cases (M.crcN l).testBit (14 - q) <;> decide
                    generalize ((M.crcN l).testBit (14 - q)).toNat = y at *
                    generalize hx : M.topv (M.crcN l) q = x at *
                    clear hx
                    go_wp2
                    go_roundw
                    case rel => exact ⟨q + 1, by omega, by go_num, by rw [HT.out]; go_num, hrow, hbel, hgz⟩
                    case measure => simp [intOf]; omega
                  · have hq' : q = 15 := by omega
                    subst hq'
                    rw [M.topv_end] at htp ⊢
                    go_wp2
                    go_ret
                    exact ⟨ret_int (by rw [HZ.out, HL.out]), hbel⟩

theorem specCrc_any (s : ByteArray) (w : World) (hs : s.size ≤ maxLen) :
    Calls Try.prog 16 #[.string s] w fun e w' => e = .returned (.int .i64 (crcZ s)) ∧ Below w.heap.size w w' := by
  by_cases hk : okT s 2000 = true
  · exact specCrc_ok s w hs hk
  · have hk' : okT s 2000 = false := by simpa using hk
    have HZ : Hid (crcZ s = -1) := by simp [crcZ, hk', Hid]
    clear hk
    go_enter Try.func16, Try.ntmps16
    go_wp2_with (go_at_call 48; refine (okBits_any _ _ _ hs).mono ?_; rintro e w1 ⟨rfl, rfl⟩)
    go_ret
    exact ⟨ret_int HZ.out.symm, Below.refl _ _⟩

/-- laws.FnExactCrc15 -/
theorem lawCrc15 (s : ByteArray) (w : World) (hs : s.size ≤ maxLen) :
    Calls Try.prog 3 #[.string s] w fun e w' => e = .returned (.bool true) ∧ Below w.heap.size w w' := by
  have hs' := hs
  unfold maxLen at hs'
  by_cases hl : (1048576 : Int) < (s.size : Int)
  · go_enter Try.func3, Try.ntmps3
    go_wp2
    go_ret
    exact ⟨rfl, Below.refl _ _⟩
  · go_enter Try.func3, Try.ntmps3
    go_wp2_with (first | (go_at_call 16; refine (specCrc_any _ _ hs).mono ?_; rintro e w1 ⟨rfl, hb1⟩) | (go_at_call 17; refine (crc15_any _ _).mono ?_; rintro e w2 ⟨rfl, hb2⟩))
    go_ret
    exact ⟨rfl, hb1.trans (hb2.mono hb1.size)⟩
end Go.Proofs.Ytnefmdjodjpopaa
