import Derived.Test.YtpknchjjfiiaeaaGreatDoorV19
import Derived.Laws.IdiomStrings
namespace Go.Proofs.YtpknchjjfiiaeaaGreatDoor
open Go.RowKit
theorem Tryz.info5 : (Tryz.prog.info? 5).map (fun i => (i.zero, i.size, i.bytes)) = some (some (.int .u8 0), 1, 1) := by kernel_rfl
def bv (l : List Nat) : List Value := l.map (fun x : Nat => Value.int .u8 (x : Int))
theorem bv_at (l : List Nat) (j : Nat) (h : j < l.length) : (bv l)[j]? = some (Value.int .u8 (l[j] : Int)) := by simp [bv, h]
/-- the slice v is a row of letters that the call itself made, in blocks from B on -/
def ownsB (w : World) (B : Nat) (v : Value) (l : List Nat) : Prop := w.ownsRow B 5 1 v l.length (bv l)
/-- one letter put behind a row of letters that the call itself made -/
theorem app_byte {ops : Array Oper} {rest : List Oper} {o : Oper} {a : Act} {Q : Exit → Act → World → Prop} (w0 wr : World) (hgd : o.guard = none) (s x : Operand)
    (ho : o.op = .call { callee := .builtin .append, args := #[s, x], argTypes := #[22, 22] })
    (B : Nat) (v : Value) (l : List Nat) (c : Nat) (ci : Int) (hci : ci = (c : Int)) (hs : a.eval s = v) (hown : ownsB wr B v l)
    (hx : a.eval x = .slice (some ⟨wr.heap.size, 0, none⟩) 1 1) (hlen : l.length ≤ 100000000) (hB : B ≤ wr.heap.size) (hbel : Below B w0 wr)
    (h : ∀ v' w', ownsB w' B v' (l ++ [c]) → Below B w0 w' → B ≤ w'.heap.size → wpList Tryz.prog ops Q rest (a.put o.dst v') w') :
    wpList Tryz.prog ops Q (o :: rest) a (wr.alloc (.cells #[.int .u8 ci] 5)) := by
  subst hci
  obtain ⟨i0, hi, hz0, hz1, hz2⟩ := info_parts Tryz.info5
  refine wpList_append_own _ hgd s x 22 ho B 5 i0 (.int .u8 0) 1 1 Tryz.underlying22 hi hz0 hz1 hz2 rfl (by decide) v l.length (bv l) hs (World.ownsRow.alloc hown _) ⟨wr.heap.size, 0, none⟩ 1 1 [.int .u8 (c : Int)] hx rfl ?_ ?_ ?_ ?_ ?_ ?_
  · intro j u hj
    match j, hj with
    | 0, hj => simp at hj; subst hj; simp [Addr.add]
  · intro u hu; simp at hu; subst hu; rfl
  · unfold maxLen; omega
  · omega
  · simp; omega
  · intro v' w' ho' hg _
    have hr : ∀ k, v.ownBlock = some k → B ≤ k := fun k hk => (World.ownsRow.lt hown k hk).1
    refine h v' w' ?_ ((hbel.alloc hB _).grown hg (by simp; omega) hr) (Nat.le_trans (by simp; omega) hg.size)
    have e1 : bv (l ++ [c]) = bv l ++ [.int .u8 (c : Int)] := by simp [bv]
    unfold ownsB
    rw [e1, List.length_append]
    exact ho'
theorem own_nil (w : World) (B : Nat) (hB : B ≤ w.heap.size) : ownsB (w.alloc (.cells #[] 5)) B (.slice (some ⟨w.heap.size, 0, none⟩) 0 0) [] :=
  World.ownsRow_made w #[] 0 hB (by decide) rfl
/-- the row of letters, cell by cell -/
structure rowB (w : World) (g n : Nat) (f : Nat → Nat) : Prop where
  cell : ∀ t, t < n → w.cell? ⟨g, t, none⟩ = some (.int .u8 (f t : Int))
  free : ∀ t, t < n → w.frozen? ⟨g, t, none⟩ = false
theorem rowB.of {w : World} {g n : Nat} {f f' : Nat → Nat} (h : rowB w g n f) (he : ∀ t, t < n → f t = f' t) : rowB w g n f' :=
  ⟨fun t ht => by rw [← he t ht]; exact h.cell t ht, h.free⟩
theorem rowB.set {w : World} {g n : Nat} {f f' : Nat → Nat} (h : rowB w g n f) (t0 : Nat) (ht0 : t0 < n) (x : Int) (hx : x = (f' t0 : Int)) (he : ∀ t, t < n → t ≠ t0 → f t = f' t) : rowB (w.setCell ⟨g, t0, none⟩ (.int .u8 x)).drew g n f' := by
  refine ⟨fun t ht => ?_, fun t ht => ?_⟩
  · rw [World.cell?_drew]
    by_cases e : t = t0
    · subst e
      rw [World.cell?_setCell_same _ _ _ (h.cell t ht), hx]
    · rw [World.cell?_setCell_other _ _ _ _ (by intro hh; exact e (by simpa using hh.symm)), h.cell t ht, he t ht e]
  · rw [World.frozen?_drew, World.frozen?_setCell]
    exact h.free t ht
theorem ret_str {a b : ByteArray} (h : a = b) : Ending.returned (.string a) = .returned (.string b) := by rw [h]
/-- the text of letters -/
def strN (l : List Nat) : ByteArray := ⟨(l.map UInt8.ofNat).toArray⟩
theorem conv_own {w : World} {B : Nat} {v : Value} {l : List Nat} (h : ownsB w B v l) (hl : ∀ x ∈ l, x < 256) : (convert 22 9 v).run Tryz.prog w = .ok (.string (strN l)) w := by
  have h' := h
  obtain ⟨_, ⟨rfl, h1⟩ | ⟨g, cap, cur, rfl, hb, hh, hc, hm, hsz, htk⟩⟩ := h
  · have : l = [] := List.length_eq_zero_iff.1 h1
    subst this
    rw [run_convert_bytes_string w 22 9 5 none 0 0 Tryz.underlying22 Tryz.underlying5 Tryz.underlying9]
    rfl
  · have := run_convert_bytes_back (P := Tryz.prog) w 22 9 5 ⟨g, 0, none⟩ cap (l.map UInt8.ofNat) Tryz.underlying22 Tryz.underlying5 Tryz.underlying9 (by
      intro j hj
      have hj' : j < l.length := by simpa using hj
      have hc := World.ownsRow.cellAt h' j (by omega)
      rw [bv_at l j hj'] at hc
      have hx := hl l[j] (List.getElem_mem hj')
      have e : (UInt8.ofNat l[j]).toNat = l[j] := by simp; omega
      have e2 : (⟨g, 0, none⟩ : Addr).add j = ⟨g, j, none⟩ := by simp only [Addr.add]; split <;> simp_all
      rw [e2, List.getElem_map, e]
      exact hc)
    rw [List.length_map] at this
    exact this
theorem make_zeroB {ops : Array Oper} {rest : List Oper} {o : Oper} {a : Act} {Q : Exit → Act → World → Prop} (w : World)
    (hg : o.guard = none) (l c : Operand) (hop : o.op = Op.makeSlice 22 l c) (C : Int) (n : Nat) (hl : a.eval l = .int .i64 C) (hc : a.eval c = .int .i64 C) (hC : C = (n : Int)) (hn : n ≤ 100000000)
    (hK : ∀ w', rowB w' w.heap.size n (fun _ => 0) → w.grownBy w' none → w.heap.size < w'.heap.size → wpList Tryz.prog ops Q rest (a.put o.dst (.slice (some ⟨w.heap.size, 0, none⟩) n n)) w') :
    wpList Tryz.prog ops Q (o :: rest) a w := by
  obtain ⟨i0, hi, hz0, hz1, hz2⟩ := info_parts Tryz.info5
  refine wpList_make_full w hg l c 22 hop w.heap.size 5 i0 (.int .u8 0) 1 Tryz.underlying22 hi hz0 hz1 .i64 .i64 C C n hl hc hC hC (by rw [hz2]; omega) (by unfold maxLen; omega) (Nat.le_refl _) ?_
  intro w' ho hgr
  refine hK w' ⟨fun t ht => ?_, fun t ht => World.ownsRow.frozenAt ho t⟩ hgr (World.ownsRow.lt ho _ rfl).2
  rw [World.ownsRow.cellAt ho t (by omega)]
  have e : (madeCells (Value.int IntKind.u8 0).cells (n * 1)).toList = List.replicate (n * 1) (.int .u8 0) := toList_madeCells_one _ _
  rw [e, Nat.mul_one, List.getElem?_replicate, if_pos ht]
  rfl
theorem rowB.set' {w : World} {g n : Nat} {f f' : Nat → Nat} (h : rowB w g n f) (t0 : Nat) (ht0 : t0 < n) (x : Int) (hx : x = (f' t0 : Int)) (he : ∀ t, t < n → t ≠ t0 → f t = f' t) : rowB (w.setCell ⟨g, t0, none⟩ (.int .u8 x)) g n f' :=
  ⟨fun t ht => by have := (h.set t0 ht0 x hx he).cell t ht; rwa [World.cell?_drew] at this, fun t ht => by rw [World.frozen?_setCell]; exact h.free t ht⟩
def unL (l : List Nat) (N : Nat) : List Nat := (List.range N).map fun i => 48 + lev l i
theorem unL_len (l : List Nat) (N : Nat) : (unL l N).length = N := by simp [unL]
theorem unL_succ (l : List Nat) (k : Nat) : unL l (k + 1) = unL l k ++ [48 + lev l k] := by simp [unL, List.range_succ]
theorem lev_lt (l : List Nat) (i : Nat) : lev l i < 2 := by unfold lev; omega
theorem unL_small (l : List Nat) (N : Nat) : ∀ x ∈ unL l N, x < 256 := by
  intro x hx
  simp only [unL, List.mem_map] at hx
  obtain ⟨i, _, rfl⟩ := hx
  have := lev_lt l i
  omega
def unZ (N : Int) (l : List Nat) : ByteArray := if okP N l = true then strN (unL l N.toNat) else ⟨#[]⟩
/-- one letter of a bit text -/
def okC (c : UInt8) : Bool := c == 48 || c == 49
/-- a bit text of at most m letters -/
def okT (s : ByteArray) (m : Int) : Bool := decide ((s.size : Int) ≤ m) && s.data.toList.all okC
theorem take_snoc (s : ByteArray) (k : Nat) (h : k < s.size) : s.data.toList.take (k + 1) = s.data.toList.take k ++ [s[k]] := by
  rw [List.take_succ_eq_append_getElem (by simpa using h)]; rfl
theorem okT_long {s : ByteArray} {m : Int} (h : ¬ (s.size : Int) ≤ m) : okT s m = false := by simp [okT, h]
theorem okT_all {s : ByteArray} {m : Int} (h : (s.size : Int) ≤ m) (k : Nat) (hk : s.size ≤ k) (ha : (s.data.toList.take k).all okC = true) : okT s m = true := by
  rw [List.take_of_length_le (by simpa using hk)] at ha
  simp [okT, h, ha]
theorem okT_bad {s : ByteArray} {m : Int} (k : Nat) (hk : k < s.size) (hb : okC s[k] = false) : okT s m = false := by
  have : s.data.toList.all okC = false := by
    rw [List.all_eq_false]
    exact ⟨s[k], by rw [Array.mem_toList_iff]; exact Array.getElem_mem (xs := s.data) (i := k) hk, by simpa using hb⟩
  simp [okT, this]
theorem ok_snoc {s : ByteArray} {k : Nat} (hk : k < s.size) (ha : (s.data.toList.take k).all okC = true) (hc : okC s[k] = true) : (s.data.toList.take (k + 1)).all okC = true := by
  rw [take_snoc s k hk, List.all_append, ha]; simp [hc]
theorem okC_of (c : UInt8) (h : (c.toNat : Int) = 48 ∨ (c.toNat : Int) = 49) : okC c = true := by
  unfold okC
  rcases h with h | h
  · have : c = 48 := UInt8.toNat_inj.1 (by simpa using (by omega : c.toNat = 48))
    simp [this]
  · have : c = 49 := UInt8.toNat_inj.1 (by simpa using (by omega : c.toNat = 49))
    simp [this]
theorem okC_not (c : UInt8) (h : ¬ (c.toNat : Int) = 48) (h' : ¬ (c.toNat : Int) = 49) : okC c = false := by
  unfold okC
  have a : (c == 48) = false := by
    rw [beq_eq_false_iff_ne]; intro e; subst e; exact h rfl
  have b : (c == 49) = false := by
    rw [beq_eq_false_iff_ne]; intro e; subst e; exact h' rfl
  simp [a, b]
theorem okC_val {c : UInt8} (h : okC c = true) : c.toNat = 48 ∨ c.toNat = 49 := by
  unfold okC at h
  simp at h
  rcases h with h | h <;> subst h
  · exact .inl rfl
  · exact .inr rfl
set_option maxHeartbeats 400000 in
theorem okBits_any (s : ByteArray) (m : Int) (w : World) (hs : s.size ≤ maxLen) :
    Calls Tryz.prog 35 #[.string s, .int .i64 m] w fun e w' => e = .returned (.bool (okT s m)) ∧ w = w' := by
  unfold maxLen at hs
  by_cases hm : (s.size : Int) ≤ m
  · go_enter Tryz.func35, Tryz.ntmps35
    go_wp2
    go_loop [5] (fun i => ∃ k : Nat, k ≤ s.size ∧ i = .int .i64 k ∧ (s.data.toList.take k).all okC = true) (fun i => s.size - (intOf i).toNat)
    case atStart => exact ⟨0, Nat.zero_le _, rfl, rfl⟩
    case round =>
      obtain ⟨k, hk, rfl, ha⟩ := hrel
      have HA : Hid ((s.data.toList.take k).all okC = true) := ha
      clear ha
      by_cases hlt : k < s.size
      · by_cases h0 : (s[k].toNat : Int) = 48
        · go_wp2
          go_round
          case rel => exact ⟨k + 1, by omega, by go_num, ok_snoc hlt HA.out (okC_of _ (.inl h0))⟩
          case measure => simp [intOf]; omega
        · by_cases h1 : (s[k].toNat : Int) = 49
          · go_wp2
            go_round
            case rel => exact ⟨k + 1, by omega, by go_num, ok_snoc hlt HA.out (okC_of _ (.inr h1))⟩
            case measure => simp [intOf]; omega
          · have hb := okT_bad (m := m) k hlt (okC_not _ h0 h1)
            have b0 : ((s[k].toNat : Int) != 48) = true := by simpa using h0
            have b1 : ((s[k].toNat : Int) != 49) = true := by simpa using h1
            have HB : Hid (okT s m = false) := hb
            clear hb h0 h1
            go_wp2
            go_ret
            exact ⟨ret_bool HB.out.symm, rfl⟩
      · go_wp2
        go_ret
        exact ⟨ret_bool (okT_all hm k (by omega) HA.out).symm, rfl⟩
  · go_enter Tryz.func35, Tryz.ntmps35
    go_wp2
    go_ret
    exact ⟨ret_bool (okT_long (by omega)).symm, rfl⟩
set_option maxHeartbeats 400000 in
theorem isBitText_any (s : ByteArray) (m : Int) (w : World) :
    Calls Tryz.prog 30 #[.string s, .int .i64 m] w fun e w' => e = .returned (.bool (okT s m)) ∧ Below w.heap.size w w' := by
  by_cases hm : (s.size : Int) ≤ m
  · go_enter Tryz.func30, Tryz.ntmps30
    go_wp2
    go_loopw [6] (fun _ w' => ∃ k : Nat, k ≤ s.size ∧ w' = w.iter s k ∧ (s.data.toList.take k).all okC = true) (fun _ w' => s.size - w'.iterPos w.heap.size)
    case atStart => exact ⟨0, Nat.zero_le _, rfl, rfl⟩
    case round =>
      obtain ⟨k, hk, rfl, ha⟩ := hrel
      have HA : Hid ((s.data.toList.take k).all okC = true) := ha
      clear ha
      by_cases hlt : k < s.size
      · by_cases hc : okC s[k] = true
        · have hv := okC_val hc
          have hnx := fun ty => run_next_ascii (P := Tryz.prog) w s k ty hlt (by omega)
          have HC : Hid (okC s[k] = true) := hc
          clear hc
          rcases hv with hv | hv
          · rw [hv] at hnx
            clear hv
            go_wp2
            go_roundw
            case rel => exact ⟨k + 1, by omega, rfl, ok_snoc hlt HA.out HC.out⟩
            case measure => simp; omega
          · rw [hv] at hnx
            clear hv
            go_wp2
            go_roundw
            case rel => exact ⟨k + 1, by omega, rfl, ok_snoc hlt HA.out HC.out⟩
            case measure => simp; omega
        · have hb := okT_bad (m := m) k hlt (by simpa using hc)
          have hd : (((Utf8.decode s k).1 : Int) != 48) = true ∧ (((Utf8.decode s k).1 : Int) != 49) = true := by
            by_cases hx : (s[k]'hlt).toNat < 128
            · rw [decode_ascii s k hlt hx]
              simp only [bne_iff_ne]
              refine ⟨fun e => hc (okC_of _ (.inl (by exact_mod_cast e))), fun e => hc (okC_of _ (.inr (by exact_mod_cast e)))⟩
            · have := (decode_high s k hlt (by omega)).1
              simp only [bne_iff_ne]
              constructor <;> omega
          obtain ⟨b0, b1⟩ := hd
          have hnx : ∀ ty, (Instr.next (.pointer (some ⟨w.heap.size, 0, none⟩)) true ty).run Tryz.prog (w.iter s k) = _ := fun ty => run_next_any w s k ty hlt
          have HB : Hid (okT s m = false) := hb
          clear hb hc
          go_wp2
          go_ret
          exact ⟨ret_bool HB.out.symm, (Below.refl _ _).alloc (Nat.le_refl _) _⟩
      · have hnx : ∀ ty, (Instr.next (.pointer (some ⟨w.heap.size, 0, none⟩)) true ty).run Tryz.prog (w.iter s k) = _ := fun ty => run_next_end w s k ty hlt
        go_wp2
        go_ret
        exact ⟨ret_bool (okT_all hm k (by omega) HA.out).symm, (Below.refl _ _).alloc (Nat.le_refl _) _⟩
  · go_enter Tryz.func30, Tryz.ntmps30
    go_wp2
    go_ret
    exact ⟨ret_bool (okT_long (by omega)).symm, Below.refl _ _⟩
theorem okP_parts {N : Nat} {l : List Nat} (h : okP (N : Int) l = true) : N ≤ 4000 ∧ N ≤ 64 * l.length ∧ l.length ≤ 1000 := by
  simp only [okP, Bool.and_eq_true, decide_eq_true_eq] at h
  omega
theorem app_byteb {ops : Array Oper} {rest : List Oper} {o : Oper} {a : Act} {Q : Exit → Act → World → Prop} (w0 wr : World) (hgd : o.guard = none) (s x : Operand)
    (ho : o.op = .call { callee := .builtin .append, args := #[s, x], argTypes := #[22, 22] })
    (B : Nat) (v : Value) (l : List Nat) (c : Nat) (ci : Int) (hci : ci = (c : Int)) (hs : a.eval s = v) (hown : ownsB wr B v l)
    (b : Nat) (hbz : b = wr.heap.size) (hx : a.eval x = .slice (some ⟨b, 0, none⟩) 1 1) (hlen : l.length ≤ 100000000) (hB : B ≤ wr.heap.size) (hbel : Below B w0 wr)
    (h : ∀ v' w', ownsB w' B v' (l ++ [c]) → Below B w0 w' → B ≤ w'.heap.size → wpList Tryz.prog ops Q rest (a.put o.dst v') w') :
    wpList Tryz.prog ops Q (o :: rest) a (wr.alloc (.cells #[.int .u8 ci] 5)) := by
  subst hbz
  exact app_byte w0 wr hgd s x ho B v l c ci hci hs hown hx hlen hB hbel h
theorem conv_row {w : World} {g : Nat} {l : List Nat} (h : ∀ t (ht : t < l.length), w.cell? ⟨g, t, none⟩ = some (.int .u8 (l[t] : Int))) (hl : ∀ x ∈ l, x < 256) : (convert 22 9 (.slice (some ⟨g, 0, none⟩) l.length l.length)).run Tryz.prog w = .ok (.string (strN l)) w := by
  have := run_convert_bytes_back (P := Tryz.prog) w 22 9 5 ⟨g, 0, none⟩ l.length (l.map UInt8.ofNat) Tryz.underlying22 Tryz.underlying5 Tryz.underlying9 (by
    intro j hj
    have hj' : j < l.length := by simpa using hj
    have hc := h j hj'
    have hx := hl l[j] (List.getElem_mem hj')
    have e : (UInt8.ofNat l[j]).toNat = l[j] := by simp; omega
    have e2 : (⟨g, 0, none⟩ : Addr).add j = ⟨g, j, none⟩ := by simp only [Addr.add]; split <;> simp_all
    rw [e2, List.getElem_map, e]
    exact hc)
  rw [List.length_map] at this
  exact this
set_option maxHeartbeats 1000000 in
set_option maxRecDepth 20000 in
theorem specUnpack_ok (w : World) (N : Nat) (a : Option Addr) (n cap : Nat) (l : List Nat) (h : isWords w a n cap l) (hok : okP (N : Int) l = true) :
    Calls Tryz.prog 7 #[pkV (N : Int) a n cap] w fun o w' => o = .returned (.string (strN (unL l N))) ∧ Below w.heap.size w w' := by
  obtain ⟨hN, hNl, hln⟩ := okP_parts hok
  have hl := h.len
  have hNn : N ≤ 64 * n := by omega
  have hn : n ≤ 1000 := by omega
  have HH : Hid (isWords w a n cap l) := h
  have HO : Hid (okP (N : Int) l = true) := hok
  clear h hok hl hNl hln
  go_enter Tryz.func7, Tryz.ntmps7
  go_wp2_with (first | (go_at_call 33; refine (l2ok_any _ (N : Int) a n cap l (HH.out.below ((Below.refl _ _).alloc (Nat.le_refl _) _))).mono ?_; rintro o w1 ⟨rfl, hb0⟩; rw [HO.out]; have hb1 : Below (w.heap.size + 1) (w.alloc (pkC (N : Int) a n cap 27)) w1 := hb0.mono (by simp); obtain ⟨c0, c1, hB⟩ := pk_in hb1))
  have hz1 : w.heap.size + 1 ≤ w1.heap.size := by have := hb1.size; simpa using this
  have hown := own_nil w1 (w.heap.size + 1) hz1
  have hb2 := hb1.alloc hz1 (.cells #[] 5)
  go_loopw [3, 4] (fun v i wr => ∃ k : Nat, k ≤ N ∧ i = .int .i64 (k : Int) ∧ ownsB wr (w.heap.size + 1) v (unL l k) ∧ Below (w.heap.size + 1) (w.alloc (pkC (N : Int) a n cap 27)) wr ∧ w.heap.size + 1 ≤ wr.heap.size) (fun _ i _ => N - (intOf i).toNat)
  case atStart => exact ⟨0, Nat.zero_le _, rfl, hown, hb2, by simp; omega⟩
  case round =>
    clear hown hb2 hz1 c0 c1 hB hb1 hb0
    obtain ⟨k, hk, rfl, hown, hb, hz⟩ := hrel
    obtain ⟨c0, c1, hB⟩ := pk_in hb
    by_cases hlt : k < N
    · have HZ : Hid (Below (w.heap.size + 1) (w.alloc (pkC (N : Int) a n cap 27)) wr ∧ Below w.heap.size w wr ∧ ownsB wr (w.heap.size + 1) u3 (unL l k)) := ⟨hb, hB, hown⟩
      have HV : Hid (lev l k < 2) := lev_lt l k
      have HU : Hid (unL l (k + 1) = unL l k ++ [48 + lev l k] ∧ (unL l k).length = k) := ⟨unL_succ l k, unL_len l k⟩
      clear hb hB hown
      have hlv := HV.out
      have HC : Hid (∀ W, isWords W a n cap l → Calls Tryz.prog 34 #[pkV (N : Int) a n cap, .int .i64 (k : Int)] W fun o w' => o = .returned (.int .i64 (lev l k : Int)) ∧ w' = W.alloc (pkC (N : Int) a n cap 27)) := fun W hW => l2bit_ok W (N : Int) a n cap l hW k (by omega) (by omega)
      generalize lev l k = L at *
      go_wp2_with (first | (go_at_call 34; refine (HC.out _ (HH.out.below HZ.out.2.1)).mono ?_; rintro o w1 ⟨rfl, rfl⟩) | (at_builtin; refine app_byteb (w.alloc (pkC (N : Int) a n cap 27)) (wr.alloc (pkC (N : Int) a n cap 27)) rfl (.tmp 15) (.tmp 21) rfl (w.heap.size + 1) _ (unL l k) (48 + L) _ ?_ rfl (World.ownsRow.alloc HZ.out.2.2 _) (wr.heap.size + 1) (by simp) rfl ?_ ?_ (HZ.out.1.alloc hz _) ?_))
      · push_cast; rfl
      · have := HU.out.2; omega
      · simp; omega
      · intro v2 w2 ho2 hb2 hz2
        have ho3 : ownsB w2 (w.heap.size + 1) v2 (unL l (k + 1)) := by rw [HU.out.1]; exact ho2
        go_wp2
        go_roundw
        case rel => exact ⟨k + 1, by omega, by go_num, ho3, hb2, hz2⟩
        case measure => simp [intOf]; omega
    · have hkN : k = N := by omega
      subst hkN
      have hcv := conv_own hown (unL_small l k)
      go_wp2
      go_ret
      exact ⟨rfl, hB⟩
set_option maxHeartbeats 1000000 in
set_option maxRecDepth 20000 in
theorem unpack_ok (w : World) (N : Nat) (a : Option Addr) (n cap : Nat) (l : List Nat) (h : isWords w a n cap l) (hok : okP (N : Int) l = true) :
    Calls Tryz.prog 5 #[pkV (N : Int) a n cap] w fun o w' => o = .returned (.string (strN (unL l N))) ∧ Below w.heap.size w w' := by
  obtain ⟨hN, hNl, hln⟩ := okP_parts hok
  have hl := h.len
  have hNn : N ≤ 64 * n := by omega
  have hn : n ≤ 1000 := by omega
  have HH : Hid (isWords w a n cap l) := h
  have HO : Hid (okP (N : Int) l = true) := hok
  clear h hok hl hNl hln
  go_enter Tryz.func5, Tryz.ntmps5
  go_wp2_with (first | (go_at_call 28; refine (validPacked_any _ (N : Int) a n cap l (HH.out.below ((Below.refl _ _).alloc (Nat.le_refl _) _)) (by omega)).mono ?_; rintro o w1 ⟨rfl, hb0⟩; rw [HO.out]; have hb1 : Below (w.heap.size + 1) (w.alloc (pkC (N : Int) a n cap 27)) w1 := hb0.mono (by simp); obtain ⟨c0, c1, hB⟩ := pk_in hb1) | (at_make; refine make_zeroB _ rfl (.tmp 9) (.tmp 9) rfl _ N rfl rfl rfl (by omega) ?_; intro w2 hrow hg2 hz2))
  have hz1 : w.heap.size + 1 ≤ w1.heap.size := by have := hb1.size; simpa using this
  have hb2 : Below (w.heap.size + 1) (w.alloc (pkC (N : Int) a n cap 27)) w2 := hb1.grown hg2 hz1 (by intro k e; cases e)
  clear hb0 hB c0 c1 hg2 hb1
  generalize hg : w1.heap.size = g at *
  clear hg
  go_loopw [13] (fun i wr => ∃ k : Nat, k ≤ N ∧ i = .int .i64 (k : Int) ∧ rowB wr g N (fun t => if t < k then 48 + lev l t else 0) ∧ Below (w.heap.size + 1) (w.alloc (pkC (N : Int) a n cap 27)) wr ∧ g < wr.heap.size) (fun i _ => N - (intOf i).toNat)
  case atStart => exact ⟨0, Nat.zero_le _, rfl, hrow.of (fun t _ => by simp), hb2, hz2⟩
  case round =>
    clear hrow hb2 hz2
    obtain ⟨k, hk, rfl, hrow, hb, hz⟩ := hrel
    obtain ⟨c0, c1, hB⟩ := pk_in hb
    by_cases hlt : k < N
    · have HZ : Hid (Below (w.heap.size + 1) (w.alloc (pkC (N : Int) a n cap 27)) wr ∧ Below w.heap.size w wr ∧ rowB wr g N (fun t => if t < k then 48 + lev l t else 0)) := ⟨hb, hB, hrow⟩
      have hcy : (wr.alloc (pkC (N : Int) a n cap 27)).cell? ⟨g, k, none⟩ = some (.int .u8 _) := (((Below.refl (g + 1) wr).alloc (by omega) _).cell (p := ⟨g, k, none⟩) (by simp)).trans (hrow.cell k hlt)
      have hfy : (wr.alloc (pkC (N : Int) a n cap 27)).frozen? ⟨g, k, none⟩ = false := (((Below.refl (g + 1) wr).alloc (by omega) _).frozen (p := ⟨g, k, none⟩) (by simp)).trans (hrow.free k hlt)
      have HR : Hid (rowB (wr.alloc (pkC (N : Int) a n cap 27)) g N (fun t => if t < k then 48 + lev l t else 0)) := by
        refine ⟨fun t ht => ?_, fun t ht => ?_⟩
        · exact (((Below.refl (g + 1) wr).alloc (by omega) _).cell (p := ⟨g, t, none⟩) (by simp)).trans (hrow.cell t ht)
        · exact (((Below.refl (g + 1) wr).alloc (by omega) _).frozen (p := ⟨g, t, none⟩) (by simp)).trans (hrow.free t ht)
      have HB2 : Hid (Below (w.heap.size + 1) (w.alloc (pkC (N : Int) a n cap 27)) (wr.alloc (pkC (N : Int) a n cap 27)) ∧ g < (wr.alloc (pkC (N : Int) a n cap 27)).heap.size) := ⟨hb.alloc (by omega) _, by simp; omega⟩
      have hlv := lev_lt l k
      have HC : Hid (∀ W, isWords W a n cap l → Calls Tryz.prog 29 #[pkV (N : Int) a n cap, .int .i64 (k : Int)] W fun o w' => o = .returned (.int .i64 (lev l k : Int)) ∧ w' = W.alloc (pkC (N : Int) a n cap 27)) := fun W hW => levelAt_ok W (N : Int) a n cap l hW k (by omega) (by omega)
      have HL : Hid (∀ t, t < N → t ≠ k → (if t < k then 48 + lev l t else 0) = (if t < k + 1 then 48 + lev l t else 0)) := by
        intro t _ hne
        by_cases h1 : t < k
        · rw [if_pos h1, if_pos (by omega)]
        · rw [if_neg h1, if_neg (by omega)]
      have HK : Hid (((48 + lev l k : Nat) : Int) = ((if k < k + 1 then 48 + lev l k else 0 : Nat) : Int)) := by unfold Hid; rw [if_pos (Nat.lt_succ_self k)]
      clear hb hB hrow
      generalize hLL : lev l k = L at *
      have HLL : Hid (lev l k = L) := hLL
      clear hLL
      generalize hWW : wr.alloc (pkC (N : Int) a n cap 27) = W3 at *
      go_wp2_with (first | (go_at_call 29; refine (HC.out _ (HH.out.below HZ.out.2.1)).mono ?_; rintro o w3 ⟨rfl, rfl⟩; rw [hWW]))
      go_roundw
      case rel =>
        refine ⟨k + 1, by omega, by go_num, HR.out.set' k hlt _ ?_ HL.out, HB2.out.1.setCell (by simp; omega) _, by simpa using HB2.out.2⟩
        have := HK.out
        rw [HLL.out]
        push_cast at this ⊢
        exact this
      case measure => simp [intOf]; omega
    · have hkN : k = N := by omega
      subst hkN
      have hcv := conv_row (w := wr) (g := g) (l := unL l k) (fun t ht => by
        rw [unL_len] at ht
        rw [hrow.cell t ht, if_pos ht]
        simp [unL]) (unL_small l k)
      rw [unL_len] at hcv
      go_wp2
      go_ret
      exact ⟨rfl, hB⟩
theorem unpack_any (w : World) (N : Int) (a : Option Addr) (n cap : Nat) (l : List Nat) (h : isWords w a n cap l) (hn : n ≤ 1048576) :
    Calls Tryz.prog 5 #[pkV N a n cap] w fun o w' => o = .returned (.string (unZ N l)) ∧ Below w.heap.size w w' := by
  cases hok : okP N l
  · have HH : Hid (isWords w a n cap l) := h
    have HO : Hid (okP N l = false) := hok
    have HU : Hid (unZ N l = ⟨#[]⟩) := by unfold Hid unZ; rw [hok]; rfl
    clear h hok
    go_enter Tryz.func5, Tryz.ntmps5
    go_wp2_with (first | (go_at_call 28; refine (validPacked_any _ N a n cap l (HH.out.below ((Below.refl _ _).alloc (Nat.le_refl _) _)) hn).mono ?_; rintro o w1 ⟨rfl, hb0⟩; rw [HO.out]))
    go_ret
    exact ⟨ret_str HU.out.symm, ((Below.refl _ _).alloc (Nat.le_refl _) _).trans (hb0.mono (by simp))⟩
  · obtain ⟨M, rfl⟩ : ∃ M : Nat, N = (M : Int) := ⟨N.toNat, by
      simp only [okP, Bool.and_eq_true, decide_eq_true_eq] at hok
      omega⟩
    have HU : unZ (M : Int) l = strN (unL l M) := by unfold unZ; rw [if_pos hok]; rfl
    rw [HU]
    exact unpack_ok w M a n cap l h hok
theorem specUnpack_any (w : World) (N : Int) (a : Option Addr) (n cap : Nat) (l : List Nat) (h : isWords w a n cap l) :
    Calls Tryz.prog 7 #[pkV N a n cap] w fun o w' => o = .returned (.string (unZ N l)) ∧ Below w.heap.size w w' := by
  cases hok : okP N l
  · have HH : Hid (isWords w a n cap l) := h
    have HO : Hid (okP N l = false) := hok
    have HU : Hid (unZ N l = ⟨#[]⟩) := by unfold Hid unZ; rw [hok]; rfl
    clear h hok
    go_enter Tryz.func7, Tryz.ntmps7
    go_wp2_with (first | (go_at_call 33; refine (l2ok_any _ N a n cap l (HH.out.below ((Below.refl _ _).alloc (Nat.le_refl _) _))).mono ?_; rintro o w1 ⟨rfl, hb0⟩; rw [HO.out]))
    go_ret
    exact ⟨ret_str HU.out.symm, ((Below.refl _ _).alloc (Nat.le_refl _) _).trans (hb0.mono (by simp))⟩
  · obtain ⟨M, rfl⟩ : ∃ M : Nat, N = (M : Int) := ⟨N.toNat, by
      simp only [okP, Bool.and_eq_true, decide_eq_true_eq] at hok
      omega⟩
    have HU : unZ (M : Int) l = strN (unL l M) := by unfold unZ; rw [if_pos hok]; rfl
    rw [HU]
    exact specUnpack_ok w M a n cap l h hok
end Go.Proofs.YtpknchjjfiiaeaaGreatDoor
