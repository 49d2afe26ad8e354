import Derived.Test.YtpknchjjfiiaeaaGreatDoorV20
import Derived.Test.YtpknchjjfiiaeaaGreatDoorV00
import Derived.Lib.OthersKept
namespace Go.Proofs.YtpknchjjfiiaeaaGreatDoor
open Go.RowKit
def dueF (f : Nat → Nat) (i : Nat) : Bool :=
  decide (5 ≤ i) && (f (i - 1) == f (i - 2) && f (i - 2) == f (i - 3) && f (i - 3) == f (i - 4) && f (i - 4) == f (i - 5))
set_option maxHeartbeats 1000000 in
theorem due_any (w : World) (g n cap i : Nat) (f : Nat → Nat) (hrow : rowB w g n f) (hi : i ≤ n) (hn : n ≤ 100000000) :
    Calls Tryz.prog 67 #[.slice (some ⟨g, 0, none⟩) n cap, .int .i64 i] w fun e w' => e = .returned (.bool (dueF f i)) ∧ ∃ q, w' = w.drewN q := by
  by_cases h5 : i < 5
  · have HD : Hid (dueF f i = false) := by simp [dueF, Hid]; omega
    go_enter Tryz.func67, Tryz.ntmps67
    go_wp2
    go_ret
    exact ⟨ret_bool HD.out.symm, 0, rfl⟩
  · obtain ⟨k, rfl⟩ : ∃ k, i = k + 5 := ⟨i - 5, by omega⟩
    have c1 := hrow.cell (k + 4) (by omega)
    have c2 := hrow.cell (k + 3) (by omega)
    have c3 := hrow.cell (k + 2) (by omega)
    have c4 := hrow.cell (k + 1) (by omega)
    have c5 := hrow.cell k (by omega)
    have HD : Hid (dueF f (k + 5) = (f (k + 4) == f (k + 3) && f (k + 3) == f (k + 2) && f (k + 2) == f (k + 1) && f (k + 1) == f k)) := by
      simp [dueF, Hid]
    generalize f (k + 4) = x1 at *
    generalize f (k + 3) = x2 at *
    generalize f (k + 2) = x3 at *
    generalize f (k + 1) = x4 at *
    generalize f k = x5 at *
    clear hrow
    by_cases e1 : x1 = x2
    · have b1 : ((x1 : Int) == (x2 : Int)) = true := by simp; omega
      have E1 : Hid (x1 = x2) := e1
      clear e1
      by_cases e2 : x2 = x3
      · have b2 : ((x2 : Int) == (x3 : Int)) = true := by simp; omega
        have E2 : Hid (x2 = x3) := e2
        clear e2
        by_cases e3 : x3 = x4
        · have b3 : ((x3 : Int) == (x4 : Int)) = true := by simp; omega
          have E3 : Hid (x3 = x4) := e3
          clear e3
          by_cases e4 : x4 = x5
          · have b4 : ((x4 : Int) == (x5 : Int)) = true := by simp; omega
            have E4 : Hid (x4 = x5) := e4
            clear e4
            go_enter Tryz.func67, Tryz.ntmps67
            go_wp2
            go_quiet (fail)
            go_wp2
            go_ret
            exact ⟨ret_bool (by rw [HD.out]; simp [E1.out, E2.out, E3.out, E4.out]), _, rfl⟩
          · have b4 : ((x4 : Int) == (x5 : Int)) = false := by simp; omega
            have E4 : Hid (¬ x4 = x5) := e4
            clear e4
            go_enter Tryz.func67, Tryz.ntmps67
            go_wp2
            go_quiet (fail)
            go_wp2
            go_ret
            exact ⟨ret_bool (by rw [HD.out]; simp [E4.out]), _, rfl⟩
        · have b3 : ((x3 : Int) == (x4 : Int)) = false := by simp; omega
          have E3 : Hid (¬ x3 = x4) := e3
          clear e3
          go_enter Tryz.func67, Tryz.ntmps67
          go_wp2
          go_quiet (fail)
          go_wp2
          go_ret
          exact ⟨ret_bool (by rw [HD.out]; simp [E3.out]), _, rfl⟩
      · have b2 : ((x2 : Int) == (x3 : Int)) = false := by simp; omega
        have E2 : Hid (¬ x2 = x3) := e2
        clear e2
        go_enter Tryz.func67, Tryz.ntmps67
        go_wp2
        go_quiet (fail)
        go_wp2
        go_ret
        exact ⟨ret_bool (by rw [HD.out]; simp [E2.out]), _, rfl⟩
    · have b1 : ((x1 : Int) == (x2 : Int)) = false := by simp; omega
      have E1 : Hid (¬ x1 = x2) := e1
      clear e1
      go_enter Tryz.func67, Tryz.ntmps67
      go_wp2
      go_quiet (fail)
      go_wp2
      go_ret
      exact ⟨ret_bool (by rw [HD.out]; simp [E1.out]), _, rfl⟩
def lt (s : ByteArray) : List Nat := s.data.toList.map UInt8.toNat
theorem lt_length (s : ByteArray) : (lt s).length = s.size := by simp [lt]
theorem lt_snoc (s : ByteArray) (k : Nat) (h : k < s.size) : (lt s).take (k + 1) = (lt s).take k ++ [s[k].toNat] := by
  unfold lt; rw [← List.map_take, take_snoc s k h]; simp [List.map_take]
theorem lt_isL {s : ByteArray} {m : Int} (h : okT s m = true) : ∀ x ∈ lt s, M.isL x := by
  intro x hx
  unfold okT at h; rw [Bool.and_eq_true] at h
  unfold lt at hx
  rw [List.mem_map] at hx
  obtain ⟨c, hc, rfl⟩ := hx
  exact okC_val (List.all_eq_true.1 h.2 c hc)
theorem isL_lt {l : List Nat} (h : ∀ x ∈ l, M.isL x) : ∀ x ∈ l, x < 256 := by
  intro x hx
  rcases h x hx with rfl | rfl <;> decide
theorem strN_lt (s : ByteArray) : strN (lt s) = s := by
  unfold strN lt
  rw [List.map_map]
  have : (UInt8.ofNat ∘ UInt8.toNat) = id := by funext c; simp
  rw [this]; simp
theorem getD_snoc_lt (l : List Nat) (a j : Nat) (h : j < l.length) : (l ++ [a]).getD j 0 = l.getD j 0 := by simp [List.getD, List.getElem?_append_left h]
theorem getD_snoc_eq (l : List Nat) (a j : Nat) (h : j = l.length) : (l ++ [a]).getD j 0 = a := by subst h; simp [List.getD]
theorem due_trail (l : List Nat) : dueF (fun t => l.getD t 0) l.length = decide (5 ≤ (M.trail l).2) := by
  by_cases h5 : 5 ≤ l.length
  · have ne : ∀ l : List Nat, 1 ≤ l.length → l ≠ [] := by intro l h e; simp [e] at h
    obtain ⟨l1, e, rfl⟩ := M.snoc_cases l (ne _ (by omega))
    simp only [List.length_append, List.length_singleton] at h5
    obtain ⟨l2, d, rfl⟩ := M.snoc_cases l1 (ne _ (by omega))
    simp only [List.length_append, List.length_singleton] at h5
    obtain ⟨l3, c, rfl⟩ := M.snoc_cases l2 (ne _ (by omega))
    simp only [List.length_append, List.length_singleton] at h5
    obtain ⟨l4, b, rfl⟩ := M.snoc_cases l3 (ne _ (by omega))
    simp only [List.length_append, List.length_singleton] at h5
    obtain ⟨l5, a, rfl⟩ := M.snoc_cases l4 (ne _ (by omega))
    rw [Bool.eq_iff_iff, decide_eq_true_iff, M.trail5]
    simp only [dueF, List.length_append, List.length_singleton]
    have g1 : (l5 ++ [a] ++ [b] ++ [c] ++ [d] ++ [e]).getD (l5.length + 1 + 1 + 1 + 1 + 1 - 1) 0 = e := getD_snoc_eq _ _ _ (by simp)
    have g2 : (l5 ++ [a] ++ [b] ++ [c] ++ [d] ++ [e]).getD (l5.length + 1 + 1 + 1 + 1 + 1 - 2) 0 = d := by
      rw [getD_snoc_lt _ _ _ (by simp)]; exact getD_snoc_eq _ _ _ (by simp)
    have g3 : (l5 ++ [a] ++ [b] ++ [c] ++ [d] ++ [e]).getD (l5.length + 1 + 1 + 1 + 1 + 1 - 3) 0 = c := by
      rw [getD_snoc_lt _ _ _ (by simp), getD_snoc_lt _ _ _ (by simp)]; exact getD_snoc_eq _ _ _ (by simp)
    have g4 : (l5 ++ [a] ++ [b] ++ [c] ++ [d] ++ [e]).getD (l5.length + 1 + 1 + 1 + 1 + 1 - 4) 0 = b := by
      rw [getD_snoc_lt _ _ _ (by simp), getD_snoc_lt _ _ _ (by simp), getD_snoc_lt _ _ _ (by simp)]; exact getD_snoc_eq _ _ _ (by simp)
    have g5 : (l5 ++ [a] ++ [b] ++ [c] ++ [d] ++ [e]).getD (l5.length + 1 + 1 + 1 + 1 + 1 - 5) 0 = a := by
      rw [getD_snoc_lt _ _ _ (by simp), getD_snoc_lt _ _ _ (by simp), getD_snoc_lt _ _ _ (by simp), getD_snoc_lt _ _ _ (by simp)]; exact getD_snoc_eq _ _ _ (by simp)
    rw [g1, g2, g3, g4, g5]
    simp [and_assoc]
  · have := M.trail_le l
    rw [Bool.eq_iff_iff, decide_eq_true_iff]
    simp [dueF]; omega
theorem ownsB.drewN {w : World} {B : Nat} {v : Value} {l : List Nat} (h : ownsB w B v l) (q : Nat) : ownsB (w.drewN q) B v l := by
  induction q generalizing w with
  | zero => exact h
  | succ q ih => exact ih (World.ownsRow.drew h)
theorem ret_tup {a b : ByteArray} {x y : Int} (h : (a, x) = (b, y)) : Ending.returned (.tuple #[.string a, .int .i64 x]) = .returned (.tuple #[.string b, .int .i64 y]) := by cases h; rfl
/-- what Destuff answers -/
def destZ (s : ByteArray) : ByteArray × Int := if okT s 4000 = true then (strN (M.dsGo (lt s) 0 [] (0, 0)).1, (M.dsGo (lt s) 0 [] (0, 0)).2) else (⟨#[]⟩, -2)
theorem lt_at (s : ByteArray) (k : Nat) (h : k < s.size) (h' : k < (lt s).length) : (lt s)[k] = s[k].toNat := by simp only [lt, List.getElem_map]; rfl
theorem rowB.below {B : Nat} {w w' : World} {g n : Nat} {f : Nat → Nat} (h : rowB w g n f) (hb : Below B w w') (hg : g < B) : rowB w' g n f :=
  ⟨fun t ht => (hb.cell (by exact hg)).trans (h.cell t ht), fun t ht => (hb.frozen (by exact hg)).trans (h.free t ht)⟩
theorem bytesRow_at (s : ByteArray) (cap t : Nat) (h : t < s.size) : (bytesRow s cap)[t]? = some (.int .u8 ((lt s).getD t 0 : Int)) := by
  have hd : t < s.data.size := h
  unfold bytesRow
  rw [Array.getElem?_append_left (by simpa using hd)]
  simp only [lt, List.getD, List.getElem?_map, Array.getElem?_map, Array.getElem?_toList]
  rw [Array.getElem?_eq_getElem hd]
  rfl
theorem rowB_bytes (w : World) (s : ByteArray) (cap : Nat) : rowB (w.alloc (.cells (bytesRow s cap) 5 ((bytesRow s cap).size, (bytesRow s cap).size + 1))) w.heap.size s.size (fun t => (lt s).getD t 0) := by
  refine ⟨fun t ht => ?_, fun t ht => ?_⟩
  · rw [World.cell?_alloc_mark, bytesRow_at s cap t ht]
  · have h1 : (w.alloc (.cells (bytesRow s cap) 5 ((bytesRow s cap).size, (bytesRow s cap).size + 1))).heap[w.heap.size]? = _ := heap_alloc_new w _
    have h2 : s.size ≤ (bytesRow s cap).size := by unfold bytesRow; simp
    simp only [World.frozen?, h1]
    simp
    omega
theorem Tryz.info3 : (Tryz.prog.info? 3).map (fun i => (i.zero, i.size, i.bytes)) = some (some (.int .i64 0), 1, 8) := by kernel_rfl
/-- the row of letters, cell by cell -/
structure rowI (w : World) (g n : Nat) (f : Nat → Int) : Prop where
  cell : ∀ t, t < n → w.cell? ⟨g, t, none⟩ = some (.int .i64 (f t))
  free : ∀ t, t < n → w.frozen? ⟨g, t, none⟩ = false
theorem rowI.of {w : World} {g n : Nat} {f f' : Nat → Int} (h : rowI w g n f) (he : ∀ t, t < n → f t = f' t) : rowI w g n f' :=
  ⟨fun t ht => by rw [← he t ht]; exact h.cell t ht, h.free⟩
theorem rowI.set {w : World} {g n : Nat} {f f' : Nat → Int} (h : rowI w g n f) (t0 : Nat) (ht0 : t0 < n) (x : Int) (hx : x = f' t0) (he : ∀ t, t < n → t ≠ t0 → f t = f' t) : rowI (w.setCell ⟨g, t0, none⟩ (.int .i64 x)).drew g n f' := by
  refine ⟨fun t ht => ?_, fun t ht => ?_⟩
  · rw [World.cell?_drew]
    by_cases e : t = t0
    · subst e
      rw [World.cell?_setCell_same _ _ _ (h.cell t ht), hx]
    · rw [World.cell?_setCell_other _ _ _ _ (by intro hh; exact e (by simpa using hh.symm)), h.cell t ht, he t ht e]
  · rw [World.frozen?_drew, World.frozen?_setCell]
    exact h.free t ht
/-- the slice v holds the letters l -/
structure isInts (w : World) (a : Option Addr) (n cap : Nat) (l : List Int) : Prop where
  len : n = l.length
  cap : n ≤ cap
  small : ∀ x ∈ l, -9223372036854775808 ≤ x ∧ x ≤ 9223372036854775807
  cells : l ≠ [] → ∃ g off, a = some ⟨g, off, none⟩ ∧ ∀ j (h : j < l.length), w.cell? ⟨g, off + j, none⟩ = some (.int .i64 l[j])
theorem isInts.below {w w' : World} {a : Option Addr} {n cap : Nat} {l : List Int} (h : isInts w a n cap l) (hb : Below w.heap.size w w') : isInts w' a n cap l := by
  refine ⟨h.len, h.cap, h.small, fun hl => ?_⟩
  obtain ⟨g, off, ha, hc⟩ := h.cells hl
  refine ⟨g, off, ha, fun j hj => ?_⟩
  have h1 := hc j hj
  rw [hb.cell (World.block_lt_of_cell? w _ h1)]
  exact h1
theorem rowI.set' {w : World} {g n : Nat} {f f' : Nat → Int} (h : rowI w g n f) (t0 : Nat) (ht0 : t0 < n) (x : Int) (hx : x = f' t0) (he : ∀ t, t < n → t ≠ t0 → f t = f' t) : rowI (w.setCell ⟨g, t0, none⟩ (.int .i64 x)) g n f' :=
  ⟨fun t ht => by have := (h.set t0 ht0 x hx he).cell t ht; rwa [World.cell?_drew] at this, fun t ht => by rw [World.frozen?_setCell]; exact h.free t ht⟩
/-- the runs fit into the room -/
def fitGo : List Int → Int → Bool
  | [], _ => true
  | x :: xs, room => decide (1 ≤ x) && decide (x ≤ room) && fitGo xs (room - x)
theorem fit_cons {x : Int} {xs : List Int} {room : Int} : fitGo (x :: xs) room = true ↔ (1 ≤ x ∧ x ≤ room ∧ fitGo xs (room - x) = true) := by
  simp [fitGo, and_assoc]
/-- where the look at the runs stands behind k of them -/
structure ftAt (l : List Int) (k : Nat) (s : Int) : Prop where
  eq : fitGo (l.drop k) (4000 - s) = fitGo l 4000
  lo : 0 ≤ s
  hi : s ≤ 4000
  sum : s = ((l.take k).map Int.toNat).sum
  pos : ∀ x ∈ l.take k, 1 ≤ x
theorem ftAt.zero (l : List Int) : ftAt l 0 0 := ⟨by simp, by decide, by decide, by simp, fun x hx => by simp at hx⟩
theorem ftAt.bad {l : List Int} {k : Nat} {s : Int} (h : ftAt l k s) (hk : k < l.length) (hb : l[k] < 1 ∨ 4000 - s < l[k]) : fitGo l 4000 = false := by
  rw [← h.eq, List.drop_eq_getElem_cons hk]
  simp only [fitGo]
  rcases hb with hb | hb
  · rw [show decide (1 ≤ l[k]) = false from decide_eq_false (by omega)]; rfl
  · rw [show decide (l[k] ≤ 4000 - s) = false from decide_eq_false (by omega)]; simp
theorem ftAt.next {l : List Int} {k : Nat} {s : Int} (h : ftAt l k s) (hk : k < l.length) (h1 : 1 ≤ l[k]) (h2 : l[k] ≤ 4000 - s) : ftAt l (k + 1) (s + l[k]) := by
  refine ⟨?_, by have := h.lo; omega, by omega, ?_, ?_⟩
  · rw [← h.eq, List.drop_eq_getElem_cons hk]
    simp only [fitGo]
    rw [show decide (1 ≤ l[k]) = true from decide_eq_true h1, show decide (l[k] ≤ 4000 - s) = true from decide_eq_true h2, show 4000 - s - l[k] = 4000 - (s + l[k]) by omega]
    simp
  · rw [List.take_succ_eq_append_getElem hk, List.map_append, List.sum_append, h.sum]
    simp
    omega
  · intro x hx
    rw [List.take_succ_eq_append_getElem hk, List.mem_append] at hx
    rcases hx with hx | hx
    · exact h.pos x hx
    · simp at hx; rw [hx]; exact h1
theorem ftAt.fin {l : List Int} {k : Nat} {s : Int} (h : ftAt l k s) (hk : l.length ≤ k) : fitGo l 4000 = true := by
  rw [← h.eq, List.drop_eq_nil_of_le hk]; rfl
theorem rt_snoc (x : Nat) : ∀ (xs : List Nat) (c : Nat), c < 2 → M.rtGo c (xs ++ [x]) = M.rtGo c xs ++ List.replicate x (48 + (c + xs.length) % 2) := by
  intro xs
  induction xs with
  | nil => intro c hc; simp [M.rtGo]; omega
  | cons y ys ih =>
    intro c hc
    show List.replicate y (48 + c) ++ M.rtGo (1 - c) (ys ++ [x]) = (List.replicate y (48 + c) ++ M.rtGo (1 - c) ys) ++ _
    rw [ih (1 - c) (by omega), List.append_assoc, show (1 - c + ys.length) % 2 = (c + (y :: ys).length) % 2 by simp; omega]
/-- what DestuffRuns answers -/
def drZ (first : Int) (l : List Int) : ByteArray × Int := if (first = 0 ∨ first = 1) ∧ fitGo l 4000 = true then (strN (M.drGo (l.map Int.toNat) first.toNat 0 0 []).1, (M.drGo (l.map Int.toNat) first.toNat 0 0 []).2) else (⟨#[]⟩, -2)
theorem lt_strN (l : List Nat) (h : ∀ x ∈ l, x < 256) : lt (strN l) = l := by
  unfold lt strN
  simp only [List.map_map]
  conv => rhs; rw [← List.map_id l]
  apply List.map_congr_left
  intro x hx
  have := h x hx
  simp only [Function.comp, id]
  rw [UInt8.toNat_ofNat']
  omega
theorem strN_ok (l : List Nat) (h : ∀ x ∈ l, M.isL x) (hl : l.length ≤ 4000) : okT (strN l) 4000 = true := by
  unfold okT
  rw [Bool.and_eq_true, decide_eq_true_iff]
  refine ⟨?_, ?_⟩
  · have : (strN l).size = l.length := by simp [strN, ByteArray.size]
    omega
  · rw [List.all_eq_true]
    intro c hc
    unfold strN at hc
    simp only [List.mem_map] at hc
    obtain ⟨x, hx, rfl⟩ := hc
    rcases h x hx with h | h <;> simp [h, okC]
theorem dest_runs (c : Nat) (hc : c < 2) (xs : List Nat) (h1 : ∀ x ∈ xs, 1 ≤ x) (h2 : xs.sum ≤ 4000) : destZ (strN (M.rtGo c xs)) = (strN (M.drGo xs c 0 0 []).1, (M.drGo xs c 0 0 []).2) := by
  have hL := M.rt_isL xs c hc
  unfold destZ
  rw [if_pos (strN_ok _ hL (by rw [M.rt_len]; exact h2)), lt_strN _ (isL_lt hL), M.ds_runs xs c 0 0 [] (0, 0) hc h1 (by show ¬ 48 + c = 0; omega) (by simp)]
def wv (l : List Nat) : List Value := l.map (fun x : Nat => Value.int .u64 (x : Int))
theorem wv_at (l : List Nat) (j : Nat) (h : j < l.length) : (wv l)[j]? = some (Value.int .u64 (l[j] : Int)) := by simp [wv, h]
/-- the slice v is a row of letters that the call itself made, in blocks from B on -/
def ownsW (w : World) (B : Nat) (v : Value) (l : List Nat) : Prop := w.ownsRow B 64 1 v l.length (wv l)
/-- one letter put behind a row of letters that the call itself made -/
theorem app_word {ops : Array Oper} {rest : List Oper} {o : Oper} {a : Act} {Q : Exit → Act → World → Prop} (w0 wr : World) (hgd : o.guard = none) (s x : Operand)
    (ho : o.op = .call { callee := .builtin .append, args := #[s, x], argTypes := #[25, 25] })
    (B : Nat) (v : Value) (l : List Nat) (c : Nat) (ci : Int) (hci : ci = (c : Int)) (hs : a.eval s = v) (hown : ownsW wr B v l)
    (hx : a.eval x = .slice (some ⟨wr.heap.size, 0, none⟩) 1 1) (hlen : l.length ≤ 1000000) (hB : B ≤ wr.heap.size) (hbel : Below B w0 wr)
    (h : ∀ v' w', ownsW w' B v' (l ++ [c]) → Below B w0 w' → B ≤ w'.heap.size → wpList Tryz.prog ops Q rest (a.put o.dst v') w') :
    wpList Tryz.prog ops Q (o :: rest) a (wr.alloc (.cells #[.int .u64 ci] 64)) := by
  subst hci
  obtain ⟨i0, hi, hz0, hz1, hz2⟩ := info_parts Tryz.info64
  refine wpList_append_own _ hgd s x 25 ho B 64 i0 (.int .u64 0) 1 8 Tryz.underlying25 hi hz0 hz1 hz2 rfl (by decide) v l.length (wv l) hs (World.ownsRow.alloc hown _) ⟨wr.heap.size, 0, none⟩ 1 1 [.int .u64 (c : Int)] hx rfl ?_ ?_ ?_ ?_ ?_ ?_
  · intro j u hj
    match j, hj with
    | 0, hj => simp at hj; subst hj; simp [Addr.add]
  · intro u hu; simp at hu; subst hu; rfl
  · unfold maxLen; omega
  · omega
  · simp; omega
  · intro v' w' ho' hg _
    have hr : ∀ k, v.ownBlock = some k → B ≤ k := fun k hk => (World.ownsRow.lt hown k hk).1
    refine h v' w' ?_ ((hbel.alloc hB _).grown hg (by simp; omega) hr) (Nat.le_trans (by simp; omega) hg.size)
    have e1 : wv (l ++ [c]) = wv l ++ [.int .u64 (c : Int)] := by simp [wv]
    unfold ownsW
    rw [e1, List.length_append]
    exact ho'
theorem ownsW.kind {w : World} {B : Nat} {v : Value} {l : List Nat} (h : ownsW w B v l) : ∀ g, v.ownBlock = some g → ∃ c fz, w.heap[g]? = some (.cells c 64 fz) := by
  intro g hg
  obtain ⟨_, ⟨rfl, _⟩ | ⟨g', cap, cur, rfl, _, hh, _⟩⟩ := h
  · simp [Value.ownBlock] at hg
  · simp [Value.ownBlock] at hg
    subst hg
    exact ⟨cur, _, hh⟩
/-- one letter put behind a row of letters that the call itself made; all other blocks stand -/
theorem app_word2 {ops : Array Oper} {rest : List Oper} {o : Oper} {a : Act} {Q : Exit → Act → World → Prop} (w0 wr : World) (hgd : o.guard = none) (s x : Operand)
    (ho : o.op = .call { callee := .builtin .append, args := #[s, x], argTypes := #[25, 25] })
    (B : Nat) (v : Value) (l : List Nat) (c : Nat) (ci : Int) (hci : ci = (c : Int)) (hs : a.eval s = v) (hown : ownsW wr B v l)
    (hx : a.eval x = .slice (some ⟨wr.heap.size, 0, none⟩) 1 1) (hlen : l.length ≤ 1000000) (hB : B ≤ wr.heap.size) (hbel : Below B w0 wr)
    (h : ∀ v' w', ownsW w' B v' (l ++ [c]) → Below B w0 w' → Lib.OthersKept 64 none wr w' → B ≤ w'.heap.size → wpList Tryz.prog ops Q rest (a.put o.dst v') w') :
    wpList Tryz.prog ops Q (o :: rest) a (wr.alloc (.cells #[.int .u64 ci] 64)) := by
  subst hci
  obtain ⟨i0, hi, hz0, hz1, hz2⟩ := info_parts Tryz.info64
  refine wpList_append_own _ hgd s x 25 ho B 64 i0 (.int .u64 0) 1 8 Tryz.underlying25 hi hz0 hz1 hz2 rfl (by decide) v l.length (wv l) hs (World.ownsRow.alloc hown _) ⟨wr.heap.size, 0, none⟩ 1 1 [.int .u64 (c : Int)] hx rfl ?_ ?_ ?_ ?_ ?_ ?_
  · intro j u hj
    match j, hj with
    | 0, hj => simp at hj; subst hj; simp [Addr.add]
  · intro u hu; simp at hu; subst hu; rfl
  · unfold maxLen; omega
  · omega
  · simp; omega
  · intro v' w' ho' hg _
    have hr : ∀ k, v.ownBlock = some k → B ≤ k := fun k hk => (World.ownsRow.lt hown k hk).1
    refine h v' w' ?_ ((hbel.alloc hB _).grown hg (by simp; omega) hr) (((Lib.OthersKept.refl 64 none wr).alloc _).grown hg ?_) (Nat.le_trans (by simp; omega) hg.size)
    · have e1 : wv (l ++ [c]) = wv l ++ [.int .u64 (c : Int)] := by simp [wv]
      unfold ownsW
      rw [e1, List.length_append]
      exact ho'
    · intro g hg'
      exact ownsW.kind (B := B) (l := l) (World.ownsRow.alloc hown _) g hg'
theorem own_nilW (w : World) (B : Nat) (hB : B ≤ w.heap.size) : ownsW (w.alloc (.cells #[] 64)) B (.slice (some ⟨w.heap.size, 0, none⟩) 0 0) [] :=
  World.ownsRow_made w #[] 0 hB (by decide) rfl
theorem ownsW.open {w : World} {B : Nat} {v : Value} {l : List Nat} (h : ownsW w B v l) (hl : l ≠ []) :
    ∃ g cap, v = .slice (some ⟨g, 0, none⟩) l.length cap ∧ B ≤ g ∧ g < w.heap.size ∧ l.length ≤ cap ∧ cap ≤ maxLen ∧ rowW w g l.length (fun t => l.getD t 0) := by
  have h' := h
  obtain ⟨_, h1 | ⟨g, cap, cur, rfl, hb, hh, hc, hm, hsz, htk⟩⟩ := h
  · exact absurd (List.length_eq_zero_iff.1 h1.2) hl
  · refine ⟨g, cap, rfl, hb, (World.ownsRow.lt h' g rfl).2, hc, hm, fun t ht => ?_, fun t ht => ?_⟩
    · rw [World.ownsRow.cellAt h' t (by omega), wv_at l t ht]; simp [List.getD, ht]
    · exact World.ownsRow.frozenAt h' t
theorem ownsW.stored {w : World} {B g cap : Nat} {l : List Nat} (h : ownsW w B (.slice (some ⟨g, 0, none⟩) l.length cap) l) (j x : Nat) : ownsW (w.setCell ⟨g, j, none⟩ (.int .u64 (x : Int))) B (.slice (some ⟨g, 0, none⟩) l.length cap) (l.set j x) := by
  have := (World.ownsRow.stored h j (.int .u64 (x : Int))).1
  unfold ownsW
  have e : wv (l.set j x) = (wv l).set j (.int .u64 (x : Int)) := by simp [wv, List.map_set]
  rw [e, List.length_set]
  exact this
/-- the bit at i, 0 behind the end -/
def fb (s : ByteArray) (i : Nat) : Nat := if h : i < s.size then (if s[i].toNat = 49 then 1 else 0) else 0
/-- the first j bits of word q -/
def PV (s : ByteArray) (q : Nat) : Nat → Nat
  | 0 => 0
  | j + 1 => 2 * PV s q j + fb s (64 * q + j)
theorem fb_lt (s : ByteArray) (i : Nat) : fb s i < 2 := by
  unfold fb
  split
  · split <;> decide
  · decide
theorem PV_lt (s : ByteArray) (q j : Nat) : PV s q j < 2 ^ j := by
  induction j with
  | zero => simp [PV]
  | succ j ih =>
    have := fb_lt s (64 * q + j)
    simp only [PV, Nat.pow_succ]
    omega
def pkL (s : ByteArray) (m : Nat) : List Nat := (List.range m).map fun q => PV s q 64
theorem pkL_succ (s : ByteArray) (m : Nat) : pkL s (m + 1) = pkL s m ++ [PV s m 64] := by simp [pkL, List.range_succ]
theorem pkL_len (s : ByteArray) (m : Nat) : (pkL s m).length = m := by simp [pkL]
theorem ownsW.words {w : World} {B : Nat} {ao : Option Addr} {n cap : Nat} {l : List Nat} (h : ownsW w B (.slice ao n cap) l) (hn : n = l.length) (hs : ∀ x ∈ l, x < 18446744073709551616) (hc : n ≤ cap) : isWords w ao n cap l := by
  refine ⟨hn, hc, hs, fun hl => ?_⟩
  obtain ⟨g, cap', e, _, _, _, _, hr⟩ := h.open hl
  cases e
  refine ⟨g, 0, rfl, fun j hj => ?_⟩
  rw [Nat.zero_add, hr.cell j hj, getD_at l j hj]
theorem app_wordb {ops : Array Oper} {rest : List Oper} {o : Oper} {a : Act} {Q : Exit → Act → World → Prop} (w0 wr : World) (hgd : o.guard = none) (s x : Operand)
    (ho : o.op = .call { callee := .builtin .append, args := #[s, x], argTypes := #[25, 25] })
    (B : Nat) (v : Value) (l : List Nat) (c : Nat) (ci : Int) (hci : ci = (c : Int)) (hs : a.eval s = v) (hown : ownsW wr B v l)
    (hx : a.eval x = .slice (some ⟨wr.heap.size, 0, none⟩) 1 1) (hlen : l.length ≤ 1000000) (hB : B ≤ wr.heap.size) (hbel : Below B w0 wr)
    (h : ∀ v' w', ownsW w' B v' (l ++ [c]) → Below B w0 w' → B ≤ w'.heap.size → wpList Tryz.prog ops Q rest (a.put o.dst v') w') :
    wpList Tryz.prog ops Q (o :: rest) a (wr.alloc (.cells #[.int .u64 ci] 64)) :=
  app_word w0 wr hgd s x ho B v l c ci hci hs hown hx hlen hB hbel h
theorem ownsW.otherBlock {w w' : World} {B : Nat} {v : Value} {l : List Nat} (h : ownsW w B v l) (hk : ∀ g, v.ownBlock = some g → w'.heap[g]? = w.heap[g]?) : ownsW w' B v l := by
  obtain ⟨h1, h2 | ⟨g, cap, cur, rfl, hb, hh, rest⟩⟩ := h
  · exact ⟨h1, .inl h2⟩
  · exact ⟨h1, .inr ⟨g, cap, cur, rfl, hb, (hk g (by simp [Value.ownBlock])).trans hh, rest⟩⟩
theorem ownsW.setCellO {w : World} {B : Nat} {v : Value} {l : List Nat} (h : ownsW w B v l) (b j : Nat) (x : Value) (hb : b < B) : ownsW (w.setCell ⟨b, j, none⟩ x) B v l :=
  h.otherBlock fun g hg => heap_setCell_other w ⟨b, j, none⟩ g x (by have := (World.ownsRow.lt h g hg).1; show g ≠ b; omega)
theorem PV_half (s : ByteArray) (q j : Nat) (h : j < 64) : PV s q j < 9223372036854775808 :=
  Nat.lt_of_lt_of_le (PV_lt s q j) (Nat.pow_le_pow_right (by decide) (by omega : j ≤ 63))
theorem fb_one {s : ByteArray} {i : Nat} (h : i < s.size) (hh : (s[i].toNat : Int) = 49) : fb s i = 1 := by
  unfold fb; rw [dif_pos h, if_pos (by omega)]
theorem fb_zero {s : ByteArray} {i : Nat} (h : i < s.size) (hh : ¬ (s[i].toNat : Int) = 49) : fb s i = 0 := by
  unfold fb; rw [dif_pos h, if_neg (by omega)]
theorem fb_end {s : ByteArray} {i : Nat} (h : ¬ i < s.size) : fb s i = 0 := by
  unfold fb; rw [dif_neg h]
theorem pk0_in {w wr : World} (hb : Below (w.heap.size + 1) (w.alloc (pkC 0 none 0 0 27)) wr) :
    wr.cell? ⟨w.heap.size, 0, none⟩ = some (.int .i64 0) ∧ wr.cell? ⟨w.heap.size, 1, none⟩ = some (.slice none 0 0) ∧ wr.frozen? ⟨w.heap.size, 0, none⟩ = false ∧ wr.frozen? ⟨w.heap.size, 1, none⟩ = false ∧ Below w.heap.size w wr := by
  refine ⟨(hb.cell (p := ⟨w.heap.size, 0, none⟩) (by simp)).trans (by simp), (hb.cell (p := ⟨w.heap.size, 1, none⟩) (by simp)).trans (by simp), (hb.frozen (p := ⟨w.heap.size, 0, none⟩) (by simp)).trans (by simp), (hb.frozen (p := ⟨w.heap.size, 1, none⟩) (by simp)).trans (by simp), ?_⟩
  exact ((Below.refl _ _).alloc (Nat.le_refl _) _).trans (hb.mono (by omega))
set_option maxHeartbeats 2000000 in
set_option maxRecDepth 20000 in
theorem specPack_ok (s : ByteArray) (w : World) (hs : okT s 4000 = true) (hz : s.size ≤ 4000) :
    Calls Tryz.prog 8 #[.string s] w fun o w' => ∃ ao cap, o = .returned (pkV (s.size : Int) ao ((s.size + 63) / 64) cap) ∧ ownsW w' (w.heap.size + 1) (.slice ao ((s.size + 63) / 64) cap) (pkL s ((s.size + 63) / 64)) ∧ Below w.heap.size w w' := by
  have HS : Hid (okT s 4000 = true) := hs
  clear hs
  go_enter Tryz.func8, Tryz.ntmps8
  go_wp2_with (first | (go_at_call 35; refine (okBits_any _ _ _ (by unfold maxLen; omega)).mono ?_; rw [HS.out]; rintro o w1 ⟨rfl, rfl⟩))
  have hown : ownsW ((w.alloc (pkC 0 none 0 0 27)).alloc (.cells #[] 64)) (w.heap.size + 1) (.slice (some ⟨w.heap.size + 1, 0, none⟩) 0 0) (pkL s 0) := by
    have := own_nilW (w.alloc (pkC 0 none 0 0 27)) (w.heap.size + 1) (by simp)
    simpa [pkL] using this
  have hb0 : Below (w.heap.size + 1) (w.alloc (pkC 0 none 0 0 27)) ((w.alloc (pkC 0 none 0 0 27)).alloc (.cells #[] 64)) := (Below.refl _ _).alloc (by simp) _
  go_loopw [3, 4] (fun v i wr => ∃ (k : Nat) (ao : Option Addr) (cp : Nat), v = .slice ao k cp ∧ k ≤ (s.size + 63) / 64 ∧ i = .int .i64 (k : Int) ∧ ownsW wr (w.heap.size + 1) v (pkL s k) ∧ Below (w.heap.size + 1) (w.alloc (pkC 0 none 0 0 27)) wr ∧ w.heap.size + 1 ≤ wr.heap.size) (fun _ i _ => (s.size + 63) / 64 - (intOf i).toNat)
  case atStart => exact ⟨0, _, _, rfl, Nat.zero_le _, rfl, hown, hb0, by simp⟩
  case round =>
    clear hown hb0
    obtain ⟨k, ao, cp, rfl, hk, rfl, hown, hb, hzz⟩ := hrel
    have HZ : Hid (Below (w.heap.size + 1) (w.alloc (pkC 0 none 0 0 27)) wr ∧ ownsW wr (w.heap.size + 1) (.slice ao k cp) (pkL s k)) := ⟨hb, hown⟩
    clear hb hown
    by_cases hlt : 64 * k < s.size
    · have hd : decide (64 * (k : Int) < (s.size : Int)) = true := by simp; omega
      go_wp2
      go_loopw [5, 6] (fun v i V => ∃ j : Nat, j ≤ 64 ∧ i = .int .i64 (j : Int) ∧ v = .int .u64 (PV s k j : Int) ∧ V = wr) (fun _ i _ => 64 - (intOf i).toNat)
      case atStart => exact ⟨0, by decide, rfl, rfl, rfl⟩
      case round =>
        obtain ⟨j, hj, rfl, rfl, rfl⟩ := hrel
        by_cases hj2 : j < 64
        · have hx := PV_half s k j hj2
          have HP : Hid (PV s k (j + 1) = 2 * PV s k j + fb s (64 * k + j)) := rfl
          generalize PV s k j = x at *
          by_cases hi : 64 * k + j < s.size
          · by_cases h1 : (s[64 * k + j].toNat : Int) = 49
            · have HF : Hid (fb s (64 * k + j) = 1) := fb_one hi h1
              go_wp2
              go_roundw
              case rel => exact ⟨j + 1, by omega, by go_num, by rw [HP.out, HF.out]; go_num, trivial⟩
              case measure => simp [intOf]; omega
            · have HF : Hid (fb s (64 * k + j) = 0) := fb_zero hi h1
              have h1' : ((s[64 * k + j].toNat : Int) == 49) = false := by simpa using h1
              clear h1
              go_wp2
              go_roundw
              case rel => exact ⟨j + 1, by omega, by go_num, by rw [HP.out, HF.out]; go_num, trivial⟩
              case measure => simp [intOf]; omega
          · have HF : Hid (fb s (64 * k + j) = 0) := fb_end hi
            go_wp2
            go_roundw
            case rel => exact ⟨j + 1, by omega, by go_num, by rw [HP.out, HF.out]; go_num, trivial⟩
            case measure => simp [intOf]; omega
        · have hj3 : j = 64 := by omega
          subst hj3
          have HL : Hid (pkL s (k + 1) = pkL s k ++ [PV s k 64] ∧ (pkL s k).length = k) := ⟨pkL_succ s k, pkL_len s k⟩
          generalize PV s k 64 = x at *
          go_wp2_with (first | (at_builtin; refine app_wordb (w.alloc (pkC 0 none 0 0 27)) wr rfl (.tmp 43) (.tmp 45) rfl (w.heap.size + 1) _ (pkL s k) x _ rfl rfl HZ.out.2 rfl (by have := HL.out.2; omega) hzz HZ.out.1 ?_))
          intro v2 w2 ho2 hb2 hz2
          have ho3 : ownsW w2 (w.heap.size + 1) v2 (pkL s (k + 1)) := by rw [HL.out.1]; exact ho2
          obtain ⟨g5, cp5, e5, -, -, -, -, -⟩ := ho3.open (by intro e; have := pkL_len s (k + 1); rw [e] at this; simp at this)
          rw [pkL_len] at e5
          subst e5
          go_wp2
          go_roundw
          case rel => exact ⟨k + 1, _, _, rfl, by omega, by go_num, ho3, hb2, hz2⟩
          case measure => simp [intOf]; omega
    · have hkk : k = (s.size + 63) / 64 := by omega
      subst hkk
      obtain ⟨c0, c1, f0, f1, hB⟩ := pk0_in HZ.out.1
      go_wp2
      refine bodyPost_ret (v := pkV (s.size : Int) ao ((s.size + 63) / 64) cp) (by simp [results, Tryz.results8, go_sem, c0, c1]) rfl ?_
      have H2 := (HZ.out.2.setCellO w.heap.size 0 (.int .i64 (s.size : Int)) (by omega)).setCellO w.heap.size 1 (.slice ao ((s.size + 63) / 64) cp) (by omega)
      exact ⟨ao, cp, rfl, H2, (hB.setCell (p := ⟨_, 0, none⟩) (by simp) _).setCell (p := ⟨_, 1, none⟩) (by simp) _⟩
/-- the runs of the first k letters -/
def rnAt (t : List Nat) (k : Nat) (xs : List Nat) : Prop := M.rtGo 0 xs = t.take k ∧ (∀ x ∈ xs, 1 ≤ x)
theorem rnAt.zero (t : List Nat) : rnAt t 0 [] := ⟨by simp [M.rtGo], by simp⟩
theorem rnAt.sum {t : List Nat} {k : Nat} {xs : List Nat} (h : rnAt t k xs) (hk : k ≤ t.length) : xs.sum = k := by
  have := M.rt_len xs 0
  rw [h.1, List.length_take] at this
  omega
theorem len_le_sum : ∀ (xs : List Nat), (∀ x ∈ xs, 1 ≤ x) → xs.length ≤ xs.sum
  | [], _ => by simp
  | x :: xs, h => by
    have h1 := h x (by simp)
    have := len_le_sum xs (fun y hy => h y (by simp [hy]))
    simp only [List.length_cons, List.sum_cons]
    omega
theorem rnAt.len {t : List Nat} {k : Nat} {xs : List Nat} (h : rnAt t k xs) (hk : k ≤ t.length) : xs.length ≤ k := by
  have := len_le_sum xs h.2
  rw [h.sum hk] at this
  exact this
theorem rnAt.ne {t : List Nat} {k : Nat} {xs : List Nat} (h : rnAt t k xs) (hk : k ≤ t.length) (h0 : 0 < k) : xs ≠ [] := by
  intro e
  subst e
  have := h.sum hk
  simp at this
  omega
/-- the last letter, by how many runs there are -/
theorem rnAt.last {t : List Nat} {k : Nat} {xs : List Nat} (h : rnAt t (k + 1) xs) (hk : k < t.length) : t[k] = 48 + (xs.length - 1) % 2 := by
  obtain ⟨ys, m, rfl⟩ := M.snoc_cases xs (h.ne (by omega) (by omega))
  have e := h.1
  rw [rt_snoc m ys 0 (by decide), M.take_at t k hk] at e
  have hm : 1 ≤ m := h.2 m (by simp)
  obtain ⟨m', rfl⟩ : ∃ m', m = m' + 1 := ⟨m - 1, by omega⟩
  rw [List.replicate_succ', ← List.append_assoc] at e
  have := (List.append_inj' e rfl).2
  simp at this
  rw [← this]
  simp
theorem rnAt.new {t : List Nat} {k : Nat} {xs : List Nat} (h : rnAt t k xs) (hk : k < t.length) (hL : ∀ x ∈ t, M.isL x) (h0 : k = 0 → t[k] = 48) (h1 : ∀ j (hj : j + 1 = k), t[k] ≠ t[j]) : rnAt t (k + 1) (xs ++ [1]) := by
  refine ⟨?_, ?_⟩
  · rw [rt_snoc 1 xs 0 (by decide), h.1, M.take_at t k hk]
    congr 1
    simp only [List.replicate_one, List.cons.injEq, and_true, Nat.zero_add]
    by_cases e : k = 0
    · rw [h0 e]
      have := h.len (by omega)
      have : xs.length = 0 := by omega
      rw [this]
    · obtain ⟨j, rfl⟩ : ∃ j, k = j + 1 := ⟨k - 1, by omega⟩
      have hl := h.last (by omega)
      have hne := h1 j rfl
      have hx := h.ne (by omega) (by omega)
      have hx' : 0 < xs.length := List.length_pos_iff.2 hx
      have hi := hL t[j + 1] (List.getElem_mem _)
      rw [hl] at hne
      unfold M.isL at hi
      generalize t[j + 1] = c at *
      omega
  · intro x hx
    rw [List.mem_append, List.mem_singleton] at hx
    rcases hx with hx | rfl
    · exact h.2 x hx
    · exact Nat.le_refl _
theorem rnAt.same {t : List Nat} {k : Nat} {xs : List Nat} (h : rnAt t (k + 1) xs) (hk : k + 1 < t.length) (h1 : t[k + 1] = t[k]) : rnAt t (k + 2) (xs.set (xs.length - 1) (xs.getD (xs.length - 1) 0 + 1)) := by
  have hl := h.last (by omega)
  obtain ⟨ys, m, rfl⟩ := M.snoc_cases xs (h.ne (by omega) (by omega))
  have es : (ys ++ [m]).set ((ys ++ [m]).length - 1) ((ys ++ [m]).getD ((ys ++ [m]).length - 1) 0 + 1) = ys ++ [m + 1] := by
    simp [List.getD]
  rw [es]
  refine ⟨?_, ?_⟩
  · rw [rt_snoc (m + 1) ys 0 (by decide), List.replicate_succ', ← List.append_assoc, ← rt_snoc m ys 0 (by decide), h.1, M.take_at t (k + 1) hk]
    congr 1
    rw [h1, hl]
    simp
  · intro x hx
    rw [List.mem_append, List.mem_singleton] at hx
    rcases hx with hx | rfl
    · exact h.2 x (by simp [hx])
    · omega
theorem set_snoc (xs : List Nat) : (xs ++ [0]).set xs.length 1 = xs ++ [1] := by
  rw [List.set_append_right _ _ (Nat.le_refl _)]; simp
def iv (l : List Nat) : List Value := l.map (fun x : Nat => Value.int .i64 (x : Int))
theorem iv_at (l : List Nat) (j : Nat) (h : j < l.length) : (iv l)[j]? = some (Value.int .i64 (l[j] : Int)) := by simp [iv, h]
/-- a row of ints of its own -/
def ownsI (w : World) (B : Nat) (v : Value) (l : List Nat) : Prop := w.ownsRow B 3 1 v l.length (iv l)
theorem ownI_nil (w : World) (B : Nat) (hB : B ≤ w.heap.size) : ownsI (w.alloc (.cells #[] 3)) B (.slice (some ⟨w.heap.size, 0, none⟩) 0 0) [] :=
  World.ownsRow_made w #[] 0 hB (by decide) rfl
theorem app_int {ops : Array Oper} {rest : List Oper} {o : Oper} {a : Act} {Q : Exit → Act → World → Prop} (w0 wr : World) (hgd : o.guard = none) (s x : Operand)
    (ho : o.op = .call { callee := .builtin .append, args := #[s, x], argTypes := #[45, 45] })
    (B : Nat) (v : Value) (l : List Nat) (c : Nat) (ci : Int) (hci : ci = (c : Int)) (hs : a.eval s = v) (hown : ownsI wr B v l)
    (hx : a.eval x = .slice (some ⟨wr.heap.size, 0, none⟩) 1 1) (hlen : l.length ≤ 1000000) (hB : B ≤ wr.heap.size) (hbel : Below B w0 wr)
    (h : ∀ v' w', ownsI w' B v' (l ++ [c]) → Below B w0 w' → B ≤ w'.heap.size → wpList Tryz.prog ops Q rest (a.put o.dst v') w') :
    wpList Tryz.prog ops Q (o :: rest) a (wr.alloc (.cells #[.int .i64 ci] 3)) := by
  subst hci
  obtain ⟨i0, hi, hz0, hz1, hz2⟩ := info_parts Tryz.info3
  refine wpList_append_own _ hgd s x 45 ho B 3 i0 (.int .i64 0) 1 8 Tryz.underlying45 hi hz0 hz1 hz2 rfl (by decide) v l.length (iv l) hs (World.ownsRow.alloc hown _) ⟨wr.heap.size, 0, none⟩ 1 1 [.int .i64 (c : Int)] hx rfl ?_ ?_ ?_ ?_ ?_ ?_
  · intro j u hj
    match j, hj with
    | 0, hj => simp at hj; subst hj; simp [Addr.add]
  · intro u hu; simp at hu; subst hu; rfl
  · unfold maxLen; omega
  · omega
  · simp; omega
  · intro v' w' ho' hg _
    have hr : ∀ k, v.ownBlock = some k → B ≤ k := fun k hk => (World.ownsRow.lt hown k hk).1
    refine h v' w' ?_ ((hbel.alloc hB _).grown hg (by simp; omega) hr) (Nat.le_trans (by simp; omega) hg.size)
    have e1 : iv (l ++ [c]) = iv l ++ [.int .i64 (c : Int)] := by simp [iv]
    unfold ownsI
    rw [e1, List.length_append]
    exact ho'
theorem ownsI.open {w : World} {B : Nat} {v : Value} {l : List Nat} (h : ownsI w B v l) (hl : l ≠ []) :
    ∃ g cap, v = .slice (some ⟨g, 0, none⟩) l.length cap ∧ B ≤ g ∧ g < w.heap.size ∧ l.length ≤ cap ∧ cap ≤ maxLen ∧ rowI w g l.length (fun t => (l.getD t 0 : Int)) := by
  have h' := h
  obtain ⟨_, h1 | ⟨g, cap, cur, rfl, hb, hh, hc, hm, hsz, htk⟩⟩ := h
  · exact absurd (List.length_eq_zero_iff.1 h1.2) hl
  · refine ⟨g, cap, rfl, hb, (World.ownsRow.lt h' g rfl).2, hc, hm, fun t ht => ?_, fun t ht => ?_⟩
    · rw [World.ownsRow.cellAt h' t (by omega), iv_at l t ht]; simp [List.getD, ht]
    · exact World.ownsRow.frozenAt h' t
theorem ownsI.stored {w : World} {B g cap : Nat} {l : List Nat} (h : ownsI w B (.slice (some ⟨g, 0, none⟩) l.length cap) l) (j x : Nat) : ownsI (w.setCell ⟨g, j, none⟩ (.int .i64 (x : Int))) B (.slice (some ⟨g, 0, none⟩) l.length cap) (l.set j x) := by
  have := (World.ownsRow.stored h j (.int .i64 (x : Int))).1
  unfold ownsI
  have e : iv (l.set j x) = (iv l).set j (.int .i64 (x : Int)) := by simp [iv, List.map_set]
  rw [e, List.length_set]
  exact this
theorem ownsI.ints {w : World} {B : Nat} {ao : Option Addr} {n cap : Nat} {l : List Nat} (h : ownsI w B (.slice ao n cap) l) (hn : n = l.length) (hc : n ≤ cap) (hs : ∀ x ∈ l, x ≤ 1000000) : isInts w ao n cap (l.map (fun x : Nat => (x : Int))) := by
  refine ⟨by simpa using hn, hc, fun y hy => ?_, fun hl => ?_⟩
  · obtain ⟨x, hx, rfl⟩ := List.mem_map.1 hy
    have := hs x hx
    omega
  have hl' : l ≠ [] := by simpa using hl
  obtain ⟨g, cap', e, _, _, _, _, hr⟩ := h.open hl'
  cases e
  refine ⟨g, 0, rfl, fun j hj => ?_⟩
  have hj' : j < l.length := by simpa using hj
  rw [Nat.zero_add, hr.cell j hj']
  simp [List.getD, hj']
end Go.Proofs.YtpknchjjfiiaeaaGreatDoor
