import Derived.Test.YtnefmdjodjpopaaAC
namespace Go.Proofs.Ytnefmdjodjpopaa
open Go.RowKit

/-- what is known of a frame behind the bits walked so far -/
structure Wk where
  field : Nat
  taken : Nat
  last : Nat × Nat
  sum : Nat
  crc : Nat
  ext : Bool
  id : Nat
  rtr : Bool
  dlc : Nat
  data : List Nat
  code : Nat
namespace Wk
def due (k : Wk) : Bool := decide (k.field ≤ 11) && decide (k.last.2 = 5)
def crcOk (k : Wk) : Bool := decide (10 < k.field) && decide (k.crc = k.sum)
def form (good : Bool) : Nat := if good = true then 0 else 4
def eofCode (k : Wk) (bit : Nat) : Nat :=
  if k.field = 14 ∧ k.taken = 6 then (if bit = 0 then 6 else 2)
  else if k.field = 14 ∧ k.taken = 5 ∧ bit = 1 then 1 else form (decide (bit = 1))
def plainCode (k : Wk) (bit : Nat) : Nat :=
  if k.field = 1 then form (decide (bit = 0))
  else if k.field = 11 then form (decide (bit = 1))
  else if k.field = 13 then (if bit = 1 ∧ k.crcOk = false then 5 else form (decide (bit = 1)))
  else if k.field = 14 then k.eofCode bit else 0
def dlen (k : Wk) : Nat := if k.rtr = true then 0 else min k.dlc 8
def fsize (k : Wk) (f : Nat) : Nat :=
  if f = 2 then 11 else if f = 5 then 18 else if f = 7 then (if k.ext = true then 2 else 1) else if f = 8 then 4 else if f = 9 then 8 * k.dlen else if f = 10 then 15 else if f = 14 then 7 else 1
def fafter (k : Wk) (f : Nat) : Nat :=
  if f = 4 ∧ k.ext = false then 7 else if f = 8 ∧ k.dlen = 0 then 10 else f + 1
end Wk
/-- the walk in block b -/
def wkAt (W : World) (b : Nat) (k : Wk) (v : Value) : Prop :=
  W.heap[b]? = some (.cells #[.int .i64 (k.field : Int), .int .i64 (k.taken : Int), .int .i32 (k.last.1 : Int), .int .i64 (k.last.2 : Int), .int .i64 (k.sum : Int), .int .i64 (k.crc : Int), .bool k.ext, .int .u32 (k.id : Int), .bool k.rtr, .int .i64 (k.dlc : Int), v, .int .i64 (k.code : Int)] 78 (0, 0))
theorem wkAt.cells {W : World} {b : Nat} {k : Wk} {v : Value} (h : wkAt W b k v) :
    W.cell? ⟨b, 0, none⟩ = some (.int .i64 (k.field : Int)) ∧ W.cell? ⟨b, 1, none⟩ = some (.int .i64 (k.taken : Int)) ∧ W.cell? ⟨b, 2, none⟩ = some (.int .i32 (k.last.1 : Int)) ∧ W.cell? ⟨b, 3, none⟩ = some (.int .i64 (k.last.2 : Int)) ∧
    W.cell? ⟨b, 4, none⟩ = some (.int .i64 (k.sum : Int)) ∧ W.cell? ⟨b, 5, none⟩ = some (.int .i64 (k.crc : Int)) ∧ W.cell? ⟨b, 6, none⟩ = some (.bool k.ext) ∧ W.cell? ⟨b, 7, none⟩ = some (.int .u32 (k.id : Int)) ∧
    W.cell? ⟨b, 8, none⟩ = some (.bool k.rtr) ∧ W.cell? ⟨b, 9, none⟩ = some (.int .i64 (k.dlc : Int)) ∧ W.cell? ⟨b, 10, none⟩ = some v ∧ W.cell? ⟨b, 11, none⟩ = some (.int .i64 (k.code : Int)) := by
  unfold wkAt at h
  refine ⟨?_, ?_, ?_, ?_, ?_, ?_, ?_, ?_, ?_, ?_, ?_, ?_⟩ <;> simp [World.cell?, h]
theorem wkAt.free {W : World} {b : Nat} {k : Wk} {v : Value} (h : wkAt W b k v) (i : Nat) : W.frozen? ⟨b, i, none⟩ = false := by
  unfold wkAt at h; simp [World.frozen?, h]

theorem full2_any (w : World) (b off n : Nat) (h : w.cell? ⟨b, off + 1, none⟩ = some (.int .i64 (n : Int))) :
    Calls Try.prog 52 #[.pointer (some ⟨b, off, none⟩)] w fun e w' => e = .returned (.bool (decide (n = 5))) ∧ w = w' := by
  have hb : ((n : Int) == 5) = decide (n = 5) := by rw [Bool.eq_iff_iff]; simp; omega
  go_enter Try.func52, Try.ntmps52
  go_wp2
  go_ret
  exact ⟨rfl, rfl⟩
theorem due_wk (w : World) (b : Nat) (k : Wk) (v : Value) (h : wkAt w b k v) :
    Calls Try.prog 72 #[.pointer (some ⟨b, 0, none⟩)] w fun e w' => e = .returned (.bool k.due) ∧ w = w' := by
  obtain ⟨c0, -, -, c3, -⟩ := h.cells
  clear h
  by_cases hf : k.field ≤ 11
  · have hf' : (k.field : Int) ≤ 11 := by omega
    have HD : Hid (k.due = decide (k.last.2 = 5)) := by simp [Wk.due, hf, Hid]
    clear hf
    go_enter Try.func72, Try.ntmps72
    go_wp2_with (first | (go_at_call 52; refine (full2_any w b 2 k.last.2 c3).mono ?_; rintro o w1 ⟨rfl, rfl⟩))
    go_ret
    exact ⟨ret_bool HD.out.symm, rfl⟩
  · have hf' : ¬ (k.field : Int) ≤ 11 := by omega
    have HD : Hid (k.due = false) := by simp [Wk.due, hf, Hid]
    clear hf
    go_enter Try.func72, Try.ntmps72
    go_wp2
    go_ret
    exact ⟨ret_bool HD.out.symm, rfl⟩
theorem crcOk_wk (w : World) (b : Nat) (k : Wk) (v : Value) (h : wkAt w b k v) :
    Calls Try.prog 73 #[.pointer (some ⟨b, 0, none⟩)] w fun e w' => e = .returned (.bool k.crcOk) ∧ ∃ q, w' = w.drewN q := by
  obtain ⟨c0, -, -, -, c4, c5, -⟩ := h.cells
  clear h
  by_cases hf : 10 < k.field
  · have hf' : (10 : Int) < (k.field : Int) := by omega
    have hb : ((k.crc : Int) == (k.sum : Int)) = decide (k.crc = k.sum) := by rw [Bool.eq_iff_iff]; simp; omega
    have HD : Hid (k.crcOk = decide (k.crc = k.sum)) := by simp [Wk.crcOk, hf, Hid]
    clear hf
    go_enter Try.func73, Try.ntmps73
    go_wp2
    go_quiet (fail)
    go_wp2
    go_ret
    exact ⟨ret_bool HD.out.symm, _, rfl⟩
  · have hf' : decide ((10 : Int) < (k.field : Int)) = false := by simp; omega
    have HD : Hid (k.crcOk = false) := by simp [Wk.crcOk, hf, Hid]
    clear hf
    go_enter Try.func73, Try.ntmps73
    go_wp2
    go_quiet (fail)
    go_wp2
    go_ret
    exact ⟨ret_bool HD.out.symm, _, rfl⟩
theorem form_any (g : Bool) (w : World) : Calls Try.prog 98 #[.bool g] w fun e w' => e = .returned (.int .i64 (Wk.form g : Nat)) ∧ w = w' := by
  cases g
  · go_enter Try.func98, Try.ntmps98
    go_wp2
    go_ret
    exact ⟨rfl, rfl⟩
  · go_enter Try.func98, Try.ntmps98
    go_wp2
    go_ret
    exact ⟨rfl, rfl⟩
theorem goesOn_any (c : Nat) (w : World) : Calls Try.prog 71 #[.int .i64 (c : Int)] w fun e w' => e = .returned (.bool (decide (c = 0 ∨ c = 1))) ∧ w = w' := by
  by_cases h0 : c = 0
  · subst h0
    go_enter Try.func71, Try.ntmps71
    go_wp2
    go_ret
    exact ⟨rfl, rfl⟩
  · have h0' : ((c : Int) == 0) = false := by simp; omega
    have hb : ((c : Int) == 1) = decide (c = 0 ∨ c = 1) := by rw [Bool.eq_iff_iff]; simp; omega
    clear h0
    go_enter Try.func71, Try.ntmps71
    go_wp2
    go_ret
    exact ⟨ret_bool (by simp), rfl⟩

set_option maxHeartbeats 1000000 in
theorem eofCode_wk (w : World) (b : Nat) (k : Wk) (v : Value) (bit : Nat) (h : wkAt w b k v) (hbit : bit < 2) :
    Calls Try.prog 99 #[.pointer (some ⟨b, 0, none⟩), .int .i64 (bit : Int)] w fun e w' => e = .returned (.int .i64 (k.eofCode bit : Nat)) ∧ w = w' := by
  obtain ⟨c0, c1, -⟩ := h.cells
  clear h
  have hgd : Try.prog.eqGuardType Try.prog.depth 76 = false := by kernel_rfl
  by_cases h6 : k.field = 14 ∧ k.taken = 6
  · have e1 : ((k.field : Int) == 14) = true := by simp; omega
    have e2 : ((k.taken : Int) == 6) = true := by simp; omega
    have e3 : ((k.taken : Int) == 5) = false := by simp; omega
    rcases (show bit = 0 ∨ bit = 1 from by omega) with rfl | rfl
    · have HE : Hid (k.eofCode 0 = 6) := by simp [Wk.eofCode, h6, Hid]
      clear h6
      go_enter Try.func99, Try.ntmps99
      go_wp2
      go_ret
      exact ⟨ret_int (by rw [HE.out]; rfl), rfl⟩
    · have HE : Hid (k.eofCode 1 = 2) := by simp [Wk.eofCode, h6, Hid]
      clear h6
      go_enter Try.func99, Try.ntmps99
      go_wp2
      go_ret
      exact ⟨ret_int (by rw [HE.out]; rfl), rfl⟩
  · by_cases h5 : k.field = 14 ∧ k.taken = 5
    · have e1 : ((k.field : Int) == 14) = true := by simp; omega
      have e2 : ((k.taken : Int) == 6) = false := by simp; omega
      have e3 : ((k.taken : Int) == 5) = true := by simp; omega
      rcases (show bit = 0 ∨ bit = 1 from by omega) with rfl | rfl
      · have HE : Hid (k.eofCode 0 = 4) := by simp [Wk.eofCode, h5, Wk.form, Hid]
        clear h5 h6
        go_enter Try.func99, Try.ntmps99
        go_wp2_with (first | (go_at_call 98; refine (form_any _ _).mono ?_; rintro o w1 ⟨rfl, rfl⟩))
        go_ret
        exact ⟨ret_int (by rw [HE.out]; rfl), rfl⟩
      · have HE : Hid (k.eofCode 1 = 1) := by simp [Wk.eofCode, h5, Hid]
        clear h5 h6
        go_enter Try.func99, Try.ntmps99
        go_wp2
        go_ret
        exact ⟨ret_int (by rw [HE.out]; rfl), rfl⟩
    · have e4 : (((k.field : Int) == 14) && ((k.taken : Int) == 6)) = false := by simp; omega
      have e5 : (((k.field : Int) == 14) && ((k.taken : Int) == 5)) = false := by simp; omega
      have HE : Hid (k.eofCode bit = Wk.form (decide (bit = 1))) := by
        unfold Wk.eofCode Hid
        rw [if_neg h6, if_neg (fun hh => h5 ⟨hh.1, hh.2.1⟩)]
      have hbb : ((bit : Int) == 1) = decide (bit = 1) := by rw [Bool.eq_iff_iff]; simp; omega
      by_cases hf14 : k.field = 14
      · have g1 : ((k.field : Int) == 14) = true := by simp; omega
        have g2 : ((k.taken : Int) == 6) = false := by simp; omega
        have g3 : ((k.taken : Int) == 5) = false := by simp; omega
        clear h5 h6 e4 e5 hf14
        go_enter Try.func99, Try.ntmps99
        go_wp2_with (first | (go_at_call 98; refine (form_any _ _).mono ?_; rintro o w1 ⟨rfl, rfl⟩))
        go_ret
        exact ⟨ret_int (by rw [HE.out]), rfl⟩
      · have g1 : ((k.field : Int) == 14) = false := by simp; omega
        clear h5 h6 e4 e5 hf14
        go_enter Try.func99, Try.ntmps99
        go_wp2_with (first | (go_at_call 98; refine (form_any _ _).mono ?_; rintro o w1 ⟨rfl, rfl⟩))
        go_ret
        exact ⟨ret_int (by rw [HE.out]), rfl⟩

set_option maxHeartbeats 1000000 in
theorem plainCode_wk (w : World) (b : Nat) (k : Wk) (v : Value) (bit : Nat) (h : wkAt w b k v) (hbit : bit < 2) :
    Calls Try.prog 93 #[.pointer (some ⟨b, 0, none⟩), .int .i64 (bit : Int)] w fun e w' => e = .returned (.int .i64 (k.plainCode bit : Nat)) ∧ ∃ q, w' = w.drewN q := by
  obtain ⟨c0, -⟩ := h.cells
  have HK : Hid (wkAt w b k v) := h
  clear h
  have hb0 : ((bit : Int) == 0) = decide (bit = 0) := by rw [Bool.eq_iff_iff]; simp
  have hb1 : ((bit : Int) == 1) = decide (bit = 1) := by rw [Bool.eq_iff_iff]; simp; omega
  by_cases h1 : k.field = 1
  · have e1 : ((k.field : Int) == 1) = true := by simp; omega
    have HE : Hid (k.plainCode bit = Wk.form (decide (bit = 0))) := by simp [Wk.plainCode, h1, Hid]
    clear h1 hb1
    go_enter Try.func93, Try.ntmps93
    go_wp2_with (first | (go_at_call 98; refine (form_any _ _).mono ?_; rintro o w1 ⟨rfl, rfl⟩))
    go_ret
    exact ⟨ret_int (by rw [HE.out]), 0, rfl⟩
  · have e1 : ((k.field : Int) == 1) = false := by simp; omega
    by_cases h11 : k.field = 11
    · have e2 : ((k.field : Int) == 11) = true := by simp; omega
      have HE : Hid (k.plainCode bit = Wk.form (decide (bit = 1))) := by simp [Wk.plainCode, h11, Hid]
      clear h1 h11 hb0
      go_enter Try.func93, Try.ntmps93
      go_wp2_with (first | (go_at_call 98; refine (form_any _ _).mono ?_; rintro o w1 ⟨rfl, rfl⟩))
      go_ret
      exact ⟨ret_int (by rw [HE.out]), 0, rfl⟩
    · have e2 : ((k.field : Int) == 11) = false := by simp; omega
      by_cases h13 : k.field = 13
      · have e3 : ((k.field : Int) == 13) = true := by simp; omega
        rcases (show bit = 0 ∨ bit = 1 from by omega) with rfl | rfl
        · have HE : Hid (k.plainCode 0 = 4) := by simp [Wk.plainCode, h13, Wk.form, Hid]
          clear h1 h11 h13 hb0 hb1
          go_enter Try.func93, Try.ntmps93
          go_wp2_with (first | (go_at_call 98; refine (form_any _ _).mono ?_; rintro o w1 ⟨rfl, rfl⟩))
          go_ret
          exact ⟨ret_int (by rw [HE.out]; rfl), 0, rfl⟩
        · cases hc : k.crcOk
          · have HE : Hid (k.plainCode 1 = 5) := by simp [Wk.plainCode, h13, hc, Hid]
            have HC : Hid (k.crcOk = false) := hc
            clear h1 h11 h13 hb0 hb1 hc
            go_enter Try.func93, Try.ntmps93
            go_wp2_with (first | (go_at_call 73; refine (crcOk_wk _ b k v HK.out).mono ?_; rw [HC.out]; rintro o w1 ⟨rfl, q, rfl⟩) | (go_at_call 98; refine (form_any _ _).mono ?_; rintro o w1 ⟨rfl, rfl⟩))
            go_ret
            exact ⟨ret_int (by rw [HE.out]; rfl), _, rfl⟩
          · have HE : Hid (k.plainCode 1 = 0) := by simp [Wk.plainCode, h13, hc, Wk.form, Hid]
            have HC : Hid (k.crcOk = true) := hc
            clear h1 h11 h13 hb0 hb1 hc
            go_enter Try.func93, Try.ntmps93
            go_wp2_with (first | (go_at_call 73; refine (crcOk_wk _ b k v HK.out).mono ?_; rw [HC.out]; rintro o w1 ⟨rfl, q, rfl⟩) | (go_at_call 98; refine (form_any _ _).mono ?_; rintro o w2 ⟨rfl, rfl⟩))
            go_ret
            exact ⟨ret_int (by rw [HE.out]; rfl), _, rfl⟩
      · have e3 : ((k.field : Int) == 13) = false := by simp; omega
        by_cases h14 : k.field = 14
        · have e4 : ((k.field : Int) == 14) = true := by simp; omega
          have HE : Hid (k.plainCode bit = k.eofCode bit) := by simp [Wk.plainCode, h14, Hid]
          clear h1 h11 h13 h14 hb0 hb1
          go_enter Try.func93, Try.ntmps93
          go_wp2_with (first | (go_at_call 99; refine (eofCode_wk _ b k v bit HK.out hbit).mono ?_; rintro o w1 ⟨rfl, rfl⟩))
          go_ret
          exact ⟨ret_int (by rw [HE.out]), 0, rfl⟩
        · have e4 : ((k.field : Int) == 14) = false := by simp; omega
          have HE : Hid (k.plainCode bit = 0) := by simp [Wk.plainCode, h1, h11, h13, h14, Hid]
          clear h1 h11 h13 h14 hb0 hb1
          go_enter Try.func93, Try.ntmps93
          go_wp2
          go_ret
          exact ⟨ret_int (by rw [HE.out]; rfl), 0, rfl⟩

theorem dl_dlen (k : Wk) : dl k.rtr (k.dlc : Int) = (k.dlen : Int) := by
  unfold dl Wk.dlen
  split
  · rfl
  · split
    · rw [Nat.min_eq_right (by omega)]; rfl
    · rw [Nat.min_eq_left (by omega)]
set_option maxHeartbeats 1000000 in
theorem fsize_any (w : World) (f : Nat) (k : Wk) (i : Nat) (a : Option Addr) (n cap : Nat) (hk : k.dlc ≤ 1000) :
    Calls Try.prog 66 #[.int .i64 (f : Int), frV k.ext i k.rtr (k.dlc : Int) a n cap] w fun o w' => o = .returned (.int .i64 (k.fsize f : Nat)) ∧ Below w.heap.size w w' := by
  have hdl := dl_dlen k
  have hd8 : k.dlen ≤ 8 := by unfold Wk.dlen; split <;> omega
  by_cases h2 : f = 2
  · subst h2
    have HE : Hid (k.fsize 2 = 11) := by simp [Wk.fsize, Hid]
    go_enter Try.func66, Try.ntmps66
    go_wp2
    go_ret
    exact ⟨ret_int (by rw [HE.out]; rfl), (Below.refl _ _).alloc (Nat.le_refl _) _⟩
  · have e2 : ((f : Int) == 2) = false := by simp; omega
    by_cases h5 : f = 5
    · subst h5
      have HE : Hid (k.fsize 5 = 18) := by simp [Wk.fsize, Hid]
      go_enter Try.func66, Try.ntmps66
      go_wp2
      go_ret
      exact ⟨ret_int (by rw [HE.out]; rfl), (Below.refl _ _).alloc (Nat.le_refl _) _⟩
    · have e5 : ((f : Int) == 5) = false := by simp; omega
      by_cases h7 : f = 7
      · subst h7
        cases he : k.ext
        · have HE : Hid (k.fsize 7 = 1) := by simp [Wk.fsize, he, Hid]
          go_enter Try.func66, Try.ntmps66
          go_wp2
          go_ret
          exact ⟨ret_int (by rw [HE.out]; rfl), (Below.refl _ _).alloc (Nat.le_refl _) _⟩
        · have HE : Hid (k.fsize 7 = 2) := by simp [Wk.fsize, he, Hid]
          go_enter Try.func66, Try.ntmps66
          go_wp2
          go_ret
          exact ⟨ret_int (by rw [HE.out]; rfl), (Below.refl _ _).alloc (Nat.le_refl _) _⟩
      · have e7 : ((f : Int) == 7) = false := by simp; omega
        by_cases h8 : f = 8
        · subst h8
          have HE : Hid (k.fsize 8 = 4) := by simp [Wk.fsize, Hid]
          go_enter Try.func66, Try.ntmps66
          go_wp2
          go_ret
          exact ⟨ret_int (by rw [HE.out]; rfl), (Below.refl _ _).alloc (Nat.le_refl _) _⟩
        · have e8 : ((f : Int) == 8) = false := by simp; omega
          by_cases h9 : f = 9
          · subst h9
            have HE : Hid (k.fsize 9 = 8 * k.dlen) := by simp [Wk.fsize, Hid]
            have HD : Hid (dl k.rtr (k.dlc : Int) = (k.dlen : Int)) := hdl
            clear hdl
            go_enter Try.func66, Try.ntmps66
            go_wp2_with (first | (go_at_call 89; refine (dataLen_any _ _ _ _ _ _ _ _).mono ?_; rw [HD.out]; rintro o w1 ⟨rfl, rfl⟩))
            go_ret
            exact ⟨ret_int (by rw [HE.out]; omega), ((Below.refl _ _).alloc (Nat.le_refl _) _).alloc (by simp) _⟩
          · have e9 : ((f : Int) == 9) = false := by simp; omega
            by_cases h10 : f = 10
            · subst h10
              have HE : Hid (k.fsize 10 = 15) := by simp [Wk.fsize, Hid]
              go_enter Try.func66, Try.ntmps66
              go_wp2
              go_ret
              exact ⟨ret_int (by rw [HE.out]; rfl), (Below.refl _ _).alloc (Nat.le_refl _) _⟩
            · have e10 : ((f : Int) == 10) = false := by simp; omega
              by_cases h14 : f = 14
              · subst h14
                have HE : Hid (k.fsize 14 = 7) := by simp [Wk.fsize, Hid]
                go_enter Try.func66, Try.ntmps66
                go_wp2
                go_ret
                exact ⟨ret_int (by rw [HE.out]; rfl), (Below.refl _ _).alloc (Nat.le_refl _) _⟩
              · have e14 : ((f : Int) == 14) = false := by simp; omega
                have HE : Hid (k.fsize f = 1) := by simp [Wk.fsize, h2, h5, h7, h8, h9, h10, h14, Hid]
                clear h2 h5 h7 h8 h9 h10 h14
                go_enter Try.func66, Try.ntmps66
                go_wp2
                go_ret
                exact ⟨ret_int (by rw [HE.out]; rfl), (Below.refl _ _).alloc (Nat.le_refl _) _⟩

set_option maxHeartbeats 1000000 in
theorem fafter_any (w : World) (f : Nat) (k : Wk) (i : Nat) (a : Option Addr) (n cap : Nat) (hf : f ≤ 1000) :
    Calls Try.prog 101 #[.int .i64 (f : Int), frV k.ext i k.rtr (k.dlc : Int) a n cap] w fun o w' => o = .returned (.int .i64 (k.fafter f : Nat)) ∧ Below w.heap.size w w' := by
  have hdl := dl_dlen k
  have HD : Hid (dl k.rtr (k.dlc : Int) = (k.dlen : Int)) := hdl
  clear hdl
  by_cases h4 : f = 4
  · subst h4
    cases he : k.ext
    · have HE : Hid (k.fafter 4 = 7) := by simp [Wk.fafter, he, Hid]
      go_enter Try.func101, Try.ntmps101
      go_wp2
      go_ret
      exact ⟨ret_int (by rw [HE.out]; rfl), (Below.refl _ _).alloc (Nat.le_refl _) _⟩
    · have HE : Hid (k.fafter 4 = 5) := by simp [Wk.fafter, he, Hid]
      go_enter Try.func101, Try.ntmps101
      go_wp2
      go_ret
      exact ⟨ret_int (by rw [HE.out]; rfl), (Below.refl _ _).alloc (Nat.le_refl _) _⟩
  · have e4 : ((f : Int) == 4) = false := by simp; omega
    by_cases h8 : f = 8
    · subst h8
      by_cases hz : k.dlen = 0
      · have HE : Hid (k.fafter 8 = 10) := by simp [Wk.fafter, hz, Hid]
        have hz' : ((k.dlen : Int) == 0) = true := by simp; omega
        clear hz
        go_enter Try.func101, Try.ntmps101
        go_wp2_with (first | (go_at_call 89; refine (dataLen_any _ _ _ _ _ _ _ _).mono ?_; rw [HD.out]; rintro o w1 ⟨rfl, rfl⟩))
        go_ret
        exact ⟨ret_int (by rw [HE.out]; rfl), ((Below.refl _ _).alloc (Nat.le_refl _) _).alloc (by simp) _⟩
      · have HE : Hid (k.fafter 8 = 9) := by simp [Wk.fafter, hz, Hid]
        have hz' : ((k.dlen : Int) == 0) = false := by simp; omega
        clear hz
        go_enter Try.func101, Try.ntmps101
        go_wp2_with (first | (go_at_call 89; refine (dataLen_any _ _ _ _ _ _ _ _).mono ?_; rw [HD.out]; rintro o w1 ⟨rfl, rfl⟩))
        go_ret
        exact ⟨ret_int (by rw [HE.out]; rfl), ((Below.refl _ _).alloc (Nat.le_refl _) _).alloc (by simp) _⟩
    · have e8 : ((f : Int) == 8) = false := by simp; omega
      have HE : Hid (k.fafter f = f + 1) := by simp [Wk.fafter, h4, h8, Hid]
      clear h4 h8
      go_enter Try.func101, Try.ntmps101
      go_wp2
      go_ret
      exact ⟨ret_int (by rw [HE.out]; rfl), (Below.refl _ _).alloc (Nat.le_refl _) _⟩
end Go.Proofs.Ytnefmdjodjpopaa
