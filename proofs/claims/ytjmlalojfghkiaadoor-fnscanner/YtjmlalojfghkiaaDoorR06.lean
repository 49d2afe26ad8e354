import Derived.Test.YtjmlalojfghkiaaDoorR04
import Derived.Deep.RegionHeld3
namespace Go.Proofs.YtjmlalojfghkiaaDoor
open Go.RowKit
set_option linter.unusedVariables false
/-- the table of fields, as it lies -/
def tabL : List Value := [.int .i64 1, .int .i64 1, .int .i64 2, .int .i64 2, .int .i64 11, .int .i64 3, .int .i64 3, .int .i64 1, .int .i64 4, .int .i64 4, .int .i64 1, .int .i64 7, .int .i64 5, .int .i64 18, .int .i64 6, .int .i64 6, .int .i64 1, .int .i64 7, .int .i64 7, .int .i64 1, .int .i64 8, .int .i64 8, .int .i64 4, .int .i64 9, .int .i64 9, .int .i64 8, .int .i64 10, .int .i64 10, .int .i64 15, .int .i64 11, .int .i64 11, .int .i64 1, .int .i64 12, .int .i64 12, .int .i64 1, .int .i64 13, .int .i64 13, .int .i64 1, .int .i64 14, .int .i64 14, .int .i64 7, .int .i64 15]
def dlen (r : Bool) (d : Int) : Int := if r = true then 0 else min d 8
theorem dataLen_any (w : World) (e : Bool) (i : Nat) (r : Bool) (d : Int) (a : Option Addr) (n cap : Nat) :
    Calls Tryd.prog 88 #[frV e i r d a n cap] w fun o w' => o = .returned (.int .i64 (dlen r d)) ∧ Below w.heap.size w w' := by
  cases r
  · go_enter Tryd.func88, Tryd.ntmps88
    go_wp2
    all_goals (go_ret; refine ⟨ret_int ?_, (Below.refl _ _).alloc (Nat.le_refl _) _⟩; unfold dlen; simp; try omega)
  · go_enter Tryd.func88, Tryd.ntmps88
    go_wp2
    all_goals (go_ret; refine ⟨ret_int ?_, (Below.refl _ _).alloc (Nat.le_refl _) _⟩; unfold dlen; simp)
/-- what stays in the draw of rowOf -/
structure rS (w : World) (e : Bool) (i : Nat) (r : Bool) (d : Int) (a : Option Addr) (n cap : Nat) (W : World) : Prop where
  p : blk W w.heap.size [.bool e, .int .u32 (i : Int), .bool r, .int .i64 d, .slice a n cap] 29
  b : Below w.heap.size w W
/-- the size of a field, as the program reckons it -/
def rsz (f : Int) (e r : Bool) (d : Int) : Int := if f = 9 then 8 * dlen r d else sizeZ f e d
theorem tab_at {w : World} (hg : w.rangeAt 0 0 tabL) (hz : 0 < w.heap.size) {W : World} (hb : Below w.heap.size w W) (j : Nat) (v : Value) (hv : tabL[j]? = some v) : W.cell? ⟨0, j, none⟩ = some v := by
  have := (hb.cell (p := ⟨0, 0 + j, none⟩) hz).trans (hg j v hv)
  simpa using this
set_option maxHeartbeats 4000000 in
set_option maxRecDepth 20000 in
theorem rowOf_1 (w : World) (hg : w.rangeAt 0 0 tabL) (hz : 0 < w.heap.size) (e : Bool) (i : Nat) (r : Bool) (d : Int) (hd : 0 ≤ d) (hd1 : d ≤ 15) (a : Option Addr) (n cap : Nat) :
    Calls Tryd.prog 75 #[.int .i64 1, frV e i r d a n cap] w fun o w' => o = .returned (.agg #[.int .i64 1, .int .i64 (rsz 1 e r d), .int .i64 (afterZ 1 e r d)]) ∧ Below w.heap.size w w' := by
  have hb2 : Below w.heap.size w ((w.alloc (.cells #[.bool e, .int .u32 (i : Int), .bool r, .int .i64 d, .slice a n cap] 29)).alloc (.cells #[.int .i64 0, .int .i64 0, .int .i64 0] 97)) := ((Below.refl _ _).alloc (Nat.le_refl _) _).alloc (by simp) _
  have c0 := tab_at hg hz hb2 0 _ rfl
  have c1 := tab_at hg hz hb2 1 _ rfl
  have c2 := tab_at hg hz hb2 2 _ rfl
  clear hg hb2
  go_enter Tryd.func75, Tryd.ntmps75
  go_wp2_with fail
  refine bodyPost_ret (v := .agg #[.int .i64 1, .int .i64 1, .int .i64 2]) (by simp [results, Tryd.results75, go_sem]) rfl ?_
  exact ⟨rfl, (((Below.refl _ _).alloc (Nat.le_refl _) _).alloc (by simp) _).alloc (by simp; omega) _⟩
set_option maxHeartbeats 4000000 in
set_option maxRecDepth 20000 in
theorem rowOf_2 (w : World) (hg : w.rangeAt 0 0 tabL) (hz : 0 < w.heap.size) (e : Bool) (i : Nat) (r : Bool) (d : Int) (hd : 0 ≤ d) (hd1 : d ≤ 15) (a : Option Addr) (n cap : Nat) :
    Calls Tryd.prog 75 #[.int .i64 2, frV e i r d a n cap] w fun o w' => o = .returned (.agg #[.int .i64 2, .int .i64 (rsz 2 e r d), .int .i64 (afterZ 2 e r d)]) ∧ Below w.heap.size w w' := by
  have hb2 : Below w.heap.size w ((w.alloc (.cells #[.bool e, .int .u32 (i : Int), .bool r, .int .i64 d, .slice a n cap] 29)).alloc (.cells #[.int .i64 0, .int .i64 0, .int .i64 0] 97)) := ((Below.refl _ _).alloc (Nat.le_refl _) _).alloc (by simp) _
  have c0 := tab_at hg hz hb2 3 _ rfl
  have c1 := tab_at hg hz hb2 4 _ rfl
  have c2 := tab_at hg hz hb2 5 _ rfl
  clear hg hb2
  go_enter Tryd.func75, Tryd.ntmps75
  go_wp2_with fail
  refine bodyPost_ret (v := .agg #[.int .i64 2, .int .i64 11, .int .i64 3]) (by simp [results, Tryd.results75, go_sem]) rfl ?_
  exact ⟨rfl, (((Below.refl _ _).alloc (Nat.le_refl _) _).alloc (by simp) _).alloc (by simp; omega) _⟩
set_option maxHeartbeats 4000000 in
set_option maxRecDepth 20000 in
theorem rowOf_3 (w : World) (hg : w.rangeAt 0 0 tabL) (hz : 0 < w.heap.size) (e : Bool) (i : Nat) (r : Bool) (d : Int) (hd : 0 ≤ d) (hd1 : d ≤ 15) (a : Option Addr) (n cap : Nat) :
    Calls Tryd.prog 75 #[.int .i64 3, frV e i r d a n cap] w fun o w' => o = .returned (.agg #[.int .i64 3, .int .i64 (rsz 3 e r d), .int .i64 (afterZ 3 e r d)]) ∧ Below w.heap.size w w' := by
  have hb2 : Below w.heap.size w ((w.alloc (.cells #[.bool e, .int .u32 (i : Int), .bool r, .int .i64 d, .slice a n cap] 29)).alloc (.cells #[.int .i64 0, .int .i64 0, .int .i64 0] 97)) := ((Below.refl _ _).alloc (Nat.le_refl _) _).alloc (by simp) _
  have c0 := tab_at hg hz hb2 6 _ rfl
  have c1 := tab_at hg hz hb2 7 _ rfl
  have c2 := tab_at hg hz hb2 8 _ rfl
  clear hg hb2
  go_enter Tryd.func75, Tryd.ntmps75
  go_wp2_with fail
  refine bodyPost_ret (v := .agg #[.int .i64 3, .int .i64 1, .int .i64 4]) (by simp [results, Tryd.results75, go_sem]) rfl ?_
  exact ⟨rfl, (((Below.refl _ _).alloc (Nat.le_refl _) _).alloc (by simp) _).alloc (by simp; omega) _⟩
set_option maxHeartbeats 4000000 in
set_option maxRecDepth 20000 in
theorem rowOf_5 (w : World) (hg : w.rangeAt 0 0 tabL) (hz : 0 < w.heap.size) (e : Bool) (i : Nat) (r : Bool) (d : Int) (hd : 0 ≤ d) (hd1 : d ≤ 15) (a : Option Addr) (n cap : Nat) :
    Calls Tryd.prog 75 #[.int .i64 5, frV e i r d a n cap] w fun o w' => o = .returned (.agg #[.int .i64 5, .int .i64 (rsz 5 e r d), .int .i64 (afterZ 5 e r d)]) ∧ Below w.heap.size w w' := by
  have hb2 : Below w.heap.size w ((w.alloc (.cells #[.bool e, .int .u32 (i : Int), .bool r, .int .i64 d, .slice a n cap] 29)).alloc (.cells #[.int .i64 0, .int .i64 0, .int .i64 0] 97)) := ((Below.refl _ _).alloc (Nat.le_refl _) _).alloc (by simp) _
  have c0 := tab_at hg hz hb2 12 _ rfl
  have c1 := tab_at hg hz hb2 13 _ rfl
  have c2 := tab_at hg hz hb2 14 _ rfl
  clear hg hb2
  go_enter Tryd.func75, Tryd.ntmps75
  go_wp2_with fail
  refine bodyPost_ret (v := .agg #[.int .i64 5, .int .i64 18, .int .i64 6]) (by simp [results, Tryd.results75, go_sem]) rfl ?_
  exact ⟨rfl, (((Below.refl _ _).alloc (Nat.le_refl _) _).alloc (by simp) _).alloc (by simp; omega) _⟩
set_option maxHeartbeats 4000000 in
set_option maxRecDepth 20000 in
theorem rowOf_6 (w : World) (hg : w.rangeAt 0 0 tabL) (hz : 0 < w.heap.size) (e : Bool) (i : Nat) (r : Bool) (d : Int) (hd : 0 ≤ d) (hd1 : d ≤ 15) (a : Option Addr) (n cap : Nat) :
    Calls Tryd.prog 75 #[.int .i64 6, frV e i r d a n cap] w fun o w' => o = .returned (.agg #[.int .i64 6, .int .i64 (rsz 6 e r d), .int .i64 (afterZ 6 e r d)]) ∧ Below w.heap.size w w' := by
  have hb2 : Below w.heap.size w ((w.alloc (.cells #[.bool e, .int .u32 (i : Int), .bool r, .int .i64 d, .slice a n cap] 29)).alloc (.cells #[.int .i64 0, .int .i64 0, .int .i64 0] 97)) := ((Below.refl _ _).alloc (Nat.le_refl _) _).alloc (by simp) _
  have c0 := tab_at hg hz hb2 15 _ rfl
  have c1 := tab_at hg hz hb2 16 _ rfl
  have c2 := tab_at hg hz hb2 17 _ rfl
  clear hg hb2
  go_enter Tryd.func75, Tryd.ntmps75
  go_wp2_with fail
  refine bodyPost_ret (v := .agg #[.int .i64 6, .int .i64 1, .int .i64 7]) (by simp [results, Tryd.results75, go_sem]) rfl ?_
  exact ⟨rfl, (((Below.refl _ _).alloc (Nat.le_refl _) _).alloc (by simp) _).alloc (by simp; omega) _⟩
set_option maxHeartbeats 4000000 in
set_option maxRecDepth 20000 in
theorem rowOf_10 (w : World) (hg : w.rangeAt 0 0 tabL) (hz : 0 < w.heap.size) (e : Bool) (i : Nat) (r : Bool) (d : Int) (hd : 0 ≤ d) (hd1 : d ≤ 15) (a : Option Addr) (n cap : Nat) :
    Calls Tryd.prog 75 #[.int .i64 10, frV e i r d a n cap] w fun o w' => o = .returned (.agg #[.int .i64 10, .int .i64 (rsz 10 e r d), .int .i64 (afterZ 10 e r d)]) ∧ Below w.heap.size w w' := by
  have hb2 : Below w.heap.size w ((w.alloc (.cells #[.bool e, .int .u32 (i : Int), .bool r, .int .i64 d, .slice a n cap] 29)).alloc (.cells #[.int .i64 0, .int .i64 0, .int .i64 0] 97)) := ((Below.refl _ _).alloc (Nat.le_refl _) _).alloc (by simp) _
  have c0 := tab_at hg hz hb2 27 _ rfl
  have c1 := tab_at hg hz hb2 28 _ rfl
  have c2 := tab_at hg hz hb2 29 _ rfl
  clear hg hb2
  go_enter Tryd.func75, Tryd.ntmps75
  go_wp2_with fail
  refine bodyPost_ret (v := .agg #[.int .i64 10, .int .i64 15, .int .i64 11]) (by simp [results, Tryd.results75, go_sem]) rfl ?_
  exact ⟨rfl, (((Below.refl _ _).alloc (Nat.le_refl _) _).alloc (by simp) _).alloc (by simp; omega) _⟩
set_option maxHeartbeats 4000000 in
set_option maxRecDepth 20000 in
theorem rowOf_11 (w : World) (hg : w.rangeAt 0 0 tabL) (hz : 0 < w.heap.size) (e : Bool) (i : Nat) (r : Bool) (d : Int) (hd : 0 ≤ d) (hd1 : d ≤ 15) (a : Option Addr) (n cap : Nat) :
    Calls Tryd.prog 75 #[.int .i64 11, frV e i r d a n cap] w fun o w' => o = .returned (.agg #[.int .i64 11, .int .i64 (rsz 11 e r d), .int .i64 (afterZ 11 e r d)]) ∧ Below w.heap.size w w' := by
  have hb2 : Below w.heap.size w ((w.alloc (.cells #[.bool e, .int .u32 (i : Int), .bool r, .int .i64 d, .slice a n cap] 29)).alloc (.cells #[.int .i64 0, .int .i64 0, .int .i64 0] 97)) := ((Below.refl _ _).alloc (Nat.le_refl _) _).alloc (by simp) _
  have c0 := tab_at hg hz hb2 30 _ rfl
  have c1 := tab_at hg hz hb2 31 _ rfl
  have c2 := tab_at hg hz hb2 32 _ rfl
  clear hg hb2
  go_enter Tryd.func75, Tryd.ntmps75
  go_wp2_with fail
  refine bodyPost_ret (v := .agg #[.int .i64 11, .int .i64 1, .int .i64 12]) (by simp [results, Tryd.results75, go_sem]) rfl ?_
  exact ⟨rfl, (((Below.refl _ _).alloc (Nat.le_refl _) _).alloc (by simp) _).alloc (by simp; omega) _⟩
set_option maxHeartbeats 4000000 in
set_option maxRecDepth 20000 in
theorem rowOf_12 (w : World) (hg : w.rangeAt 0 0 tabL) (hz : 0 < w.heap.size) (e : Bool) (i : Nat) (r : Bool) (d : Int) (hd : 0 ≤ d) (hd1 : d ≤ 15) (a : Option Addr) (n cap : Nat) :
    Calls Tryd.prog 75 #[.int .i64 12, frV e i r d a n cap] w fun o w' => o = .returned (.agg #[.int .i64 12, .int .i64 (rsz 12 e r d), .int .i64 (afterZ 12 e r d)]) ∧ Below w.heap.size w w' := by
  have hb2 : Below w.heap.size w ((w.alloc (.cells #[.bool e, .int .u32 (i : Int), .bool r, .int .i64 d, .slice a n cap] 29)).alloc (.cells #[.int .i64 0, .int .i64 0, .int .i64 0] 97)) := ((Below.refl _ _).alloc (Nat.le_refl _) _).alloc (by simp) _
  have c0 := tab_at hg hz hb2 33 _ rfl
  have c1 := tab_at hg hz hb2 34 _ rfl
  have c2 := tab_at hg hz hb2 35 _ rfl
  clear hg hb2
  go_enter Tryd.func75, Tryd.ntmps75
  go_wp2_with fail
  refine bodyPost_ret (v := .agg #[.int .i64 12, .int .i64 1, .int .i64 13]) (by simp [results, Tryd.results75, go_sem]) rfl ?_
  exact ⟨rfl, (((Below.refl _ _).alloc (Nat.le_refl _) _).alloc (by simp) _).alloc (by simp; omega) _⟩
set_option maxHeartbeats 4000000 in
set_option maxRecDepth 20000 in
theorem rowOf_13 (w : World) (hg : w.rangeAt 0 0 tabL) (hz : 0 < w.heap.size) (e : Bool) (i : Nat) (r : Bool) (d : Int) (hd : 0 ≤ d) (hd1 : d ≤ 15) (a : Option Addr) (n cap : Nat) :
    Calls Tryd.prog 75 #[.int .i64 13, frV e i r d a n cap] w fun o w' => o = .returned (.agg #[.int .i64 13, .int .i64 (rsz 13 e r d), .int .i64 (afterZ 13 e r d)]) ∧ Below w.heap.size w w' := by
  have hb2 : Below w.heap.size w ((w.alloc (.cells #[.bool e, .int .u32 (i : Int), .bool r, .int .i64 d, .slice a n cap] 29)).alloc (.cells #[.int .i64 0, .int .i64 0, .int .i64 0] 97)) := ((Below.refl _ _).alloc (Nat.le_refl _) _).alloc (by simp) _
  have c0 := tab_at hg hz hb2 36 _ rfl
  have c1 := tab_at hg hz hb2 37 _ rfl
  have c2 := tab_at hg hz hb2 38 _ rfl
  clear hg hb2
  go_enter Tryd.func75, Tryd.ntmps75
  go_wp2_with fail
  refine bodyPost_ret (v := .agg #[.int .i64 13, .int .i64 1, .int .i64 14]) (by simp [results, Tryd.results75, go_sem]) rfl ?_
  exact ⟨rfl, (((Below.refl _ _).alloc (Nat.le_refl _) _).alloc (by simp) _).alloc (by simp; omega) _⟩
set_option maxHeartbeats 4000000 in
set_option maxRecDepth 20000 in
theorem rowOf_14 (w : World) (hg : w.rangeAt 0 0 tabL) (hz : 0 < w.heap.size) (e : Bool) (i : Nat) (r : Bool) (d : Int) (hd : 0 ≤ d) (hd1 : d ≤ 15) (a : Option Addr) (n cap : Nat) :
    Calls Tryd.prog 75 #[.int .i64 14, frV e i r d a n cap] w fun o w' => o = .returned (.agg #[.int .i64 14, .int .i64 (rsz 14 e r d), .int .i64 (afterZ 14 e r d)]) ∧ Below w.heap.size w w' := by
  have hb2 : Below w.heap.size w ((w.alloc (.cells #[.bool e, .int .u32 (i : Int), .bool r, .int .i64 d, .slice a n cap] 29)).alloc (.cells #[.int .i64 0, .int .i64 0, .int .i64 0] 97)) := ((Below.refl _ _).alloc (Nat.le_refl _) _).alloc (by simp) _
  have c0 := tab_at hg hz hb2 39 _ rfl
  have c1 := tab_at hg hz hb2 40 _ rfl
  have c2 := tab_at hg hz hb2 41 _ rfl
  clear hg hb2
  go_enter Tryd.func75, Tryd.ntmps75
  go_wp2_with fail
  refine bodyPost_ret (v := .agg #[.int .i64 14, .int .i64 7, .int .i64 15]) (by simp [results, Tryd.results75, go_sem]) rfl ?_
  exact ⟨rfl, (((Below.refl _ _).alloc (Nat.le_refl _) _).alloc (by simp) _).alloc (by simp; omega) _⟩
set_option maxHeartbeats 4000000 in
set_option maxRecDepth 20000 in
theorem rowOf_4 (w : World) (hg : w.rangeAt 0 0 tabL) (hz : 0 < w.heap.size) (e : Bool) (i : Nat) (r : Bool) (d : Int) (hd : 0 ≤ d) (hd1 : d ≤ 15) (a : Option Addr) (n cap : Nat) :
    Calls Tryd.prog 75 #[.int .i64 4, frV e i r d a n cap] w fun o w' => o = .returned (.agg #[.int .i64 4, .int .i64 (rsz 4 e r d), .int .i64 (afterZ 4 e r d)]) ∧ Below w.heap.size w w' := by
  have hb2 : Below w.heap.size w ((w.alloc (.cells #[.bool e, .int .u32 (i : Int), .bool r, .int .i64 d, .slice a n cap] 29)).alloc (.cells #[.int .i64 0, .int .i64 0, .int .i64 0] 97)) := ((Below.refl _ _).alloc (Nat.le_refl _) _).alloc (by simp) _
  have c0 := tab_at hg hz hb2 9 _ rfl
  have c1 := tab_at hg hz hb2 10 _ rfl
  have c2 := tab_at hg hz hb2 11 _ rfl
  clear hg hb2
  cases e
  · go_enter Tryd.func75, Tryd.ntmps75
    go_wp2_with fail
    refine bodyPost_ret (v := .agg #[.int .i64 4, .int .i64 1, .int .i64 7]) (by simp [results, Tryd.results75, go_sem]) rfl ?_
    exact ⟨rfl, (((Below.refl _ _).alloc (Nat.le_refl _) _).alloc (by simp) _).alloc (by simp; omega) _⟩
  · go_enter Tryd.func75, Tryd.ntmps75
    go_wp2_with fail
    refine bodyPost_ret (v := .agg #[.int .i64 4, .int .i64 1, .int .i64 5]) (by simp [results, Tryd.results75, go_sem]) rfl ?_
    exact ⟨rfl, (((Below.refl _ _).alloc (Nat.le_refl _) _).alloc (by simp) _).alloc (by simp; omega) _⟩
set_option maxHeartbeats 4000000 in
set_option maxRecDepth 20000 in
theorem rowOf_7 (w : World) (hg : w.rangeAt 0 0 tabL) (hz : 0 < w.heap.size) (e : Bool) (i : Nat) (r : Bool) (d : Int) (hd : 0 ≤ d) (hd1 : d ≤ 15) (a : Option Addr) (n cap : Nat) :
    Calls Tryd.prog 75 #[.int .i64 7, frV e i r d a n cap] w fun o w' => o = .returned (.agg #[.int .i64 7, .int .i64 (rsz 7 e r d), .int .i64 (afterZ 7 e r d)]) ∧ Below w.heap.size w w' := by
  have hb2 : Below w.heap.size w ((w.alloc (.cells #[.bool e, .int .u32 (i : Int), .bool r, .int .i64 d, .slice a n cap] 29)).alloc (.cells #[.int .i64 0, .int .i64 0, .int .i64 0] 97)) := ((Below.refl _ _).alloc (Nat.le_refl _) _).alloc (by simp) _
  have c0 := tab_at hg hz hb2 18 _ rfl
  have c1 := tab_at hg hz hb2 19 _ rfl
  have c2 := tab_at hg hz hb2 20 _ rfl
  clear hg hb2
  cases e
  · go_enter Tryd.func75, Tryd.ntmps75
    go_wp2_with fail
    refine bodyPost_ret (v := .agg #[.int .i64 7, .int .i64 1, .int .i64 8]) (by simp [results, Tryd.results75, go_sem]) rfl ?_
    exact ⟨rfl, (((Below.refl _ _).alloc (Nat.le_refl _) _).alloc (by simp) _).alloc (by simp; omega) _⟩
  · go_enter Tryd.func75, Tryd.ntmps75
    go_wp2_with fail
    refine bodyPost_ret (v := .agg #[.int .i64 7, .int .i64 2, .int .i64 8]) (by simp [results, Tryd.results75, go_sem]) rfl ?_
    exact ⟨rfl, (((Below.refl _ _).alloc (Nat.le_refl _) _).alloc (by simp) _).alloc (by simp; omega) _⟩
set_option maxHeartbeats 4000000 in
set_option maxRecDepth 20000 in
theorem rowOf_8 (w : World) (hg : w.rangeAt 0 0 tabL) (hz : 0 < w.heap.size) (e : Bool) (i : Nat) (r : Bool) (d : Int) (hd : 0 ≤ d) (hd1 : d ≤ 15) (a : Option Addr) (n cap : Nat) :
    Calls Tryd.prog 75 #[.int .i64 8, frV e i r d a n cap] w fun o w' => o = .returned (.agg #[.int .i64 8, .int .i64 (rsz 8 e r d), .int .i64 (afterZ 8 e r d)]) ∧ Below w.heap.size w w' := by
  have hb2 : Below w.heap.size w ((w.alloc (.cells #[.bool e, .int .u32 (i : Int), .bool r, .int .i64 d, .slice a n cap] 29)).alloc (.cells #[.int .i64 0, .int .i64 0, .int .i64 0] 97)) := ((Below.refl _ _).alloc (Nat.le_refl _) _).alloc (by simp) _
  have c0 := tab_at hg hz hb2 21 _ rfl
  have c1 := tab_at hg hz hb2 22 _ rfl
  have c2 := tab_at hg hz hb2 23 _ rfl
  clear hg hb2
  have HD : Hid (∀ W, Calls Tryd.prog 88 #[frV e i r d a n cap] W fun o w' => o = .returned (.int .i64 (dlen r d)) ∧ Below W.heap.size W w') := fun W => dataLen_any W e i r d a n cap
  have HA : Hid ((dlen r d = 0 → afterZ 8 e r d = 10) ∧ (dlen r d ≠ 0 → afterZ 8 e r d = 9)) := by
    unfold dlen afterZ
    cases r
    · constructor <;> intro h <;> simp at h ⊢ <;> omega
    · simp [Hid]
  generalize dlen r d = z at *
  generalize afterZ 8 e r d = af at *
  go_enter Tryd.func75, Tryd.ntmps75
  go_wp2_with fail
  refine (HD.out _).mono ?_
  rintro o w5 ⟨rfl, hb5⟩
  have P5 : blk w5 (w.heap.size + 1) ([] ++ [.int .i64 0, .int .i64 0, .int .i64 0] ++ []) 97 := by
    have := ((blk.new (w.alloc (.cells #[.bool e, .int .u32 (i : Int), .bool r, .int .i64 d, .slice a n cap] 29)) [.int .i64 0, .int .i64 0, .int .i64 0] 97).alloc (.cells #[.int .i64 8, .int .i64 4, .int .i64 9] 97)).below hb5
    simpa using this
  have R5 : blk w5 (w.heap.size + 1 + 1) [.int .i64 8, .int .i64 4, .int .i64 9] 97 := by
    have := (blk.new ((w.alloc (.cells #[.bool e, .int .u32 (i : Int), .bool r, .int .i64 d, .slice a n cap] 29)).alloc (.cells #[.int .i64 0, .int .i64 0, .int .i64 0] 97)) [.int .i64 8, .int .i64 4, .int .i64 9] 97).below hb5
    simpa using this
  have HB5 : Hid (Below w.heap.size w w5) := ((((Below.refl _ _).alloc (Nat.le_refl _) _).alloc (by simp) _).alloc (by simp; omega) _).trans (hb5.mono (by simp; omega))
  have p0 := P5.cell 0 _ rfl
  have p1 := P5.cell 1 _ rfl
  have p2 := P5.cell 2 _ rfl
  have fp0 := P5.free 0
  have fp1 := P5.free 1
  have fp2 := P5.free 2
  have r0 := R5.cell 0 _ rfl
  have r1 := R5.cell 1 _ rfl
  have r2 := R5.cell 2 _ rfl
  have fr2 := R5.free 2
  clear P5 R5 hb5
  by_cases hz0 : z = 0
  · have ha := HA.out.1 hz0
    have hq : (z == 0) = true := by simpa using hz0
    clear hz0
    subst ha
    go_wp2_with fail
    refine bodyPost_ret (v := .agg #[.int .i64 8, .int .i64 4, .int .i64 10]) (by simp [results, Tryd.results75, go_sem, p0, p1, p2]) rfl ?_
    refine ⟨rfl, ?_⟩
    (repeat refine Below.setCell ?_ (by simp; try omega) _)
    exact HB5.out
  · have ha := HA.out.2 hz0
    have hq : (z == 0) = false := by simpa using hz0
    clear hz0
    subst ha
    go_wp2_with fail
    refine bodyPost_ret (v := .agg #[.int .i64 8, .int .i64 4, .int .i64 9]) (by simp [results, Tryd.results75, go_sem, p0, p1, p2]) rfl ?_
    refine ⟨rfl, ?_⟩
    (repeat refine Below.setCell ?_ (by simp; try omega) _)
    exact HB5.out
set_option maxHeartbeats 4000000 in
set_option maxRecDepth 20000 in
theorem rowOf_9 (w : World) (hg : w.rangeAt 0 0 tabL) (hz : 0 < w.heap.size) (e : Bool) (i : Nat) (r : Bool) (d : Int) (hd : 0 ≤ d) (hd1 : d ≤ 15) (a : Option Addr) (n cap : Nat) :
    Calls Tryd.prog 75 #[.int .i64 9, frV e i r d a n cap] w fun o w' => o = .returned (.agg #[.int .i64 9, .int .i64 (rsz 9 e r d), .int .i64 (afterZ 9 e r d)]) ∧ Below w.heap.size w w' := by
  have hb2 : Below w.heap.size w ((w.alloc (.cells #[.bool e, .int .u32 (i : Int), .bool r, .int .i64 d, .slice a n cap] 29)).alloc (.cells #[.int .i64 0, .int .i64 0, .int .i64 0] 97)) := ((Below.refl _ _).alloc (Nat.le_refl _) _).alloc (by simp) _
  have c0 := tab_at hg hz hb2 24 _ rfl
  have c1 := tab_at hg hz hb2 25 _ rfl
  have c2 := tab_at hg hz hb2 26 _ rfl
  clear hg hb2
  have HD : Hid (∀ W, Calls Tryd.prog 88 #[frV e i r d a n cap] W fun o w' => o = .returned (.int .i64 (dlen r d)) ∧ Below W.heap.size W w') := fun W => dataLen_any W e i r d a n cap
  have hdl : 0 ≤ dlen r d ∧ dlen r d ≤ 8 := by
    unfold dlen
    cases r <;> simp <;> omega
  have HR : Hid (rsz 9 e r d = 8 * dlen r d) := rfl
  generalize rsz 9 e r d = rs9 at *
  generalize dlen r d = z at *
  obtain ⟨hz1, hz8⟩ := hdl
  go_enter Tryd.func75, Tryd.ntmps75
  go_wp2_with fail
  refine wp_region_held (S := rS w e i r d a n cap) (by kernel_rfl) ?_
  generalize hW3 : (((w.alloc (.cells #[.bool e, .int .u32 (i : Int), .bool r, .int .i64 d, .slice a n cap] 29)).alloc (.cells #[.int .i64 0, .int .i64 0, .int .i64 0] 97)).alloc (.cells #[.int .i64 9, .int .i64 8, .int .i64 10] 97)) = W3 at *
  have hp3 : blk W3 w.heap.size [.bool e, .int .u32 (i : Int), .bool r, .int .i64 d, .slice a n cap] 29 := hW3 ▸ ((blk.new w _ 29).alloc _).alloc _
  have hr3 : blk W3 (w.heap.size + 1) ([] ++ [.int .i64 0, .int .i64 0, .int .i64 0] ++ []) 97 := by
    have := (blk.new (w.alloc (.cells #[.bool e, .int .u32 (i : Int), .bool r, .int .i64 d, .slice a n cap] 29)) [.int .i64 0, .int .i64 0, .int .i64 0] 97).alloc (.cells #[.int .i64 9, .int .i64 8, .int .i64 10] 97)
    rw [← hW3]
    simpa using this
  have hq3 : blk W3 (w.heap.size + 1 + 1) [.int .i64 9, .int .i64 8, .int .i64 10] 97 := by
    have := blk.new ((w.alloc (.cells #[.bool e, .int .u32 (i : Int), .bool r, .int .i64 d, .slice a n cap] 29)).alloc (.cells #[.int .i64 0, .int .i64 0, .int .i64 0] 97)) [.int .i64 9, .int .i64 8, .int .i64 10] 97
    rw [← hW3]
    simpa using this
  have hb3 : Below w.heap.size w W3 := hW3 ▸ (((Below.refl _ _).alloc (Nat.le_refl _) _).alloc (by simp) _).alloc (by simp; omega) _
  obtain ⟨wd, hwd⟩ : ∃ wd, wd = W3.drew := ⟨_, rfl⟩
  change wpAnyH _ _ _ _ _ _ _ _ W3.drew
  rw [← hwd]
  have hwb : Below W3.heap.size W3 wd := hwd ▸ (Below.refl _ _).drew
  have hq := hq3.below hwb
  have hr := hr3.below hwb
  have hs : rS w e i r d a n cap wd := ⟨hp3.below hwb, hb3.trans (hwb.mono hb3.size)⟩
  clear hp3 hr3 hq3 hb3 hwb hwd hW3 c0 c1 c2
  refine wpAnyH_take (i := 0) (v := .pointer (some ⟨w.heap.size + 1 + 1, 1, none⟩)) rfl (by kernel_rfl) (by kernel_rfl) (by kernel_rfl) (fun _ _ _ h => h) (Or.inl ⟨by rfl, ?_⟩) hs ?_
  · intro W hW
    clear hs
    go_simp
  simp only [Act.put, List.setIfInBounds_toArray, List.set_cons_zero, List.set_cons_succ, List.getElem_toArray, List.getElem_cons_zero]
  refine wpAnyH_take (i := 2) (v := .agg [.bool e, .int .u32 (i : Int), .bool r, .int .i64 d, .slice a n cap].toArray) rfl (by kernel_rfl) (by kernel_rfl) (by kernel_rfl) (fun _ _ _ h => h) (yieldsIf_load_mid (by rfl) 29 (.tmp 3) rfl w.heap.size 0 rfl [.bool e, .int .u32 (i : Int), .bool r, .int .i64 d, .slice a n cap] _ (fun W h => h.p.load) Tryd.underlying29 rfl sz29) hs ?_
  simp only [Act.put, List.setIfInBounds_toArray, List.set_cons_zero, List.set_cons_succ, List.getElem_toArray, List.getElem_cons_zero, List.getElem_cons_succ]
  refine wpAnyH_all (rs := [1, 3]) (by kernel_rfl) (by simp) ?_
  refine AllReadyH.cons rfl (fun K hK => ?_) (AllReadyH.cons rfl (fun K hK => ?_) AllReadyH.nil)
  · have yq := hq.cell 1 _ rfl
    go_simp
    clear yq
    refine hK.out _ _ hs (fun hs2 => ?_)
    clear hK K hs2
    refine wpAnyH_all (rs := [3]) (by kernel_rfl) (by simp) ?_
    refine AllReadyH.cons rfl (fun K hK => ?_) AllReadyH.nil
    go_simp
    refine (HD.out _).mono ?_
    rintro o we ⟨rfl, hbe⟩
    have hqe := hq.below hbe
    have hre := hr.below hbe
    have hse : rS w e i r d a n cap we := ⟨hs.p.below hbe, hs.b.trans (hbe.mono hs.b.size)⟩
    go_wp2_with fail
    refine hK.out _ _ hse (fun hs2 => ?_)
    clear hK K hs2
    have hs := hse
    refine wpAnyH_take (i := 4) (v := .int .i64 (8 * z)) rfl (by kernel_rfl) (by kernel_rfl) (by kernel_rfl) (fun _ _ _ h => h) (Or.inl ⟨by rfl, ?_⟩) hs ?_
    · intro W hW
      clear hs
      go_simp
      rw [IntKind.wrap_i64]
      omega
    simp only [Act.put, List.setIfInBounds_toArray, List.set_cons_zero, List.set_cons_succ, List.getElem_toArray, List.getElem_cons_zero, List.getElem_cons_succ]
    refine wpAnyH_take (i := 5) (v := .pointer (some ⟨w.heap.size + 1 + 1, 1, none⟩)) rfl (by kernel_rfl) (by kernel_rfl) (by kernel_rfl) (fun _ _ _ h => h) (Or.inl ⟨by rfl, ?_⟩) hs ?_
    · intro W hW
      clear hs
      go_simp
    simp only [Act.put, List.setIfInBounds_toArray, List.set_cons_zero, List.set_cons_succ, List.getElem_toArray, List.getElem_cons_zero, List.getElem_cons_succ]
    refine wpAnyH_all (rs := [6]) (by kernel_rfl) (by simp) ?_
    refine AllReadyH.cons rfl (fun K hK => ?_) AllReadyH.nil
    have yq := hqe.cell 1 _ rfl
    have fq := hqe.free 1
    go_simp
    have hs9 : rS w e i r d a n cap (we.setCell ⟨w.heap.size + 1 + 1, 1, none⟩ (.int .i64 (8 * z))) := ⟨hs.p.setOther (by omega) _ _, hs.b.setCell (by show _ ≤ _ + _ + _; omega) _⟩
    have hq9 := hqe.set 1 (.int .i64 (8 * z))
    have hr9 := hre.setOther (b' := w.heap.size + 1 + 1) (by omega) 1 (.int .i64 (8 * z))
    refine hK.out _ _ hs9 (fun hs2 => ?_)
    clear hK K hs2
    clear yq fq
    refine wpAnyH_done (by kernel_rfl) ?_ _
    generalize we.setCell ⟨w.heap.size + 1 + 1, 1, none⟩ (.int .i64 (8 * z)) = w9 at *
    have p0 := hr9.cell 0 _ rfl
    have p1 := hr9.cell 1 _ rfl
    have p2 := hr9.cell 2 _ rfl
    have fp0 := hr9.free 0
    have fp1 := hr9.free 1
    have fp2 := hr9.free 2
    have r0 := hq9.cell 0 _ rfl
    have r1 := hq9.cell 1 _ rfl
    have r2 := hq9.cell 2 _ rfl
    have HB9 : Hid (Below w.heap.size w w9) := hs9.b
    clear hr9 hq9 hs9 hqe hre hse hs
    go_wp2_with fail
    refine bodyPost_ret (v := .agg #[.int .i64 9, .int .i64 (8 * z), .int .i64 10]) (by simp [results, Tryd.results75, go_sem, p0, p1, p2]) rfl ?_
    refine ⟨by rw [HR.out]; rfl, ?_⟩
    (repeat refine Below.setCell ?_ (by simp; try omega) _)
    exact HB9.out
  · go_simp
    refine (HD.out _).mono ?_
    rintro o we ⟨rfl, hbe⟩
    have hqe := hq.below hbe
    have hre := hr.below hbe
    have hse : rS w e i r d a n cap we := ⟨hs.p.below hbe, hs.b.trans (hbe.mono hs.b.size)⟩
    go_wp2_with fail
    refine hK.out _ _ hse (fun hs2 => ?_)
    clear hK K hs2
    refine wpAnyH_all (rs := [1]) (by kernel_rfl) (by simp) ?_
    refine AllReadyH.cons rfl (fun K hK => ?_) AllReadyH.nil
    have yq := hqe.cell 1 _ rfl
    go_simp
    clear yq
    refine hK.out _ _ hse (fun hs2 => ?_)
    clear hK K hs2
    have hs := hse
    refine wpAnyH_take (i := 4) (v := .int .i64 (8 * z)) rfl (by kernel_rfl) (by kernel_rfl) (by kernel_rfl) (fun _ _ _ h => h) (Or.inl ⟨by rfl, ?_⟩) hs ?_
    · intro W hW
      clear hs
      go_simp
      rw [IntKind.wrap_i64]
      omega
    simp only [Act.put, List.setIfInBounds_toArray, List.set_cons_zero, List.set_cons_succ, List.getElem_toArray, List.getElem_cons_zero, List.getElem_cons_succ]
    refine wpAnyH_take (i := 5) (v := .pointer (some ⟨w.heap.size + 1 + 1, 1, none⟩)) rfl (by kernel_rfl) (by kernel_rfl) (by kernel_rfl) (fun _ _ _ h => h) (Or.inl ⟨by rfl, ?_⟩) hs ?_
    · intro W hW
      clear hs
      go_simp
    simp only [Act.put, List.setIfInBounds_toArray, List.set_cons_zero, List.set_cons_succ, List.getElem_toArray, List.getElem_cons_zero, List.getElem_cons_succ]
    refine wpAnyH_all (rs := [6]) (by kernel_rfl) (by simp) ?_
    refine AllReadyH.cons rfl (fun K hK => ?_) AllReadyH.nil
    have yq := hqe.cell 1 _ rfl
    have fq := hqe.free 1
    go_simp
    have hs9 : rS w e i r d a n cap (we.setCell ⟨w.heap.size + 1 + 1, 1, none⟩ (.int .i64 (8 * z))) := ⟨hs.p.setOther (by omega) _ _, hs.b.setCell (by show _ ≤ _ + _ + _; omega) _⟩
    have hq9 := hqe.set 1 (.int .i64 (8 * z))
    have hr9 := hre.setOther (b' := w.heap.size + 1 + 1) (by omega) 1 (.int .i64 (8 * z))
    refine hK.out _ _ hs9 (fun hs2 => ?_)
    clear hK K hs2
    clear yq fq
    refine wpAnyH_done (by kernel_rfl) ?_ _
    generalize we.setCell ⟨w.heap.size + 1 + 1, 1, none⟩ (.int .i64 (8 * z)) = w9 at *
    have p0 := hr9.cell 0 _ rfl
    have p1 := hr9.cell 1 _ rfl
    have p2 := hr9.cell 2 _ rfl
    have fp0 := hr9.free 0
    have fp1 := hr9.free 1
    have fp2 := hr9.free 2
    have r0 := hq9.cell 0 _ rfl
    have r1 := hq9.cell 1 _ rfl
    have r2 := hq9.cell 2 _ rfl
    have HB9 : Hid (Below w.heap.size w w9) := hs9.b
    clear hr9 hq9 hs9 hqe hre hse hs
    go_wp2_with fail
    refine bodyPost_ret (v := .agg #[.int .i64 9, .int .i64 (8 * z), .int .i64 10]) (by simp [results, Tryd.results75, go_sem, p0, p1, p2]) rfl ?_
    refine ⟨by rw [HR.out]; rfl, ?_⟩
    (repeat refine Below.setCell ?_ (by simp; try omega) _)
    exact HB9.out
end Go.Proofs.YtjmlalojfghkiaaDoor
