import Derived.Test.YtfbeaekddgpmmaaGreatDoorK23
import Derived.Test.YtfbeaekddgpmmaaGreatDoorK10
import Derived.Deep.DeepCutAuto
import Derived.Deep.RegionHeld3
import Derived.Test.YtfbeaekddgpmmaaGreatDoorK13
namespace Go.Proofs.YtfbeaekddgpmmaaGreatDoor
open Go.RowKit Kd
set_option linter.unusedVariables false
/-- a node, its filters beside it -/
structure Su where
  kind : Nat
  bx : Nat
  fi : Nat
  po : Nat
  ev : Nat
  fs : List H.R3
/-- an order -/
structure Od where
  tick : Nat
  op : Nat
  node : Nat
  tag : Nat
  e : Bool
  id : Nat
  r : Bool
  dlc : Nat
  d : List Nat
  fr : Nat
  ct : Nat
/-- a script -/
structure Sc where
  su : List Su
  od : List Od
  ticks : Nat
def e3 (b : H.R3) : List Value := [.bool b.e, .int .u32 b.m, .int .u32 b.k]
def kS : Kn Su := ⟨55, 6, fun x h => [.int .i64 (x.kind : Int), .int .i64 (x.bx : Int), .int .i64 (x.fi : Int), .int .i64 (x.po : Int), .int .i64 (x.ev : Int), hdV h], 60, 3, fun x => x.fs.length, fun x => x.fs.flatMap e3⟩
def kO : Kn Od := ⟨67, 11, fun x h => [.int .i64 (x.tick : Int), .int .i64 (x.op : Int), .int .i64 (x.node : Int), .int .i64 (x.tag : Int), .bool x.e, .int .u32 (x.id : Int), .bool x.r, .int .i64 (x.dlc : Int), hdV h, .int .i64 (x.fr : Int), .int .i64 (x.ct : Int)], 5, 1, fun x => x.d.length, fun x => bv x.d⟩
/-- the k-th word of a line -/
def wk (ws : List (List UInt8)) (k : Nat) : ByteArray := wd (ws.getD k [])
def nv (s : ByteArray) : Nat := valN (lt s) 10
def hv (s : ByteArray) : Nat := valN (lt s) 16
/-- 1 where the word is that one, else 0 -/
def isN (s : ByteArray) (l : List UInt8) : Nat := if (s.toList == l) = true then 1 else 0
def suOf (s1 s2 s3 s4 s5 : ByteArray) : Su := ⟨isN s1 wOpt, nv s2, nv s3, isN s4 wNew, nv s5, []⟩
def flOf (s2 s3 s4 : ByteArray) : H.R3 := ⟨s2.toList == wX, (hv s3 : Int), (hv s4 : Int)⟩
def odNone (now op node tag fr ct : Nat) : Od := ⟨now, op, node, tag, false, 0, false, 0, [], fr, ct⟩
/-- the order of a line -/
def odOf (now : Nat) (ws : List (List UInt8)) : Od :=
  if ((wk ws 0).toList == wSend) = true then ⟨now, 1, nv (wk ws 1), nv (wk ws 2), (wk ws 3).toList == wX, hv (wk ws 4), false, (datL (wk ws 5)).length, datL (wk ws 5), 0, 0⟩
  else if ((wk ws 0).toList == wAsk) = true then ⟨now, 1, nv (wk ws 1), nv (wk ws 2), (wk ws 3).toList == wX, hv (wk ws 4), true, nv (wk ws 5), [], 0, 0⟩
  else if ((wk ws 0).toList == wDrop) = true then odNone now 2 (nv (wk ws 1)) (nv (wk ws 2)) 0 0
  else if ((wk ws 0).toList == wRestart) = true then odNone now 3 (nv (wk ws 1)) 0 0 0
  else if ((wk ws 0).toList == wFetch) = true then odNone now 4 (nv (wk ws 1)) 0 0 0
  else odNone now 5 (nv (wk ws 1)) 0 (now + nv (wk ws 2)) (nv (wk ws 3))
/-- the order is within its ranges -/
def odOk (ws : List (List UInt8)) : Bool :=
  decide ((odOf 0 ws).tag ≤ 9999) && J.validB (odOf 0 ws).e (odOf 0 ws).id (odOf 0 ws).r ((odOf 0 ws).dlc : Int) (odOf 0 ws).d.length && decide ((odOf 0 ws).fr ≤ 6000) && decide ((odOf 0 ws).ct ≤ 6000)
/-- every word behind the first has its form -/
def formAll (ws : List (List UInt8)) : Bool := (List.range (shapeZ (wk ws 0)).size).all fun i => formB ((shapeZ (wk ws 0)).data.toList.getD i 0).toNat (wk ws (i + 1))
def addF (x : Su) (f : H.R3) : Su := { x with fs := x.fs ++ [f] }
/-- one line: its code, and the script behind it -/
def stepZ (S : Sc) (body : Bool) (ws : List (List UInt8)) : Nat × Sc :=
  if (shapeZ (wk ws 0)).size = 0 then (2, S)
  else if ws.length ≠ (shapeZ (wk ws 0)).size + 1 then (3, S)
  else if (body && (((wk ws 0).toList == wNode) || ((wk ws 0).toList == wAccept))) = true then (4, S)
  else if formAll ws = false then (5, S)
  else if ((wk ws 0).toList == wRun) = true then (if S.ticks + nv (wk ws 1) ≤ 6000 then (0, { S with ticks := S.ticks + nv (wk ws 1) }) else (6, S))
  else if ((wk ws 0).toList == wNode) = true then
    (if H.okCf (nv (wk ws 2)) (nv (wk ws 3)) (isN (wk ws 4) wNew) (nv (wk ws 5)) = true ∧ S.su.length < 32 then (0, { S with su := S.su ++ [suOf (wk ws 1) (wk ws 2) (wk ws 3) (wk ws 4) (wk ws 5)] }) else (6, S))
  else if S.su.length ≤ nv (wk ws 1) then (6, S)
  else if ((wk ws 0).toList == wAccept) = true then
    (match S.su[nv (wk ws 1)]? with
     | some x => if H.okFs (x.fs ++ [flOf (wk ws 2) (wk ws 3) (wk ws 4)]) = true then (0, { S with su := S.su.set (nv (wk ws 1)) (addF x (flOf (wk ws 2) (wk ws 3) (wk ws 4))) }) else (6, S)
     | none => (6, S))
  else if odOk ws = true ∧ S.od.length < 500 then (0, { S with od := S.od ++ [odOf S.ticks ws] }) else (6, S)
/-- what every step keeps -/
structure okS (S : Sc) : Prop where
  su : S.su.length ≤ 32
  od : S.od.length ≤ 500
  ti : S.ticks ≤ 6000
  fl : ∀ x ∈ S.su, x.fs.length ≤ 16
theorem okS.zero : okS ⟨[], [], 0⟩ := ⟨by decide, by decide, by decide, by simp⟩
theorem okS.step {S : Sc} (h : okS S) (body : Bool) (ws : List (List UInt8)) (h0 : (stepZ S body ws).1 = 0) : okS (stepZ S body ws).2 := by
  have a := h.su
  have b := h.od
  unfold stepZ at h0 ⊢
  split
  · exact h
  · split
    · exact h
    · split
      · exact h
      · split
        · exact h
        · split
          · split
            · rename_i hc
              exact ⟨h.su, h.od, hc, h.fl⟩
            · exact h
          · split
            · split
              · rename_i hc
                refine ⟨?_, h.od, h.ti, ?_⟩
                · show (S.su ++ [_]).length ≤ 32
                  rw [List.length_append]
                  have := hc.2
                  simp only [List.length_cons, List.length_nil]
                  omega
                · intro x hx
                  rcases List.mem_append.1 hx with hx | hx
                  · exact h.fl x hx
                  · have : x = suOf (wk ws 1) (wk ws 2) (wk ws 3) (wk ws 4) (wk ws 5) := by simpa using hx
                    subst this
                    simp [suOf]
              · exact h
            · split
              · exact h
              · split
                · split
                  · rename_i x hx
                    split
                    · rename_i hc
                      refine ⟨?_, h.od, h.ti, ?_⟩
                      · show (S.su.set _ _).length ≤ 32
                        rw [List.length_set]; exact h.su
                      · intro y hy
                        rcases List.mem_or_eq_of_mem_set hy with hy | hy
                        · exact h.fl y hy
                        · subst hy
                          unfold H.okFs at hc
                          rw [Bool.and_eq_true, decide_eq_true_eq] at hc
                          exact hc.1
                    · exact h
                  · exact h
                · split
                  · rename_i hc
                    refine ⟨h.su, ?_, h.ti, h.fl⟩
                    show (S.od ++ [_]).length ≤ 500
                    rw [List.length_append]
                    have := hc.2
                    simp only [List.length_cons, List.length_nil]
                    omega
                  · exact h
abbrev scL (c l : Int) (h1 h2 : Hd) (t : Int) : List Value := [.int .i64 c, .int .i64 l, hdV h1, hdV h2, .int .i64 t]
abbrev scV (c l : Int) (h1 h2 : Hd) (t : Int) : Value := .agg #[.int .i64 c, .int .i64 l, hdV h1, hdV h2, .int .i64 t]
theorem sz25 : (Tryz.prog.info? 25).map (·.size) = some 5 := by kernel_rfl
theorem one25 (c l t : Int) (h1 h2 : Hd) : (#[.int .i64 c, .int .i64 l, hdV h1, hdV h2, .int .i64 t] : Array Value).all (·.oneCell') = true := all_oneCell_toArray (by simp [Value.oneCell'])
theorem blk_all {w : World} {b : Nat} {T : TypeId} {old vs : List Value} (h : blk w b old T) (hl : old.length = vs.length) : blk (w.setCells b 0 vs) b vs T := by
  have := blk.put [] old [] vs (w := w) (b := b) (T := T) (by simpa using h) hl
  simpa using this
abbrev noH : Hd := (none, 0, 0)
set_option maxHeartbeats 2000000 in
set_option maxRecDepth 20000 in
/-- spec.l6fail -/
theorem fail_any (c l : Int) (w : World) : Calls Tryz.prog 10 #[.int .i64 c, .int .i64 l] w fun o w' => ∃ h1 h2, o = .returned (scV c l h1 h2 0) ∧ rcR kS w.heap.size (hdV h1) [] w' ∧ rcR kO w.heap.size (hdV h2) [] w' ∧ Below w.heap.size w w' := by
  have HZ := hidYY (((blk.new w (scL 0 0 noH noH 0) 25).alloc (.cells #[] 55)).alloc (.cells #[] 67))
  have HS := hidYY ((rcR.e1 (B := w.heap.size) kS (w.alloc (.cells (scL 0 0 noH noH 0).toArray 25)) (by simp)).below ((Below.refl _ _).alloc (Nat.le_refl _) (.cells #[] 67)))
  have HO := hidYY (rcR.e1 (B := w.heap.size) kO ((w.alloc (.cells (scL 0 0 noH noH 0).toArray 25)).alloc (.cells #[] 55)) (by simp; omega))
  have HB : Hid (Below w.heap.size w (((w.alloc (.cells (scL 0 0 noH noH 0).toArray 25)).alloc (.cells #[] 55)).alloc (.cells #[] 67))) := (((Below.refl _ _).alloc (Nat.le_refl _) _).alloc (by simp) _).alloc (by simp; omega) _
  go_enter Tryz.func10, Tryz.ntmps10
  go_wp2_with (first | (refine wpList_store_mid (P := Tryz.prog) rfl 25 (.tmp 4) (.tmp 9) rfl w.heap.size 0 (scL c l (some ⟨w.heap.size + 1, 0, none⟩, 0, 0) (some ⟨w.heap.size + 2, 0, none⟩, 0, 0) 0).toArray rfl rfl (HZ.out.there 0 5 (by simp)) sz25 (one25 _ _ _ _ _) ?_; generalize hX : World.setCells _ w.heap.size 0 _ = w3; have HX : Hid (World.setCells (((w.alloc (.cells (scL 0 0 noH noH 0).toArray 25)).alloc (.cells #[] 55)).alloc (.cells #[] 67)) w.heap.size 0 (scL c l (some ⟨w.heap.size + 1, 0, none⟩, 0, 0) (some ⟨w.heap.size + 2, 0, none⟩, 0, 0) 0) = w3) := hX; clear hX))
  have e3 := HX.out
  have hF : blk w3 w.heap.size (scL c l (some ⟨w.heap.size + 1, 0, none⟩, 0, 0) (some ⟨w.heap.size + 2, 0, none⟩, 0, 0) 0) 25 := e3 ▸ blk_all HZ.out rfl
  have hL := run_loadVar_mid (P := Tryz.prog) w3 w.heap.size 0 25 _ _ hF.load Tryz.underlying25 rfl sz25
  refine bodyPost_ret (v := scV c l (some ⟨w.heap.size + 1, 0, none⟩, 0, 0) (some ⟨w.heap.size + 2, 0, none⟩, 0, 0) 0) (results_cell Tryz.results10 _ w3 w.heap.size _ rfl hL) rfl ?_
  have hk : Ky [25] w.heap.size (((w.alloc (.cells (scL 0 0 noH noH 0).toArray 25)).alloc (.cells #[] 55)).alloc (.cells #[] 67)) w3 := e3 ▸ (Ky.refl _ _ _).setCells _ _ _ (Nat.le_refl _) ⟨_, _, _, HZ.out, by simp⟩
  refine ⟨_, _, rfl, ?_, ?_, HB.out.trans hk.low⟩
  · have := HS.out.ky hk (by decide) (by decide)
    simpa using this
  · have := HO.out.ky hk (by decide) (by decide)
    simpa using this
abbrev suV (x : Su) (h : Hd) : Value := .agg #[.int .i64 (x.kind : Int), .int .i64 (x.bx : Int), .int .i64 (x.fi : Int), .int .i64 (x.po : Int), .int .i64 (x.ev : Int), hdV h]
theorem Tryz.info55 : (Tryz.prog.info? 55).map (fun i => (i.zero, i.size, i.bytes)) = some (some (.agg #[.int .i64 0, .int .i64 0, .int .i64 0, .int .i64 0, .int .i64 0, .slice none 0 0]), 6, 64) := by kernel_rfl
theorem Tryz.info67 : (Tryz.prog.info? 67).map (fun i => (i.zero, i.size, i.bytes)) = some (some (.agg #[.int .i64 0, .int .i64 0, .int .i64 0, .int .i64 0, .bool false, .int .u32 0, .bool false, .int .i64 0, .slice none 0 0, .int .i64 0, .int .i64 0]), 11, 96) := by kernel_rfl
theorem sz55 : (Tryz.prog.info? 55).map (·.size) = some 6 := by kernel_rfl
theorem sz67 : (Tryz.prog.info? 67).map (·.size) = some 11 := by kernel_rfl
theorem sz52 : (Tryz.prog.info? 52).map (·.size) = some 4 := by kernel_rfl
theorem wp_app_row {o : Oper} {a : Act} {K : Act → World → Prop} {Q : Exit → Act → World → Prop} {w : World} (s x : Operand) (T E : TypeId) (Z : Value) (sz by_ : Nat) (hi0 : (Tryz.prog.info? E).map (fun i => (i.zero, i.size, i.bytes)) = some (some Z, sz, by_)) (hu : Tryz.prog.underlying T = some (.slice E)) (hZ : Z.cells.size = sz) (hsz : 0 < sz) (hby : by_ ≤ 1000)
    (ho : o.op = .call { callee := .builtin .append, args := #[s, x], argTypes := #[T, T] })
    (B n : Nat) (v : Value) (xs : List Value) (hs : a.eval s = v) (hown : w.ownsRow B E sz v n xs) (b : Nat) (news : List Value) (hx : a.eval x = .slice (some ⟨b, 0, none⟩) 1 1) (hl : news.length = sz) (hb : w.heap[b]? = some (.cells news.toArray E)) (h1 : ∀ u ∈ news, u.oneCell' = true) (hn : n ≤ 1000000) (hB : B ≤ w.heap.size)
    (h : ∀ g' k' w', w'.ownsRow B E sz (.slice (some ⟨g', 0, none⟩) (n + 1) k') (n + 1) (xs ++ news) → w.grownBy w' v.ownBlock → (v.ownBlock = some g' ∨ g' = w.heap.size) → K (a.put o.dst (.slice (some ⟨g', 0, none⟩) (n + 1) k')) w') :
    o.wp Tryz.prog a w K Q := by
  obtain ⟨i0, hi, hz0, hz1, hz2⟩ := info_parts hi0
  have hmul : (n + 1) * by_ ≤ (n + 1) * 1000 := Nat.mul_le_mul_left _ hby
  obtain ⟨v', w', hr, h2, h3, h4, h5⟩ := run_append_own_at (P := Tryz.prog) w B T o.type E i0 Z sz by_ hu hi hz0 hz1 hz2 hZ hsz v n xs hown ⟨b, 0, none⟩ 1 1 news (by rw [hl, Nat.one_mul]) (by
    intro j u hj
    have := range_block hb j u hj
    rw [Addr.add_lit]
    exact this) h1 (by unfold maxLen; omega) (by omega) hB
  have hne : v' ≠ .slice none 0 0 := by
    intro e
    obtain ⟨_, e1⟩ := h4.1 e
    cases e1
  obtain ⟨g', k', rfl, q1, q2, q3, q4⟩ := own_slice h2 hne
  unfold Oper.wp execOp
  simp only [ho, resolve, invoke, builtin, Sem.run_bind, Sem.run_pure, Result.andThen_ok, List.map_toArray, List.map_cons, List.map_nil, hs, hx, hr]
  refine h g' k' w' h2 h3 ?_
  rcases h5 with h | h
  · left
    rw [← h]; rfl
  · right
    simpa [Value.ownBlock] using h
abbrev rdL (h1 h2 : Hd) (t : Int) (gr : Nat) (ln : Int) (bg : Bool) : List Value := [.int .i64 0, .int .i64 0, hdV h1, hdV h2, .int .i64 t, .slice (some ⟨gr, 0, none⟩) 9 9, .int .i64 ln, .bool bg]
/-- the reader at work -/
structure rdS (B rb gr : Nat) (S : Sc) (ln : Int) (bg : Bool) (us : List (Su × Hd)) (os : List (Od × Hd)) (h1 h2 : Hd) (W : World) : Prop where
  r : blk W rb (rdL h1 h2 (S.ticks : Int) gr ln bg) 73
  su : rcR kS B (hdV h1) us W
  od : rcR kO B (hdV h2) os W
  eu : us.map (·.1) = S.su
  eo : os.map (·.1) = S.od
  lr : blk W gr lrC 102
  lo : B ≤ rb
theorem rdS.ky {B rb gr : Nat} {S : Sc} {ln : Int} {bg : Bool} {us : List (Su × Hd)} {os : List (Od × Hd)} {h1 h2 : Hd} {W V : World} {L : List Nat} {B' : Nat} (h : rdS B rb gr S ln bg us os h1 h2 W) (hk : Ky L B' W V) (hL : 73 ∉ L ∧ 102 ∉ L ∧ 55 ∉ L ∧ 60 ∉ L ∧ 67 ∉ L ∧ 5 ∉ L) : rdS B rb gr S ln bg us os h1 h2 V :=
  ⟨hk.blk h.r hL.1, h.su.ky hk hL.2.2.1 hL.2.2.2.1, h.od.ky hk hL.2.2.2.2.1 hL.2.2.2.2.2, h.eu, h.eo, hk.blk h.lr hL.2.1, h.lo⟩
theorem rdS.below {B rb gr : Nat} {S : Sc} {ln : Int} {bg : Bool} {us : List (Su × Hd)} {os : List (Od × Hd)} {h1 h2 : Hd} {W V : World} (h : rdS B rb gr S ln bg us os h1 h2 W) (hb : Below W.heap.size W V) : rdS B rb gr S ln bg us os h1 h2 V :=
  h.ky (Ky.of (S := []) hb (Nat.le_refl _)) (by simp)
theorem rdS.ul {B rb gr : Nat} {S : Sc} {ln : Int} {bg : Bool} {us : List (Su × Hd)} {os : List (Od × Hd)} {h1 h2 : Hd} {W : World} (h : rdS B rb gr S ln bg us os h1 h2 W) : us.length = S.su.length ∧ h1.2.1 = S.su.length := by
  have e : us.length = S.su.length := by rw [← h.eu, List.length_map]
  refine ⟨e, ?_⟩
  rcases ownsRow_shape h.su.own with ⟨e1, e2⟩ | ⟨g, k, e1, _⟩
  · injection e1 with _ e3 _
    omega
  · injection e1 with _ e3 _
    omega
theorem rdS.ol {B rb gr : Nat} {S : Sc} {ln : Int} {bg : Bool} {us : List (Su × Hd)} {os : List (Od × Hd)} {h1 h2 : Hd} {W : World} (h : rdS B rb gr S ln bg us os h1 h2 W) : os.length = S.od.length ∧ h2.2.1 = S.od.length := by
  have e : os.length = S.od.length := by rw [← h.eo, List.length_map]
  refine ⟨e, ?_⟩
  rcases ownsRow_shape h.od.own with ⟨e1, e2⟩ | ⟨g, k, e1, _⟩
  · injection e1 with _ e3 _
    omega
  · injection e1 with _ e3 _
    omega
theorem i64_wrap (x : Int) (h0 : -9223372036854775808 ≤ x) (h1 : x < 9223372036854775808) : IntKind.i64.wrap x = x := by
  unfold IntKind.wrap
  simp [IntKind.signed, IntKind.bits]
  omega
set_option maxHeartbeats 4000000 in
set_option maxRecDepth 20000 in
/-- (*reader).takeRun -/
theorem takeRun_any {B rb gr : Nat} {S : Sc} {ln : Int} {bg : Bool} {us : List (Su × Hd)} {os : List (Od × Hd)} {h1 h2 : Hd} (gv cp n : Nat) (w : World) (hR : rdS B rb gr S ln bg us os h1 h2 w) (ht : S.ticks ≤ 6000) (hn : n < 1000000) (hne : gv ≠ rb) (c0 : w.cell? ⟨gv, 0, none⟩ = some (.int .i64 (n : Int))) :
    Calls Tryz.prog 57 #[.pointer (some ⟨rb, 0, none⟩), .slice (some ⟨gv, 0, none⟩) 1 cp] w fun o w' => o = .returned (.bool (decide (S.ticks + n ≤ 6000))) ∧ rdS B rb gr { S with ticks := S.ticks + n } ln bg us os h1 h2 w' ∧ Ky [55, 60, 67, 73] B w w' := by
  have r4 := hR.r.cell 4 _ rfl
  have f4 := hR.r.free 4
  have HR := hidYY hR
  have HF : Hid (rdS B rb gr { S with ticks := S.ticks + n } ln bg us os h1 h2 (w.setCell ⟨rb, 4, none⟩ (.int .i64 ((S.ticks : Int) + n))) ∧ Ky [55, 60, 67, 73] B w (w.setCell ⟨rb, 4, none⟩ (.int .i64 ((S.ticks : Int) + n)))) := by
    have hk : Ky [73] B w (w.setCell ⟨rb, 4, none⟩ (.int .i64 ((S.ticks : Int) + n))) := (Ky.refl _ _ _).setCell _ _ _ hR.lo ⟨_, _, _, hR.r, by simp⟩
    refine ⟨⟨?_, hR.su.ky hk (by decide) (by decide), hR.od.ky hk (by decide) (by decide), hR.eu, hR.eo, hk.blk hR.lr (by decide), hR.lo⟩, hk.mono (by simp) (Nat.le_refl _)⟩
    have := hR.r.set 4 (.int .i64 ((S.ticks : Int) + n))
    exact this
  have hD : decide ((S.ticks : Int) + (n : Int) ≤ 6000) = decide (S.ticks + n ≤ 6000) := by
    apply decide_eq_decide.2
    omega
  have HD := hidYY hD
  have hw : IntKind.i64.wrap ((S.ticks : Int) + (n : Int)) = (S.ticks : Int) + (n : Int) := i64_wrap _ (by omega) (by omega)
  have hne' : rb ≠ gv := fun h => hne h.symm
  clear hR hD
  go_enter Tryz.func57, Tryz.ntmps57
  go_wp2
  go_region
  generalize hX : World.drew _ = w1
  have H1 : Hid (rdS B rb gr { S with ticks := S.ticks + n } ln bg us os h1 h2 w1 ∧ Ky [55, 60, 67, 73] B w w1) := by
    show _ ∧ _
    rw [← hX]
    exact ⟨HF.out.1.below (Below.refl _ _).drew, HF.out.2.below (Below.refl _ _).drew (Nat.le_trans HR.out.lo (Nat.le_trans (Nat.le_of_lt HR.out.r.lt) HF.out.2.size))⟩
  have x4 : w1.cell? ⟨rb, 4, none⟩ = some (.int .i64 ((S.ticks : Int) + n)) := H1.out.1.r.cell 4 _ rfl
  clear hX HF r4 f4
  go_wp2
  go_ret
  exact ⟨ret_bool HD.out, H1.out.1, H1.out.2⟩
theorem wd_toList (x : List UInt8) : (wd x).toList = x := toList_mk x
theorem wk_zero (x : List UInt8) (r : List (List UInt8)) : wk (x :: r) 0 = wd x := rfl
theorem shapeZ_eq (x : List UInt8) : shapeZ (wd x) = if (x == wNode) = true then ⟨#[107, 110, 110, 112, 110]⟩ else if (x == wAccept) = true then ⟨#[110, 120, 104, 104]⟩ else if (x == wSend) = true then ⟨#[110, 110, 120, 104, 100]⟩
  else if (x == wAsk) = true then ⟨#[110, 110, 120, 104, 110]⟩ else if (x == wDrop) = true then ⟨#[110, 110]⟩ else if (x == wRestart) = true then ⟨#[110]⟩ else if (x == wFetch) = true then ⟨#[110]⟩
  else if (x == wFlip) = true then ⟨#[110, 110, 110]⟩ else if (x == wRun) = true then ⟨#[110]⟩ else ⟨#[]⟩ := by
  unfold shapeZ
  rw [wd_toList]
/-- what a row says of its line -/
structure rowOk (r : List UInt8 × Bool × List UInt8 × Nat) : Prop where
  sz : (shapeZ (wd r.1)).size = r.2.2.1.length
  pos : 0 < r.2.2.1.length
  le : r.2.2.1.length ≤ 5
  su : (((wd r.1).toList == wNode) || ((wd r.1).toList == wAccept)) = r.2.1
  kd : ∀ c ∈ r.2.2.1, isKind c.toNat
  fo : ∀ rest : List (List UInt8), rest.length = r.2.2.1.length → formAll (r.1 :: rest) = allForm r.2.2.1 rest
set_option maxRecDepth 20000 in
theorem rows_ok : ∀ r ∈ lrs, rowOk r := by
  intro r hr
  simp only [lrs, List.mem_cons, List.not_mem_nil, or_false] at hr
  rcases hr with rfl | rfl | rfl | rfl | rfl | rfl | rfl | rfl | rfl
  all_goals
    refine ⟨by rw [shapeZ_eq]; rfl, by decide, by decide, by rw [wd_toList]; rfl, by simp [isKind], fun rest hl => ?_⟩
    unfold formAll
    rw [wk_zero, shapeZ_eq]
  · match rest, hl with
    | [a, b, c, d, e], _ => rfl
  · match rest, hl with
    | [a, b, c, d], _ => rfl
  · match rest, hl with
    | [a, b, c, d, e], _ => rfl
  · match rest, hl with
    | [a, b, c, d, e], _ => rfl
  · match rest, hl with
    | [a, b], _ => rfl
  · match rest, hl with
    | [a], _ => rfl
  · match rest, hl with
    | [a], _ => rfl
  · match rest, hl with
    | [a, b, c], _ => rfl
  · match rest, hl with
    | [a], _ => rfl
/-- the place of a word among the rows -/
theorem lrAt_cases (x : List UInt8) : (lrAt x 0 lrs = -1 ∧ (shapeZ (wd x)).size = 0) ∨ ∃ (i : Nat) (r : List UInt8 × Bool × List UInt8 × Nat), lrs[i]? = some r ∧ lrAt x 0 lrs = (i : Int) ∧ r.1 = x ∧ i < 9 := by
  rw [shapeZ_eq]
  by_cases h0 : x = wNode
  · subst h0; exact .inr ⟨0, _, rfl, rfl, rfl, by decide⟩
  by_cases h1 : x = wAccept
  · subst h1; exact .inr ⟨1, _, rfl, rfl, rfl, by decide⟩
  by_cases h2 : x = wSend
  · subst h2; exact .inr ⟨2, _, rfl, rfl, rfl, by decide⟩
  by_cases h3 : x = wAsk
  · subst h3; exact .inr ⟨3, _, rfl, rfl, rfl, by decide⟩
  by_cases h4 : x = wDrop
  · subst h4; exact .inr ⟨4, _, rfl, rfl, rfl, by decide⟩
  by_cases h5 : x = wRestart
  · subst h5; exact .inr ⟨5, _, rfl, rfl, rfl, by decide⟩
  by_cases h6 : x = wFetch
  · subst h6; exact .inr ⟨6, _, rfl, rfl, rfl, by decide⟩
  by_cases h7 : x = wFlip
  · subst h7; exact .inr ⟨7, _, rfl, rfl, rfl, by decide⟩
  by_cases h8 : x = wRun
  · subst h8; exact .inr ⟨8, _, rfl, rfl, rfl, by decide⟩
  left
  have e : ∀ y : List UInt8, ¬ x = y → (x == y) = false ∧ (y == x) = false := fun y h => by
    constructor
    · simpa using h
    · simpa using fun h' => h h'.symm
  refine ⟨?_, ?_⟩
  · simp only [lrs, lrAt, (e _ h0).2, (e _ h1).2, (e _ h2).2, (e _ h3).2, (e _ h4).2, (e _ h5).2, (e _ h6).2, (e _ h7).2, (e _ h8).2, Bool.false_eq_true, if_false]
  · simp only [(e _ h0).1, (e _ h1).1, (e _ h2).1, (e _ h3).1, (e _ h4).1, (e _ h5).1, (e _ h6).1, (e _ h7).1, (e _ h8).1, Bool.false_eq_true, if_false]
    rfl
theorem step_word (S : Sc) (bg : Bool) (x : List UInt8) (rest : List (List UInt8)) (h : (shapeZ (wd x)).size = 0) : stepZ S bg (x :: rest) = (2, S) := by
  unfold stepZ
  rw [wk_zero, if_pos h]
/-- what a line does whose words have their forms -/
def goL (S : Sc) (ws : List (List UInt8)) : Nat × Sc :=
  if ((wk ws 0).toList == wRun) = true then (if S.ticks + nv (wk ws 1) ≤ 6000 then (0, { S with ticks := S.ticks + nv (wk ws 1) }) else (6, S))
  else if ((wk ws 0).toList == wNode) = true then
    (if H.okCf (nv (wk ws 2)) (nv (wk ws 3)) (isN (wk ws 4) wNew) (nv (wk ws 5)) = true ∧ S.su.length < 32 then (0, { S with su := S.su ++ [suOf (wk ws 1) (wk ws 2) (wk ws 3) (wk ws 4) (wk ws 5)] }) else (6, S))
  else if S.su.length ≤ nv (wk ws 1) then (6, S)
  else if ((wk ws 0).toList == wAccept) = true then
    (match S.su[nv (wk ws 1)]? with
     | some x => if H.okFs (x.fs ++ [flOf (wk ws 2) (wk ws 3) (wk ws 4)]) = true then (0, { S with su := S.su.set (nv (wk ws 1)) (addF x (flOf (wk ws 2) (wk ws 3) (wk ws 4))) }) else (6, S)
     | none => (6, S))
  else if odOk ws = true ∧ S.od.length < 500 then (0, { S with od := S.od ++ [odOf S.ticks ws] }) else (6, S)
theorem step_count {S : Sc} {bg : Bool} {r : List UInt8 × Bool × List UInt8 × Nat} {rest : List (List UInt8)} (hr : rowOk r) (h : rest.length ≠ r.2.2.1.length) : stepZ S bg (r.1 :: rest) = (3, S) := by
  unfold stepZ
  have h1 := hr.pos
  rw [wk_zero, if_neg (by rw [hr.sz]; omega), if_pos (by rw [hr.sz, List.length_cons]; omega)]
theorem step_place {S : Sc} {bg : Bool} {r : List UInt8 × Bool × List UInt8 × Nat} {rest : List (List UInt8)} (hr : rowOk r) (h : rest.length = r.2.2.1.length) (hp : (r.2.1 && bg) = true) : stepZ S bg (r.1 :: rest) = (4, S) := by
  unfold stepZ
  have h1 := hr.pos
  rw [wk_zero, if_neg (by rw [hr.sz]; omega), if_neg (by rw [hr.sz, List.length_cons]; omega), if_pos (by rw [hr.su, Bool.and_comm]; exact hp)]
theorem step_form {S : Sc} {bg : Bool} {r : List UInt8 × Bool × List UInt8 × Nat} {rest : List (List UInt8)} (hr : rowOk r) (h : rest.length = r.2.2.1.length) (hp : (r.2.1 && bg) = false) (hf : allForm r.2.2.1 rest = false) : stepZ S bg (r.1 :: rest) = (5, S) := by
  unfold stepZ
  have h1 := hr.pos
  rw [wk_zero, if_neg (by rw [hr.sz]; omega), if_neg (by rw [hr.sz, List.length_cons]; omega), if_neg (by rw [hr.su, Bool.and_comm, hp]; simp), if_pos (by rw [hr.fo rest h]; exact hf)]
/-- behind the forms: what the line itself asks -/
theorem step_go {S : Sc} {bg : Bool} {r : List UInt8 × Bool × List UInt8 × Nat} {rest : List (List UInt8)} (hr : rowOk r) (h : rest.length = r.2.2.1.length) (hp : (r.2.1 && bg) = false) (hf : allForm r.2.2.1 rest = true) : stepZ S bg (r.1 :: rest) = goL S (r.1 :: rest) := by
  unfold stepZ goL
  have h1 := hr.pos
  rw [wk_zero, if_neg (by rw [hr.sz]; omega), if_neg (by rw [hr.sz, List.length_cons]; omega), if_neg (by rw [hr.su, Bool.and_comm, hp]; simp), if_neg (by rw [hr.fo rest h, hf]; simp)]
  try rfl
theorem goL_cons (S : Sc) (x : List UInt8) (rest : List (List UInt8)) : goL S (x :: rest) =
  if (x == wRun) = true then (if S.ticks + nv (wk (x :: rest) 1) ≤ 6000 then (0, { S with ticks := S.ticks + nv (wk (x :: rest) 1) }) else (6, S))
  else if (x == wNode) = true then
    (if H.okCf (nv (wk (x :: rest) 2)) (nv (wk (x :: rest) 3)) (isN (wk (x :: rest) 4) wNew) (nv (wk (x :: rest) 5)) = true ∧ S.su.length < 32 then (0, { S with su := S.su ++ [suOf (wk (x :: rest) 1) (wk (x :: rest) 2) (wk (x :: rest) 3) (wk (x :: rest) 4) (wk (x :: rest) 5)] }) else (6, S))
  else if S.su.length ≤ nv (wk (x :: rest) 1) then (6, S)
  else if (x == wAccept) = true then
    (match S.su[nv (wk (x :: rest) 1)]? with
     | some y => if H.okFs (y.fs ++ [flOf (wk (x :: rest) 2) (wk (x :: rest) 3) (wk (x :: rest) 4)]) = true then (0, { S with su := S.su.set (nv (wk (x :: rest) 1)) (addF y (flOf (wk (x :: rest) 2) (wk (x :: rest) 3) (wk (x :: rest) 4))) }) else (6, S)
     | none => (6, S))
  else if odOk (x :: rest) = true ∧ S.od.length < 500 then (0, { S with od := S.od ++ [odOf S.ticks (x :: rest)] }) else (6, S) := by
  unfold goL
  rw [wk_zero, wd_toList]
  try rfl
theorem goL_run (S : Sc) (a : List UInt8) : goL S [wRun, a] = if S.ticks + nv (wd a) ≤ 6000 then (0, { S with ticks := S.ticks + nv (wd a) }) else (6, S) := by
  rw [goL_cons, if_pos (by decide)]; rfl
theorem goL_node (S : Sc) (a b c d e : List UInt8) : goL S [wNode, a, b, c, d, e] = if H.okCf (nv (wd b)) (nv (wd c)) (isN (wd d) wNew) (nv (wd e)) = true ∧ S.su.length < 32 then (0, { S with su := S.su ++ [suOf (wd a) (wd b) (wd c) (wd d) (wd e)] }) else (6, S) := by
  rw [goL_cons, if_neg (by decide), if_pos (by decide)]; rfl
theorem goL_accept (S : Sc) (a b c d : List UInt8) : goL S [wAccept, a, b, c, d] = if S.su.length ≤ nv (wd a) then (6, S) else (match S.su[nv (wd a)]? with
     | some y => if H.okFs (y.fs ++ [flOf (wd b) (wd c) (wd d)]) = true then (0, { S with su := S.su.set (nv (wd a)) (addF y (flOf (wd b) (wd c) (wd d))) }) else (6, S)
     | none => (6, S)) := by
  rw [goL_cons, if_neg (by decide), if_neg (by decide), if_pos (show (wAccept == wAccept) = true by decide)]; rfl
/-- an order's line -/
theorem goL_od (S : Sc) (x a : List UInt8) (rest : List (List UInt8)) (h1 : (x == wRun) = false) (h2 : (x == wNode) = false) (h3 : (x == wAccept) = false) : goL S (x :: a :: rest) = if S.su.length ≤ nv (wd a) then (6, S) else if odOk (x :: a :: rest) = true ∧ S.od.length < 500 then (0, { S with od := S.od ++ [odOf S.ticks (x :: a :: rest)] }) else (6, S) := by
  rw [goL_cons, if_neg (by rw [h1]; simp), if_neg (by rw [h2]; simp), if_neg (show ¬ (x == wAccept) = true by rw [h3]; simp)]; rfl
theorem odOf_cons (now : Nat) (x : List UInt8) (rest : List (List UInt8)) : odOf now (x :: rest) =
  if (x == wSend) = true then ⟨now, 1, nv (wk (x :: rest) 1), nv (wk (x :: rest) 2), (wk (x :: rest) 3).toList == wX, hv (wk (x :: rest) 4), false, (datL (wk (x :: rest) 5)).length, datL (wk (x :: rest) 5), 0, 0⟩
  else if (x == wAsk) = true then ⟨now, 1, nv (wk (x :: rest) 1), nv (wk (x :: rest) 2), (wk (x :: rest) 3).toList == wX, hv (wk (x :: rest) 4), true, nv (wk (x :: rest) 5), [], 0, 0⟩
  else if (x == wDrop) = true then odNone now 2 (nv (wk (x :: rest) 1)) (nv (wk (x :: rest) 2)) 0 0
  else if (x == wRestart) = true then odNone now 3 (nv (wk (x :: rest) 1)) 0 0 0
  else if (x == wFetch) = true then odNone now 4 (nv (wk (x :: rest) 1)) 0 0 0
  else odNone now 5 (nv (wk (x :: rest) 1)) 0 (now + nv (wk (x :: rest) 2)) (nv (wk (x :: rest) 3)) := by
  unfold odOf
  rw [wk_zero, wd_toList]
theorem od_send (now : Nat) (a b c d e : List UInt8) : odOf now [wSend, a, b, c, d, e] = ⟨now, 1, nv (wd a), nv (wd b), (wd c).toList == wX, hv (wd d), false, (datL (wd e)).length, datL (wd e), 0, 0⟩ := by
  rw [odOf_cons, if_pos (by decide)]; rfl
theorem od_ask (now : Nat) (a b c d e : List UInt8) : odOf now [wAsk, a, b, c, d, e] = ⟨now, 1, nv (wd a), nv (wd b), (wd c).toList == wX, hv (wd d), true, nv (wd e), [], 0, 0⟩ := by
  rw [odOf_cons, if_neg (by decide), if_pos (by decide)]; rfl
theorem od_drop (now : Nat) (a b : List UInt8) : odOf now [wDrop, a, b] = odNone now 2 (nv (wd a)) (nv (wd b)) 0 0 := by
  rw [odOf_cons, if_neg (by decide), if_neg (by decide), if_pos (by decide)]; rfl
theorem od_restart (now : Nat) (a : List UInt8) : odOf now [wRestart, a] = odNone now 3 (nv (wd a)) 0 0 0 := by
  rw [odOf_cons, if_neg (by decide), if_neg (by decide), if_neg (by decide), if_pos (by decide)]; rfl
theorem od_fetch (now : Nat) (a : List UInt8) : odOf now [wFetch, a] = odNone now 4 (nv (wd a)) 0 0 0 := by
  rw [odOf_cons, if_neg (by decide), if_neg (by decide), if_neg (by decide), if_neg (by decide), if_pos (by decide)]; rfl
theorem od_flip (now : Nat) (a b c : List UInt8) : odOf now [wFlip, a, b, c] = odNone now 5 (nv (wd a)) 0 (now + nv (wd b)) (nv (wd c)) := by
  rw [odOf_cons, if_neg (by decide), if_neg (by decide), if_neg (by decide), if_neg (by decide), if_neg (by decide)]; rfl
theorem validB_zero : J.validB false 0 false ((0 : Nat) : Int) 0 = true := by decide
/-- what a word of its form is worth -/
theorem num_lt (s : ByteArray) (b m : Nat) (hb : 1 ≤ b) (h : numB (lt s) b m = true) : valN (lt s) b < b ^ m := by
  unfold numB at h
  rw [Bool.and_eq_true, Bool.and_eq_true, decide_eq_true_eq, decide_eq_true_eq] at h
  have h1 := valN_lt (lt s) b (fun c hc => by have := List.all_eq_true.1 h.2 c hc; simpa using this)
  exact Nat.lt_of_lt_of_le h1 (Nat.pow_le_pow_right hb h.1.2)
theorem num_size (s : ByteArray) (b m : Nat) (h : numB (lt s) b m = true) : s.size ≤ m := by
  unfold numB at h
  rw [Bool.and_eq_true, Bool.and_eq_true, decide_eq_true_eq, decide_eq_true_eq, lt_length] at h
  exact h.1.2
theorem choice_isN (s : ByteArray) (a b : List UInt8) (hab : (a == b) = false) (h : ((s.toList == a) || (s.toList == b)) = true) : choice s a b = (isN s b : Int) := by
  unfold choice isN
  cases h1 : (s.toList == a)
  · rw [h1, Bool.false_or] at h
    rw [h]
    rfl
  · have e : s.toList = a := by simpa using h1
    rw [e, hab]
    rfl
theorem isN_one (s : ByteArray) (b : List UInt8) : ((isN s b : Int) == 1) = (s.toList == b) := by
  unfold isN
  cases (s.toList == b) <;> rfl
set_option maxHeartbeats 2000000 in
set_option maxRecDepth 20000 in
/-- spec.l6filter -/
theorem filter_any (g cp : Nat) (s2 s3 s4 : ByteArray) (w : World) (c2 : w.cell? ⟨g, 2, none⟩ = some (.string s2)) (c3 : w.cell? ⟨g, 3, none⟩ = some (.string s3)) (c4 : w.cell? ⟨g, 4, none⟩ = some (.string s4)) (h3 : s3.size ≤ 8) (h4 : s4.size ≤ 8) (hv3 : hv s3 < 4294967296) (hv4 : hv s4 < 4294967296) :
    Calls Tryz.prog 26 #[.slice (some ⟨g, 0, none⟩) 5 cp] w fun o w' => o = .returned (H.flV (flOf s2 s3 s4).e (flOf s2 s3 s4).m (flOf s2 s3 s4).k) ∧ Below w.heap.size w w' := by
  have hgl : g < w.heap.size := World.block_lt_of_cell? w _ c2
  have HV3 := hidYY (fun w => value_any s3 16 (by decide) h3 w)
  have HV4 := hidYY (fun w => value_any s4 16 (by decide) h4 w)
  have e3 : (valN (lt s3) 16 : Int) = (hv s3 : Int) := rfl
  have e4 : (valN (lt s4) 16 : Int) = (hv s4 : Int) := rfl
  rw [e3] at HV3
  rw [e4] at HV4
  have w3 : IntKind.u32.wrap (hv s3 : Int) = (hv s3 : Int) := u32_wrap _ (by omega) (by omega)
  have w4 : IntKind.u32.wrap (hv s4 : Int) = (hv s4 : Int) := u32_wrap _ (by omega) (by omega)
  clear e3 e4 h3 h4
  have HFL : Hid (∀ b, (s2.toList == wX) = b → H.flV b (hv s3) (hv s4) = H.flV (flOf s2 s3 s4).e (flOf s2 s3 s4).m (flOf s2 s3 s4).k) := fun b hb => by subst hb; rfl
  have HB : Hid (Below w.heap.size w (w.alloc (.cells #[.bool false, .int .u32 0, .int .u32 0] 60))) := (Below.refl _ _).alloc (Nat.le_refl _) _
  have d2 : (w.alloc (.cells #[.bool false, .int .u32 0, .int .u32 0] 60)).cell? ⟨g, 2, none⟩ = some (.string s2) := (HB.out.cell hgl).trans c2
  have d3 : (w.alloc (.cells #[.bool false, .int .u32 0, .int .u32 0] 60)).cell? ⟨g, 3, none⟩ = some (.string s3) := (HB.out.cell hgl).trans c3
  have d4 : (w.alloc (.cells #[.bool false, .int .u32 0, .int .u32 0] 60)).cell? ⟨g, 4, none⟩ = some (.string s4) := (HB.out.cell hgl).trans c4
  have HZ := hidYY (blk.new w [.bool false, .int .u32 0, .int .u32 0] 60)
  have z0 : (w.alloc (.cells #[.bool false, .int .u32 0, .int .u32 0] 60)).cell? ⟨w.heap.size, 0, none⟩ = some (.bool false) := HZ.out.cell 0 _ rfl
  have z1 : (w.alloc (.cells #[.bool false, .int .u32 0, .int .u32 0] 60)).cell? ⟨w.heap.size, 1, none⟩ = some (.int .u32 0) := HZ.out.cell 1 _ rfl
  have z2 : (w.alloc (.cells #[.bool false, .int .u32 0, .int .u32 0] 60)).cell? ⟨w.heap.size, 2, none⟩ = some (.int .u32 0) := HZ.out.cell 2 _ rfl
  have f0 : (w.alloc (.cells #[.bool false, .int .u32 0, .int .u32 0] 60)).frozen? ⟨w.heap.size, 0, none⟩ = false := HZ.out.free 0
  have f1 : (w.alloc (.cells #[.bool false, .int .u32 0, .int .u32 0] 60)).frozen? ⟨w.heap.size, 1, none⟩ = false := HZ.out.free 1
  have f2 : (w.alloc (.cells #[.bool false, .int .u32 0, .int .u32 0] 60)).frozen? ⟨w.heap.size, 2, none⟩ = false := HZ.out.free 2
  go_enter Tryz.func26, Tryz.ntmps26
  go_wp2
  generalize w.alloc (.cells #[.bool false, .int .u32 0, .int .u32 0] 60) = W at *
  generalize hN : w.heap.size = N at *
  have HNE := hidYY hN
  clear hN
  have hgn : g ≠ N := by omega
  have hgn' : N ≠ g := by omega
  go_region_held3 (fun V => V.cell? ⟨g, 2, none⟩ = some (.string s2) ∧ V.cell? ⟨g, 3, none⟩ = some (.string s3) ∧ V.cell? ⟨g, 4, none⟩ = some (.string s4)) (first | assumption | go_keep) (first | (go_at_call_of 24 (Value.string s3); refine (HV3.out _).mono ?_; rintro o w1 ⟨rfl, rfl⟩) | (go_at_call_of 24 (Value.string s4); refine (HV4.out _).mono ?_; rintro o w1 ⟨rfl, rfl⟩))
  go_wp2
  refine bodyPost_ret (v := H.flV (s2.toList == wX) (hv s3) (hv s4)) (by simp [results, Tryz.results26, go_sem, z0, z1, z2]) rfl ?_
  refine ⟨rfl, ?_⟩
  rw [HNE.out]
  exact (((HB.out.setCell (p := ⟨_, 0, none⟩) (by exact Nat.le_refl _) _).setCell (p := ⟨_, 1, none⟩) (by exact Nat.le_refl _) _).setCell (p := ⟨_, 2, none⟩) (by exact Nat.le_refl _) _).drew
theorem vlS.more {kd : List UInt8} {ws : List (List UInt8)} {w : World} {k : Nat} {v v' : Value} {rs : List (Vl × Hd)} {wr W5 W6 : World} (h1 : k < kd.length) (h2 : k < ws.length) (h : vlS kd ws w k v rs wr) (hit : W5.heap[w.heap.size]? = some (.stringIter ⟨kd.toArray⟩ (k + 1))) (hrc : rcR kV w.heap.size v rs W5) (hlo : Below w.heap.size w W5) (hsz : w.heap.size < W5.heap.size) (hd : Hd)
    (hf : formI kd[k].toNat (wd ws[k]) = true) (hda : W5.ownsRow w.heap.size 5 1 (hdV hd) (vlOf kd[k].toNat (wd ws[k])).d.length (bv (vlOf kd[k].toNat (wd ws[k])).d)) (hfr : ∀ r ∈ rs, ∀ x, r.2.1 = some x → hd.1 ≠ some x)
    (ho : W6.ownsRow w.heap.size 132 3 v' (k + 1) (rs.flatMap (fun r => kV.enc r.1 r.2) ++ kV.enc (vlOf kd[k].toNat (wd ws[k])) hd)) (hg : W5.grownBy W6 v.ownBlock) : vlS kd ws w (k + 1) v' (rs ++ [(vlOf kd[k].toNat (wd ws[k]), hd)]) W6 := by
  have hky := hrc.grow (S := [132]) (by simp [kV]) hg (Nat.le_of_lt hsz)
  refine ⟨?_, hrc.app (by decide) (vlOf kd[k].toNat (wd ws[k]), hd) hda hfr (by rw [h.rl]; exact ho) hg, by simp [h.rl], ?_, ?_, hlo.trans hky.low, Nat.lt_of_lt_of_le hsz hg.size⟩
  · refine (hg.block _ (lt_of_some hit) fun e => ?_).trans hit
    rcases ownsRow_shape hrc.own with ⟨e2, _⟩ | ⟨g2, k2, e2, _⟩
    · rw [e2] at e; cases e
    · obtain ⟨c2, hc2⟩ := ownsRow_kind hrc.own e2
      rw [e2] at e
      have e3 : w.heap.size = g2 := by injection e
      rw [← e3, hit] at hc2
      cases hc2
  · rw [List.map_append, h.el, vals_snoc kd ws k h1 h2]
    rfl
  · rw [form_snoc kd ws k h1 h2, List.all_append, h.fo]
    simp [hf]
set_option maxHeartbeats 4000000 in
set_option maxRecDepth 100000 in
/-- (*reader).values -/
theorem values_any (rb g cp : Nat) (ln : Int) (kd : List UInt8) (ws : List (List UInt8)) (w : World) (hkd : ∀ c ∈ kd, isKind c.toNat) (hkl : kd.length ≤ 8) (hlw : ws.length = kd.length) (hwc : wordsAt w g ws) (hok : okWs ws) (hln : w.cell? ⟨rb, 6, none⟩ = some (.int .i64 ln)) :
    Calls Tryz.prog 62 #[.pointer (some ⟨rb, 0, none⟩), .string ⟨kd.toArray⟩, (.slice (some ⟨g, 1, none⟩) kd.length cp)] w fun o w' => ((allForm kd ws = true ∧ ∃ v rs, o = .returned (.tuple #[v, .nilIface]) ∧ rcR kV w.heap.size v rs w' ∧ rs.map (·.1) = vals kd ws) ∨ (allForm kd ws = false ∧ ∃ s, o = .returned (.tuple #[.slice none 0 0, .iface 141 (.agg #[.string s, .iface 41 (.agg #[.int .i64 5, .int .i64 ln])])]))) ∧ Below w.heap.size w w' := by
  have hrbl : rb < w.heap.size := World.block_lt_of_cell? w _ hln
  have hsz : (⟨kd.toArray⟩ : ByteArray).size = kd.length := rfl
  have HK := hidYY hkd
  have HW := hidYY hwc
  have HOK := hidYY hok
  have HLN := hidYY hln
  have HS0 := hidYY (vlS.zero kd ws w)
  have HLW := hidYY hlw
  clear hkd hwc hok hln hlw
  go_enter Tryz.func62, Tryz.ntmps62
  go_wp2
  go_loopw [8] (fun v wr => ∃ k rs, k ≤ kd.length ∧ vlS kd ws w k v rs wr) (fun _ wr => kd.length - wr.iterPos w.heap.size)
  case atStart => exact ⟨0, [], Nat.zero_le _, HS0.out⟩
  case round =>
    clear HS0
    obtain ⟨k, rs, hk, hst⟩ := hrel
    have HST := hidYY hst
    have hit := hst.it
    have hmu : wr.iterPos w.heap.size = k := by simp [World.iterPos, hit]
    have HMU := hidYY hmu
    clear hst hmu
    by_cases hp : k < kd.length
    · have hkw : k < ws.length := by rw [HLW.out]; exact hp
      have hps : k < (⟨kd.toArray⟩ : ByteArray).size := hp
      have ekd : (⟨kd.toArray⟩ : ByteArray)[k] = kd[k] := rfl
      have hK := HK.out kd[k] (List.getElem_mem hp)
      have h128 : ((⟨kd.toArray⟩ : ByteArray)[k]).toNat < 128 := by rw [ekd]; unfold isKind at hK; omega
      have hnext : ∀ ty, (Instr.next (.pointer (some ⟨w.heap.size, 0, none⟩)) true ty).run Tryz.prog wr = _ := fun ty => Lib.run_next_ascii_at wr w.heap.size ⟨kd.toArray⟩ k ty hit hps h128
      rw [ekd] at hnext
      have HNX := hidYY HST.out.next
      generalize wr.iterAt w.heap.size ⟨kd.toArray⟩ (k + 1) = W1 at hnext HNX
      have hcell : W1.cell? ⟨g, 1 + k, none⟩ = some (.string (wd ws[k])) := (HNX.out.2.2.1.cell (World.block_lt_of_cell? w _ (HW.out k hkw))).trans (HW.out k hkw)
      have hokk := HOK.out ws[k] (List.getElem_mem hkw)
      have HVO := hidYY (valueOf_any kd[k].toNat hK (wd ws[k]) hokk.1 hokk.2.1 (fun j hj => hokk.2.2 _ (List.getElem_mem hj)) W1)
      clear hK h128 hokk
      have HWK : Hid (∀ V, Below w.heap.size w V → V.cell? ⟨g, 1 + k, none⟩ = some (.string (wd ws[k]))) := (fun (V : World) (hV : Below w.heap.size w V) => (hV.cell (World.block_lt_of_cell? w _ (HW.out k hkw))).trans (HW.out k hkw))
      have HF1 := hidYY (form_bad kd ws k hp hkw)
      have HMR := hidYY (fun (v' : Value) (W5 W6 : World) => HST.out.more (v' := v') (W5 := W5) (W6 := W6) hp hkw)
      generalize kd[k].toNat = ck at *
      generalize wd ws[k] = sk at *
      clear hps ekd hsz
      go_wp2_with fail
      refine HVO.out.mono ?_
      rintro o W2 ⟨nn, xx, hd, rfl, hyes, hb2⟩
      have HIT2 := hidYY (iter_below2 HNX.out.2.1 hb2)
      have HRC2 := hidYY (HNX.out.1.below hb2)
      have HLO2 := hidYY (HNX.out.2.2.1.trans (hb2.mono (Nat.le_of_lt HNX.out.2.2.2)))
      have HSZ2 : Hid (w.heap.size < W2.heap.size) := Nat.lt_of_lt_of_le HNX.out.2.2.2 hb2.size
      have HYE := hidYY hyes
      have HFR := hidYY (fun (h : formI ck sk = true) => HNX.out.1.fresh (Nat.le_refl _) (hyes h).2.2)
      have HNS : Hid (w.heap.size ≤ W1.heap.size) := Nat.le_of_lt HNX.out.2.2.2
      clear hyes hb2 HVO HNX hnext hcell hit
      have HZ := hidYY (blk.new W2 [.int .i64 0, .int .u32 0, .slice none 0 0] 132)
      have HZB : Hid (Below W2.heap.size W2 (W2.alloc (.cells [.int .i64 0, .int .u32 0, .slice none 0 0].toArray 132))) := (Below.refl _ _).alloc (Nat.le_refl _) _
      go_upto_region 6 with (first | (refine wpList_store_mid (P := Tryz.prog) rfl 132 (.tmp 11) (.tmp 26) rfl W2.heap.size 0 [.int .i64 nn, .int .u32 xx, hdV hd].toArray rfl rfl (HZ.out.there 0 3 (by simp)) sz132 (one132 _ _ _) ?_; generalize hX : World.setCells _ W2.heap.size 0 _ = W3; have HX3 : Hid (World.setCells (W2.alloc (.cells [.int .i64 0, .int .u32 0, .slice none 0 0].toArray 132)) W2.heap.size 0 [.int .i64 nn, .int .u32 xx, hdV hd] = W3) := hX; clear hX))
      have HB3 : Hid (Below W2.heap.size W2 W3) := by show Below _ _ _; rw [← HX3.out]; exact setCells_below (Nat.le_refl _) 0 _ HZB.out
      have HP3 : Hid (blk W3 W2.heap.size [.int .i64 nn, .int .u32 xx, hdV hd] 132) := by
        show blk _ _ _ _
        rw [← HX3.out]
        have := blk.put [] [.int .i64 0, .int .u32 0, .slice none 0 0] [] [.int .i64 nn, .int .u32 xx, hdV hd] (w := W2.alloc (.cells [.int .i64 0, .int .u32 0, .slice none 0 0].toArray 132)) (b := W2.heap.size) (T := 132) (by simpa using HZ.out) rfl
        simpa using this
      clear HX3 HZ HZB
      have HLO3 := hidYY (HLO2.out.trans (HB3.out.mono (Nat.le_of_lt HSZ2.out)))
      cases hf : formI ck sk
      · have c6 : W3.cell? ⟨rb, 6, none⟩ = some (.int .i64 ln) := (HLO3.out.cell hrbl).trans HLN.out
        have c7 : W3.cell? ⟨g, 1 + k, none⟩ = some (.string sk) := HWK.out W3 HLO3.out
        have HAF := hidYY (HF1.out hf)
        have HFT := hidYY (fun W => fault_any rb ln 5 W)
        have HWW := hidYY (fun (q : Nat) => below_drewN HLO3.out q)
        go_wp2
        go_region_with (go_at_call 61; refine (HFT.out _ ?_).mono ?_; simpa using c6; rintro o w4 ⟨rfl, rfl⟩)
        all_goals
          go_wp2
          go_ret2
          exact ⟨.inr ⟨HAF.out, _, rfl⟩, HLO3.out.drew⟩
      · obtain ⟨e1, e2, hda⟩ := HYE.out hf
        have HFD := hidYY (HFR.out hf)
        have HNB := hidYY (heap_alloc_new W3 (.cells [.int .i64 nn, .int .u32 xx, hdV hd].toArray 132))
        have HB4 : Hid (Below W3.heap.size W3 (W3.alloc (.cells [.int .i64 nn, .int .u32 xx, hdV hd].toArray 132))) := (Below.refl _ _).alloc (Nat.le_refl _) _
        have HDA := hidYY (ownsRow_lower hda HNS.out)
        have HEE := hidYY (And.intro e1 e2)
        have HHF := hidYY hf
        have HSZ4 : Hid (w.heap.size < (W3.alloc (.cells [.int .i64 nn, .int .u32 xx, hdV hd].toArray 132)).heap.size) := Nat.lt_of_lt_of_le HSZ2.out (Nat.le_trans HB3.out.size HB4.out.size)
        have HRC4 := hidYY ((HRC2.out.below HB3.out).below HB4.out)
        have HIT4 := hidYY (iter_below2 (iter_below2 HIT2.out HB3.out) HB4.out)
        have HDA4 := hidYY ((Ky.of (S := []) HB4.out (Nat.le_refl _)).row ((Ky.of (S := []) HB3.out (Nat.le_refl _)).row HDA.out (by simp)) (by simp))
        have HLO4 := hidYY (HLO3.out.trans (HB4.out.mono (Nat.le_trans (Nat.le_of_lt HSZ2.out) HB3.out.size)))
        have HKL : Hid (k ≤ 1000000) := by show k ≤ 1000000; omega
        clear e1 e2 hda HYE HFR HRC2 HIT2 HLO2 HB3 HB4 HDA
        go_wp2_with (first | (refine wpList_load_mid (P := Tryz.prog) rfl 132 (.tmp 11) rfl W2.heap.size 0 rfl [.int .i64 nn, .int .u32 xx, hdV hd] _ HP3.out.load Tryz.underlying132 rfl sz132 ?_) | (at_builtin; refine app_row rfl (.tmp 38) (.tmp 40) 107 132 _ 3 40 Tryz.info132 Tryz.underlying107 rfl (by decide) (by decide) rfl w.heap.size k _ (rs.flatMap (fun r => kV.enc r.1 r.2)) rfl (by have := HRC4.out.own; rw [HST.out.rl] at this; exact this) W3.heap.size [.int .i64 nn, .int .u32 xx, hdV hd] rfl rfl HNB.out (by simp [Value.oneCell']) HKL.out (Nat.le_of_lt HSZ4.out) ?_))
        intro g' k' w5 hown5 hgr5 hgg5
        have HOW5 := hidYY hown5
        have HGR5 := hidYY hgr5
        clear hown5 hgr5 hgg5
        have hms := HMR.out _ _ w5 HIT4.out HRC4.out HLO4.out HSZ4.out hd HHF.out HDA4.out HFD.out (by
          have := HOW5.out
          rw [show kV.enc (vlOf ck sk) hd = [.int .i64 nn, .int .u32 xx, hdV hd] by rw [HEE.out.1, HEE.out.2]; rfl]
          exact this) HGR5.out
        have hm2 : w5.iterPos w.heap.size = k + 1 := by simp [World.iterPos, hms.it]
        have HMS := hidYY hms
        have HM2 := hidYY hm2
        clear hms hm2
        go_wp2
        go_roundw
        case rel => exact ⟨k + 1, _, by omega, HMS.out⟩
        case measure =>
          rw [HMU.out, HM2.out]
          omega
    · have hke : k = kd.length := by omega
      have hnext : ∀ ty, (Instr.next (.pointer (some ⟨w.heap.size, 0, none⟩)) true ty).run Tryz.prog wr = _ := fun ty => Lib.run_next_end_at wr w.heap.size ⟨kd.toArray⟩ k ty hit hp
      have HFA : Hid (allForm kd ws = true) := by
        have := HST.out.fo
        rw [List.take_of_length_le (by have := HLW.out; simp; omega)] at this
        exact this
      have HEL : Hid (rs.map (·.1) = vals kd ws) := by
        have := HST.out.el
        rw [List.take_of_length_le (by have := HLW.out; simp [vals]; omega)] at this
        exact this
      go_wp2
      go_ret2
      exact ⟨.inl ⟨HFA.out, _, rs, rfl, HST.out.rc, HEL.out⟩, HST.out.lo⟩
end Go.Proofs.YtfbeaekddgpmmaaGreatDoor
