import Derived.Test.YtpknchjjfiiaeaaGreatDoorV12
namespace Go.Proofs.YtpknchjjfiiaeaaGreatDoor.J
open Go.RowKit
theorem gfI.start2 {w0 wS : World} {b : Nat} {a : Option Addr} {n cap : Nat} {l : List Nat} {i R : Nat} {W : World} (h : grI w0 wS b a n cap l i R W) (e : Bool) (id : Nat) (r : Bool) (d : Int) (ao : Option Addr) (m cap' : Nat) (dl : List Nat) (ho : ownsB W wS.heap.size (.slice ao m cap') dl) (hne : (Value.slice ao m cap').ownBlock ≠ some R) :
    gfI w0 wS b a n cap l i W.heap.size R e id r d (.slice ao m cap') dl (W.alloc (.cells #[.bool e, .int .u32 (id : Int), .bool r, .int .i64 d, .slice ao m cap'] 33)) := by
  obtain ⟨d2, d4⟩ := h.dis
  have hz := h.gb.size
  have hR := lt_of_block h.res
  have hB : Below W.heap.size W (W.alloc (.cells #[.bool e, .int .u32 (id : Int), .bool r, .int .i64 d, .slice ao m cap'] 33)) := (Below.refl _ _).alloc (Nat.le_refl _) _
  refine ⟨h.src.below hB h.src.lt, gb_below h.gb (hB.mono hz), heap_alloc_new W _, (hB.block _ hR).trans h.res, World.ownsRow.alloc ho _, ⟨fun e => ?_, hne⟩, by omega, by omega, by omega, by omega⟩
  have := (World.ownsRow.lt ho _ e).2
  omega
/-- one letter put behind a row of its own, in a plain list -/
theorem list_app2 {ci : Int} {ops : Array Oper} {rest : List Oper} {o : Oper} {a : Act} {Q : Exit → Act → World → Prop} (wr W : World) (hW : W = wr.alloc (.cells #[.int .u8 ci] 5)) (hgd : o.guard = none) (s x : Operand)
    (ho : o.op = .call { callee := .builtin .append, args := #[s, x], argTypes := #[22, 22] })
    (B : Nat) (v : Value) (l : List Nat) (c : Nat) (hci : ci = (c : Int)) (hs : a.eval s = v) (hown : ownsB wr B v l)
    (hx : a.eval x = .slice (some ⟨wr.heap.size, 0, none⟩) 1 1) (hlen : l.length ≤ 100000000) (hB : B ≤ wr.heap.size)
    (h : ∀ ao cap' w', ownsB w' B (.slice ao (l.length + 1) cap') (l ++ [c]) → (wr.alloc (.cells #[.int .u8 (c : Int)] 5)).grownBy w' v.ownBlock → (∀ g, g < wr.heap.size → v.ownBlock ≠ some g → (Value.slice ao (l.length + 1) cap').ownBlock ≠ some g) → wpList Tryz.prog ops Q rest (a.put o.dst (.slice ao (l.length + 1) cap')) w') :
    wpList Tryz.prog ops Q (o :: rest) a W := by
  subst hci hW
  obtain ⟨i0, hi, hz0, hz1, hz2⟩ := info_parts Tryz.info5
  refine wpList_append_lies _ hgd s x 22 ho B 5 i0 (.int .u8 0) 1 1 Tryz.underlying22 hi hz0 hz1 hz2 rfl (by decide) v l.length (bv l) hs (World.ownsRow.alloc hown _) ⟨wr.heap.size, 0, none⟩ 1 1 [.int .u8 (c : Int)] hx rfl ?_ ?_ (by decide) ?_ ?_ ?_ (wr.heap.size + 1) (by simp) ?_
  · intro j u hj
    match j, hj with
    | 0, hj => simp at hj; subst hj; simp [Addr.add]
  · intro u hu; simp at hu; subst hu; rfl
  · unfold maxLen; omega
  · omega
  · simp; omega
  · intro gg cap w' ho' hg hat hlt
    have e1 : bv (l ++ [c]) = bv l ++ [.int .u8 (c : Int)] := by simp [bv]
    refine h (some ⟨gg, 0, none⟩) cap w' ?_ hg (fun g hgl hne => ?_)
    · unfold ownsB
      rw [e1, List.length_append]
      exact ho'
    · intro e
      simp [Value.ownBlock] at e
      rcases hat with hat | hat
      · exact hne (e ▸ hat)
      · omega
set_option maxHeartbeats 4000000 in
set_option maxRecDepth 20000 in
theorem genAny_any (w0 w : World) (b : Nat) (a : Option Addr) (n cap i : Nat) (l : List Nat) (h : srcI w0 b a n cap l i w) (hi : i ≤ 100000000) :
    Calls Tryz.prog 39 #[.pointer (some ⟨b, 0, none⟩)] w fun o w' => gfOut w0 w b a n cap l i 102 9 (-1) 16 o w' := by
  have st := grI.start h
  have HI : Hid (i ≤ 100000000) := hi
  clear h hi
  go_enter Tryz.func39, Tryz.ntmps39
  go_wp2_with fail
  refine (genFrame_any w0 _ b a n cap i l st.src (by have := HI.out; omega)).mono ?_
  rintro o w1 ⟨fe, id, fr, d, ao, cp, i1, dl, rfl, hid, hd, hl8, hby, hi1, hs1, ho1, hg1⟩
  have st1 := st.step hs1 hg1
  have hz1 : (w.alloc (.cells #[.bool false, .int .u32 0, .bool false, .int .i64 0, .slice none 0 0] 33)).heap.size = w.heap.size + 1 := by simp
  have hne : (Value.slice ao dl.length cp).ownBlock ≠ some w.heap.size := fun e => by
    have := (World.ownsRow.lt ho1 _ e).1
    omega
  have hlow : ownsB w1 w.heap.size (.slice ao dl.length cp) dl := by
    obtain ⟨q1, q2 | ⟨g, c', cur, q3, q4, rest⟩⟩ := ho1
    · exact ⟨q1, .inl q2⟩
    · exact ⟨q1, .inr ⟨g, c', cur, q3, by omega, rest⟩⟩
  have st2 := gfI.start2 st1 fe id fr d ao dl.length cp dl hlow hne
  have HF : Hid (id < 4294967296 ∧ (0 ≤ d ∧ d ≤ 15) ∧ dl.length ≤ 8 ∧ (∀ x ∈ dl, x < 256) ∧ i1 ≤ i + 100) := ⟨hid, hd, hl8, hby, hi1⟩
  have HI1 : Hid (i1 ≤ 1000000000) := by have := HI.out; unfold Hid; omega
  clear st st1 hs1 ho1 hg1 hz1 hne hlow hid hd hl8 hby hi1
  go_wp2_with fail
  refine (n_int w0 _ b a n cap i1 l 5 5 rfl st2.src (by have := HI1.out; omega) (by decide) (by decide)).mono ?_
  rintro o w2 ⟨r1, rfl, h1, hs1, hg1⟩
  have st := st2.step hs1 hg1
  clear st2 hs1 hg1
  generalize w.heap.size = R at *
  generalize w1.heap.size = F at *
  by_cases hr : r1 = 0
  · have hr' : ((r1 : Int) == 0) = true := by simp; omega
    clear hr
    have ST : Hid (gfI w0 w b a n cap l (i1 + 1) F R fe id fr d (.slice ao dl.length cp) dl w2) := st
    clear st
    go_wp2_with fail
    refine (n_int w0 _ b a n cap (i1 + 1) l 6 6 rfl ST.out.src (by have := HI1.out; omega) (by decide) (by decide)).mono ?_
    rintro o w3 ⟨r2, rfl, h2, hs1, hg1⟩
    have st := ST.out.step hs1 hg1
    clear ST hs1 hg1
    obtain ⟨d0, d1, d2, d3, d4, z0, z1, z2, z3, z4⟩ := st.cells
    obtain ⟨e0, e1, e2, e3, e4, y0, y1, y2, y3, y4⟩ := st.cellsR
    rcases (show r2 = 0 ∨ r2 = 1 ∨ r2 = 2 ∨ r2 = 3 ∨ r2 = 4 ∨ r2 = 5 by omega) with rfl | rfl | rfl | rfl | rfl | rfl
    · have st1 := ((st).setAny 3 (.int .i64 16) fe id fr 16 rfl)
      have ST : Hid (gfI w0 w b a n cap l (i1 + 1 + 1) F R fe id fr 16 (.slice ao dl.length cp) dl (w3.setCell ⟨F, 3, none⟩ (.int .i64 16))) := st1
      obtain ⟨d0', d1', d2', d3', d4', z0', z1', z2', z3', z4'⟩ := st1.cells
      obtain ⟨e0', e1', e2', e3', e4', y0', y1', y2', y3', y4'⟩ := st1.cellsR
      clear st st1
      go_wp2
      have he := gf_end ST.out (.bool fe) (.int .u32 ((id : Nat) : Int)) (.bool fr) (.int .i64 16) (.slice ao dl.length cp)
      refine bodyPost_ret (v := frV fe id fr 16 ao dl.length cp) (by simp [results, Tryz.results39, go_sem, e0', e1', e2', e3', e4']) rfl (gfOut.mk fe id fr 16 ao cp (i1 + 1 + 1) dl HF.out.1 (by have := HF.out.2.1; omega) (by have := HF.out.2.2.1; omega) HF.out.2.2.2.1 (by have := HF.out.2.2.2.2; omega) he.1 he.2.1 he.2.2)
    · have st1 := ((st).setAny 3 (.int .i64 (-1)) fe id fr (-1) rfl)
      have ST : Hid (gfI w0 w b a n cap l (i1 + 1 + 1) F R fe id fr (-1) (.slice ao dl.length cp) dl (w3.setCell ⟨F, 3, none⟩ (.int .i64 (-1)))) := st1
      obtain ⟨d0', d1', d2', d3', d4', z0', z1', z2', z3', z4'⟩ := st1.cells
      obtain ⟨e0', e1', e2', e3', e4', y0', y1', y2', y3', y4'⟩ := st1.cellsR
      clear st st1
      go_wp2
      have he := gf_end ST.out (.bool fe) (.int .u32 ((id : Nat) : Int)) (.bool fr) (.int .i64 (-1)) (.slice ao dl.length cp)
      refine bodyPost_ret (v := frV fe id fr (-1) ao dl.length cp) (by simp [results, Tryz.results39, go_sem, e0', e1', e2', e3', e4']) rfl (gfOut.mk fe id fr (-1) ao cp (i1 + 1 + 1) dl HF.out.1 (by have := HF.out.2.1; omega) (by have := HF.out.2.2.1; omega) HF.out.2.2.2.1 (by have := HF.out.2.2.2.2; omega) he.1 he.2.1 he.2.2)
    · have ST : Hid (gfI w0 w b a n cap l (i1 + 1 + 1) F R fe id fr d (.slice ao dl.length cp) dl w3) := st
      have HL : Hid (dl.length ≤ 100000000) := by have := HF.out.2.2.1; unfold Hid; omega
      clear st
      go_wp2_with (at_builtin; refine list_app2 w3 _ rfl rfl (.tmp 20) (.tmp 21) rfl w.heap.size _ dl 1 rfl rfl ST.out.own rfl HL.out ST.out.gb.size ?_)
      intro ao9 cp9 w9 ho9 hg9 hk9
      have st1 := ST.out.app ho9 hg9 hk9
      obtain ⟨k4, k5⟩ := gf_keep ST.out hg9
      obtain ⟨d0', d1', d2', d3', d4', z0', z1', z2', z3', z4'⟩ := st1.cells
      obtain ⟨e0', e1', e2', e3', e4', y0', y1', y2', y3', y4'⟩ := st1.cellsR
      have ST9 : Hid (gfI w0 w b a n cap l (i1 + 1 + 1) F R fe id fr d (.slice ao9 (dl.length + 1) cp9) (dl ++ [1]) (w9.setCell ⟨F, 4, none⟩ (.slice ao9 (dl.length + 1) cp9))) := st1
      clear st1 ST ho9 hg9 hk9
      go_wp2
      have he := gf_end ST9.out (.bool fe) (.int .u32 (id : Int)) (.bool fr) (.int .i64 d) (.slice ao9 (dl.length + 1) cp9)
      have hln : (dl ++ [1]).length = dl.length + 1 := by simp
      rw [← hln] at he ⊢
      refine bodyPost_ret (v := frV fe id fr d ao9 (dl ++ [1]).length cp9) (by simp [results, Tryz.results39, go_sem, e0', e1', e2', e3', e4']) rfl (gfOut.mk fe id fr d ao9 cp9 (i1 + 1 + 1) (dl ++ [1]) HF.out.1 (by have := HF.out.2.1; omega) (by have := HF.out.2.2.1; omega) (small_snoc HF.out.2.2.2.1 (by decide)) (by have := HF.out.2.2.2.2; omega) he.1 he.2.1 he.2.2)
    · have st1 := ((st).setAny 1 (.int .u32 536870912) fe 536870912 fr d rfl)
      have ST : Hid (gfI w0 w b a n cap l (i1 + 1 + 1) F R fe 536870912 fr d (.slice ao dl.length cp) dl (w3.setCell ⟨F, 1, none⟩ (.int .u32 536870912))) := st1
      obtain ⟨d0', d1', d2', d3', d4', z0', z1', z2', z3', z4'⟩ := st1.cells
      obtain ⟨e0', e1', e2', e3', e4', y0', y1', y2', y3', y4'⟩ := st1.cellsR
      clear st st1
      go_wp2
      have he := gf_end ST.out (.bool fe) (.int .u32 ((536870912 : Nat) : Int)) (.bool fr) (.int .i64 d) (.slice ao dl.length cp)
      refine bodyPost_ret (v := frV fe 536870912 fr d ao dl.length cp) (by simp [results, Tryz.results39, go_sem, e0', e1', e2', e3', e4']) rfl (gfOut.mk fe 536870912 fr d ao cp (i1 + 1 + 1) dl (by decide) (by have := HF.out.2.1; omega) (by have := HF.out.2.2.1; omega) HF.out.2.2.2.1 (by have := HF.out.2.2.2.2; omega) he.1 he.2.1 he.2.2)
    · have st1 := ((((st).setAny 0 (.bool false) false id fr d rfl)).setAny 1 (.int .u32 2048) false 2048 fr d rfl)
      have ST : Hid (gfI w0 w b a n cap l (i1 + 1 + 1) F R false 2048 fr d (.slice ao dl.length cp) dl ((w3.setCell ⟨F, 0, none⟩ (.bool false)).setCell ⟨F, 1, none⟩ (.int .u32 2048))) := st1
      obtain ⟨d0', d1', d2', d3', d4', z0', z1', z2', z3', z4'⟩ := st1.cells
      obtain ⟨e0', e1', e2', e3', e4', y0', y1', y2', y3', y4'⟩ := st1.cellsR
      clear st st1
      go_wp2
      have he := gf_end ST.out (.bool false) (.int .u32 ((2048 : Nat) : Int)) (.bool fr) (.int .i64 d) (.slice ao dl.length cp)
      refine bodyPost_ret (v := frV false 2048 fr d ao dl.length cp) (by simp [results, Tryz.results39, go_sem, e0', e1', e2', e3', e4']) rfl (gfOut.mk false 2048 fr d ao cp (i1 + 1 + 1) dl (by decide) (by have := HF.out.2.1; omega) (by have := HF.out.2.2.1; omega) HF.out.2.2.2.1 (by have := HF.out.2.2.2.2; omega) he.1 he.2.1 he.2.2)
    · have st1 := ((st).setAny 2 (.bool (!fr)) fe id (!fr) d rfl)
      have ST : Hid (gfI w0 w b a n cap l (i1 + 1 + 1) F R fe id (!fr) d (.slice ao dl.length cp) dl (w3.setCell ⟨F, 2, none⟩ (.bool (!fr)))) := st1
      obtain ⟨d0', d1', d2', d3', d4', z0', z1', z2', z3', z4'⟩ := st1.cells
      obtain ⟨e0', e1', e2', e3', e4', y0', y1', y2', y3', y4'⟩ := st1.cellsR
      clear st st1
      go_wp2
      have he := gf_end ST.out (.bool fe) (.int .u32 ((id : Nat) : Int)) (.bool (!fr)) (.int .i64 d) (.slice ao dl.length cp)
      refine bodyPost_ret (v := frV fe id (!fr) d ao dl.length cp) (by simp [results, Tryz.results39, go_sem, e0', e1', e2', e3', e4']) rfl (gfOut.mk fe id (!fr) d ao cp (i1 + 1 + 1) dl HF.out.1 (by have := HF.out.2.1; omega) (by have := HF.out.2.2.1; omega) HF.out.2.2.2.1 (by have := HF.out.2.2.2.2; omega) he.1 he.2.1 he.2.2)
  · have hr' : ((r1 : Int) == 0) = false := by simp; omega
    clear hr
    obtain ⟨d0, d1, d2, d3, d4, z0, z1, z2, z3, z4⟩ := st.cells
    obtain ⟨e0, e1, e2, e3, e4, y0, y1, y2, y3, y4⟩ := st.cellsR
    have ST : Hid (gfI w0 w b a n cap l (i1 + 1) F R fe id fr d (.slice ao dl.length cp) dl w2) := st
    clear st
    go_wp2
    have he := gf_end ST.out (.bool fe) (.int .u32 (id : Int)) (.bool fr) (.int .i64 d) (.slice ao dl.length cp)
    refine bodyPost_ret (v := frV fe id fr d ao dl.length cp) (by simp [results, Tryz.results39, go_sem, e0, e1, e2, e3, e4]) rfl (gfOut.mk fe id fr d ao cp (i1 + 1) dl HF.out.1 (by have := HF.out.2.1; omega) (by have := HF.out.2.2.1; omega) HF.out.2.2.2.1 (by have := HF.out.2.2.2.2; omega) he.1 he.2.1 he.2.2)
/-- a drawn frame -/
def drOut (w : World) (o : Ending) (w' : World) : Prop :=
  ∃ (e : Bool) (id : Nat) (r : Bool) (d : Int) (ao : Option Addr) (cap' : Nat) (dl : List Nat), o = .returned (frV e id r d ao dl.length cap') ∧ id < 4294967296 ∧ (-1 ≤ d ∧ d ≤ 16) ∧ dl.length ≤ 9 ∧ isBytes w' ao dl.length cap' dl ∧ Below w.heap.size w w'
theorem drOut.mk {w w' : World} (e : Bool) (id : Nat) (r : Bool) (d : Int) (ao : Option Addr) (cap' : Nat) (dl : List Nat) (h1 : id < 4294967296) (h2 : -1 ≤ d ∧ d ≤ 16) (h3 : dl.length ≤ 9) (h4 : isBytes w' ao dl.length cap' dl) (h5 : Below w.heap.size w w') : drOut w (.returned (frV e id r d ao dl.length cap')) w' :=
  ⟨e, id, r, d, ao, cap', dl, rfl, h1, h2, h3, h4, h5⟩
theorem own_bytes {w : World} {B : Nat} {ao : Option Addr} {n cap : Nat} {l : List Nat} (h : ownsB w B (.slice ao n cap) l) (hl : ∀ x ∈ l, x < 256) (hn : n = l.length) : isBytes w ao n cap l := by
  by_cases he : l = []
  · subst he
    exact ⟨hn, by rw [hn]; exact Nat.zero_le _, hl, fun h => absurd rfl h⟩
  · obtain ⟨g, c', hv, h1, h2, h3, h4, h5⟩ := h.open he
    cases hv
    refine ⟨rfl, h3, hl, fun _ => ⟨g, 0, rfl, fun j hj => ?_⟩⟩
    have := h5.cell j hj
    rw [Nat.zero_add, this]
    simp [hj]
theorem dr_end {w W : World} {R : Nat} {v : Value} {l : List Nat} (hB : Below R w W) (ho : ownsB W (R + 1) v l) (x0 x1 x2 x3 x4 : Value) :
    ownsB (((((W.setCell ⟨R, 0, none⟩ x0).setCell ⟨R, 1, none⟩ x1).setCell ⟨R, 2, none⟩ x2).setCell ⟨R, 3, none⟩ x3).setCell ⟨R, 4, none⟩ x4) (R + 1) v l ∧ Below R w (((((W.setCell ⟨R, 0, none⟩ x0).setCell ⟨R, 1, none⟩ x1).setCell ⟨R, 2, none⟩ x2).setCell ⟨R, 3, none⟩ x3).setCell ⟨R, 4, none⟩ x4) := by
  have nn : v.ownBlock ≠ some R := fun e => by have := (World.ownsRow.lt ho R e).1; omega
  exact ⟨gf_own _ _ (gf_own _ _ (gf_own _ _ (gf_own _ _ (gf_own _ _ ho nn) nn) nn) nn) nn, ((((hB.setCell (p := ⟨R, 0, none⟩) (Nat.le_refl _) _).setCell (p := ⟨R, 1, none⟩) (Nat.le_refl _) _).setCell (p := ⟨R, 2, none⟩) (Nat.le_refl _) _).setCell (p := ⟨R, 3, none⟩) (Nat.le_refl _) _).setCell (p := ⟨R, 4, none⟩) (Nat.le_refl _) _⟩
set_option maxHeartbeats 2000000 in
set_option maxRecDepth 20000 in
theorem drawEncode_any (w : World) (a : Option Addr) (n cap : Nat) (l : List Nat) (h : isBytes w a n cap l) (hn : n ≤ 1048576) :
    Calls Tryz.prog 11 #[.slice a n cap] w fun o w' => drOut w o w' := by
  have HB : Hid (isBytes (w.alloc (.cells #[.bool false, .int .u32 0, .bool false, .int .i64 0, .slice none 0 0] 33)) a n cap l) := h.below ((Below.refl _ _).alloc (Nat.le_refl _) _)
  have HN : Hid (n ≤ 1048576) := hn
  clear h hn
  go_enter Tryz.func11, Tryz.ntmps11
  go_wp2_with fail
  refine (new_any _ a n cap l HB.out HN.out).mono ?_
  rintro o w1 ⟨b, rfl, hs, hb, hB1⟩
  go_wp2_with fail
  refine (genAny_any _ w1 b a n cap 0 l hs (by decide)).mono ?_
  rintro o w2 ⟨fe, id, fr, d, ao, cp, i1, dl, rfl, hid, hd, hl9, hby, hi1, hs2, ho2, hg2⟩
  have e1 : (w.alloc (.cells #[.bool false, .int .u32 0, .bool false, .int .i64 0, .slice none 0 0] 33)).heap.size = w.heap.size + 1 := by simp
  have hbl := hs2.bel
  have hres : w2.heap[w.heap.size]? = some (.cells #[.bool false, .int .u32 0, .bool false, .int .i64 0, .slice none 0 0] 33 (0, 0)) := (hbl.block _ (by omega)).trans (heap_alloc_new w _)
  have hz := hB1.size
  have hB3 : Below w.heap.size w w2 := ((Below.refl w.heap.size w).alloc (Nat.le_refl _) _).trans (hbl.mono (by omega))
  have hlow : ownsB w2 (w.heap.size + 1) (.slice ao dl.length cp) dl := by
    obtain ⟨q1, q2 | ⟨g, c', cur, q3, q4, rest⟩⟩ := ho2
    · exact ⟨q1, .inl q2⟩
    · exact ⟨q1, .inr ⟨g, c', cur, q3, by omega, rest⟩⟩
  have HE : Hid (id < 4294967296 ∧ (-1 ≤ d ∧ d ≤ 16) ∧ dl.length ≤ 9 ∧ (∀ x ∈ dl, x < 256) ∧ Below w.heap.size w w2 ∧ ownsB w2 (w.heap.size + 1) (.slice ao dl.length cp) dl) := ⟨hid, hd, hl9, hby, hB3, hlow⟩
  clear hid hd hl9 hby hi1 hs2 ho2 hg2 hbl hz hB3 hlow hs hb hB1 e1
  have e0 : w2.cell? ⟨w.heap.size, 0, none⟩ = some (.bool false) := by simp [World.cell?, hres]
  have e1 : w2.cell? ⟨w.heap.size, 1, none⟩ = some (.int .u32 0) := by simp [World.cell?, hres]
  have e2 : w2.cell? ⟨w.heap.size, 2, none⟩ = some (.bool false) := by simp [World.cell?, hres]
  have e3 : w2.cell? ⟨w.heap.size, 3, none⟩ = some (.int .i64 0) := by simp [World.cell?, hres]
  have e4 : w2.cell? ⟨w.heap.size, 4, none⟩ = some (.slice none 0 0) := by simp [World.cell?, hres]
  have y0 : w2.frozen? ⟨w.heap.size, 0, none⟩ = false := by simp [World.frozen?, hres]
  have y1 : w2.frozen? ⟨w.heap.size, 1, none⟩ = false := by simp [World.frozen?, hres]
  have y2 : w2.frozen? ⟨w.heap.size, 2, none⟩ = false := by simp [World.frozen?, hres]
  have y3 : w2.frozen? ⟨w.heap.size, 3, none⟩ = false := by simp [World.frozen?, hres]
  have y4 : w2.frozen? ⟨w.heap.size, 4, none⟩ = false := by simp [World.frozen?, hres]
  clear hres
  go_wp2
  have he := dr_end HE.out.2.2.2.2.1 HE.out.2.2.2.2.2 (.bool fe) (.int .u32 (id : Int)) (.bool fr) (.int .i64 d) (.slice ao dl.length cp)
  refine bodyPost_ret (v := frV fe id fr d ao dl.length cp) (by simp [results, Tryz.results11, go_sem, e0, e1, e2, e3, e4]) rfl (drOut.mk fe id fr d ao cp dl HE.out.1 HE.out.2.1 HE.out.2.2.1 (own_bytes he.1 HE.out.2.2.2.1 rfl) he.2)
end Go.Proofs.YtpknchjjfiiaeaaGreatDoor.J
