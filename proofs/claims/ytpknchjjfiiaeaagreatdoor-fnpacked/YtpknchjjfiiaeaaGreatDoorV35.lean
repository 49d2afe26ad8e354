import Derived.Test.YtpknchjjfiiaeaaGreatDoorV34
namespace Go.Proofs.YtpknchjjfiiaeaaGreatDoor
open Go.RowKit
set_option linter.unusedVariables false
theorem spV_len (T : List (Nat × Nat × Nat)) : (spV T).length = T.length * 3 := by
  induction T with
  | nil => rfl
  | cons a T ih => show (spV (a :: T)).length = _; simp only [spV, List.flatMap_cons, List.length_append, List.length_cons, List.length_nil] at ih ⊢; omega
theorem spV_one (T : List (Nat × Nat × Nat)) : ∀ u ∈ spV T, u.oneCell' = true := by
  intro u hu
  simp only [spV, List.mem_flatMap] at hu
  obtain ⟨x, _, hu⟩ := hu
  simp at hu
  rcases hu with rfl | rfl | rfl <;> rfl
/-- several spans put behind a row of one's own -/
theorem app_spans {ops : Array Oper} {rest : List Oper} {o : Oper} {a : Act} {Q : Exit → Act → World → Prop} (wr : World) (hgd : o.guard = none) (s x : Operand)
    (ho : o.op = .call { callee := .builtin .append, args := #[s, x], argTypes := #[37, 37] })
    (B : Nat) (v : Value) (S T : List (Nat × Nat × Nat)) (ad : Addr) (k : Nat) (hs : a.eval s = v) (hown : ownsS wr B v S)
    (hx : a.eval x = .slice (some ad) T.length k) (hc : ∀ j u, (spV T)[j]? = some u → wr.cell? (ad.add j) = some u) (hlen : S.length + T.length ≤ 1000000) (hB : B ≤ wr.heap.size)
    (h : ∀ v' w', ownsS w' B v' (S ++ T) → Below B wr w' → Lib.OthersKept 41 none wr w' → wpList Tryz.prog ops Q rest (a.put o.dst v') w') :
    wpList Tryz.prog ops Q (o :: rest) a wr := by
  obtain ⟨i0, hi, hz0, hz1, hz2⟩ := info_parts Tryz.info41
  refine wpList_append_own _ hgd s x 37 ho B 41 i0 (.agg #[.int .i64 0, .int .i64 0, .int .i64 0]) 3 24 Tryz.underlying37 hi hz0 hz1 hz2 rfl (by decide) v S.length (spV S) hs hown ad T.length k (spV T) hx (spV_len T) hc (spV_one T) ?_ ?_ hB ?_
  · unfold maxLen; omega
  · omega
  · intro v' w' ho' hg _
    have hr : ∀ k, v.ownBlock = some k → B ≤ k := fun k hk => (World.ownsRow.lt hown k hk).1
    refine h v' w' ?_ ((Below.refl _ _).grown hg hB hr) ((Lib.OthersKept.refl 41 none wr).grown hg fun g hg' => hown.kind g hg')
    unfold ownsS
    rw [spV_append, List.length_append]
    exact ho'
theorem ownsS.open {w : World} {B : Nat} {v : Value} {S : List (Nat × Nat × Nat)} (h : ownsS w B v S) (hS : S ≠ []) : ∃ g k, v = .slice (some ⟨g, 0, none⟩) S.length k ∧ ∀ j u, (spV S)[j]? = some u → w.cell? ((⟨g, 0, none⟩ : Addr).add j) = some u := by
  have h' := h
  obtain ⟨h1, ⟨h2, h3⟩ | ⟨g, cap, cur, h2, h3, hh, h4⟩⟩ := h'
  · exact absurd (List.length_eq_zero_iff.mp h3) hS
  · refine ⟨g, cap, h2, fun j u hj => ?_⟩
    subst h2
    have hjl : j < (spV S).length := by rw [List.getElem?_eq_some_iff] at hj; exact hj.1
    have := World.ownsRow.cellAt h j (by rw [spV_len] at hjl; exact hjl)
    have ea : ((⟨g, 0, none⟩ : Addr).add j) = ⟨g, j, none⟩ := by
      by_cases e0 : j = 0
      · subst e0; simp [Addr.add]
      · simp [Addr.add, e0]
    rw [← hj, ea]
    exact this
theorem ownsS.room {w : World} {B : Nat} {v : Value} {S : List (Nat × Nat × Nat)} (h : ownsS w B v S) (hS : S ≠ []) : B ≤ w.heap.size := by
  obtain ⟨g, k, e, _⟩ := h.open hS
  have := World.ownsRow.lt h g (by rw [e]; rfl)
  omega
theorem ownsS.setCellO {w : World} {B : Nat} {v : Value} {S : List (Nat × Nat × Nat)} (h : ownsS w B v S) (b j : Nat) (x : Value) (hb : b < B) : ownsS (w.setCell ⟨b, j, none⟩ x) B v S :=
  h.otherBlock fun g hg => heap_setCell_other w ⟨b, j, none⟩ g x (by have := (World.ownsRow.lt h g hg).1; show g ≠ b; omega)
theorem ownsS.setCellsO {w : World} {B : Nat} {v : Value} {S : List (Nat × Nat × Nat)} (h : ownsS w B v S) (b j : Nat) (x : List Value) (hb : b < B) : ownsS (w.setCells b j x) B v S :=
  h.otherBlock fun g hg => Kd.setCells_other b g (by have := (World.ownsRow.lt h g hg).1; omega) x w j
theorem ownsW.setCellsO {w : World} {B : Nat} {v : Value} {l : List Nat} (h : ownsW w B v l) (b j : Nat) (x : List Value) (hb : b < B) : ownsW (w.setCells b j x) B v l :=
  h.otherBlock fun g hg => Kd.setCells_other b g (by have := (World.ownsRow.lt h g hg).1; omega) x w j
theorem ownsS.lower {w : World} {B B' : Nat} {v : Value} {S : List (Nat × Nat × Nat)} (h : ownsS w B v S) (hB : B' ≤ B) : ownsS w B' v S := by
  obtain ⟨h1, ⟨h2, h3⟩ | ⟨g, cap, cur, h2, h3, hh, h4⟩⟩ := h
  · exact ⟨h1, .inl ⟨h2, h3⟩⟩
  · exact ⟨h1, .inr ⟨g, cap, cur, h2, Nat.le_trans hB h3, hh, h4⟩⟩
theorem bwS.new {W : World} {b : Nat} {st : Bool} (h : Kd.blk W b [.int .i64 0, .slice none 0 0, .bool st, .int .i32 0, .int .i64 0] 61) : bwS W b [] st (runOf st [] (0, 0)) W := by
  refine ⟨⟨.slice none 0 0, ?_, ?_⟩, Below.refl _ _⟩
  · have e : runOf st [] (0, 0) = (0, 0) := by cases st <;> rfl
    rw [e]; exact h
  · have e : wl [] = [] := by simp [wl, wn]
    rw [e]; exact own_none _ _
theorem bwS.off {w0 W : World} {b : Nat} {o : List Nat} {r : Nat × Nat} (h : bwS w0 b o true r W) : bwS w0 b o false r (W.setCell ⟨b, 2, none⟩ (.bool false)) := by
  obtain ⟨⟨v, hh, own⟩, hbel⟩ := h
  refine ⟨⟨v, ?_, own.setCellO b 2 _ (by omega)⟩, hbel.setCell (p := ⟨b, 2, none⟩) (by simp) _⟩
  rw [heap_setCell_same W b 2 _ _ (.bool false) hh]
  simp
theorem sz29P : (Tryz.prog.info? 27).map (·.size) = some 2 := by kernel_rfl
theorem one2 {x : Int} {a : Option Addr} {n c : Nat} : (#[.int .i64 x, .slice a n c] : Array Value).all (·.oneCell') = true := by simp [Value.oneCell']
theorem body_len (e : Bool) (i : Nat) (r : Bool) (d : Nat) (l : List Nat) (hl : l.length ≤ 8) : (J.bodyL e i r d l).length ≤ 103 := by
  rw [J.bodyL_length]; split <;> omega
/-- all letters of an image -/
def imgL (e : Bool) (i : Nat) (r : Bool) (d : Nat) (l : List Nat) : List Nat := J.M.stuffL (J.plainL e i r d l) ++ List.replicate 10 49
/-- its spans -/
def imgS (e : Bool) (i : Nat) (r : Bool) (d : Nat) (l : List Nat) : List (Nat × Nat × Nat) :=
  spansL true [] (lay e i r d l (J.M.crcN ((J.bodyL e i r d l).map (fun x => x - 48))) 1 11) ++ spansL false (J.M.stuffL (J.plainL e i r d l)) (lay e i r d l (J.M.crcN ((J.bodyL e i r d l).map (fun x => x - 48))) 11 15)
set_option maxHeartbeats 8000000 in
set_option maxRecDepth 20000 in
/-- impl.layOut -/
theorem layOut_any (w : World) (e : Bool) (i : Nat) (r : Bool) (d : Nat) (a : Option Addr) (n cap : Nat) (l : List Nat) (h : J.isBytes w a n cap l) (tab : w.rangeAt 0 0 Kd.tabL) (hz0 : 0 < w.heap.size) (hi : i < 4294967296) (hd : d ≤ 15) (hl : l.length = dlN r d) :
    Calls Tryz.prog 44 #[J.frV e i r (d : Int) a n cap] w fun y w' => ∃ ao cp sv, y = .returned (.tuple #[pkV ((imgL e i r d l).length : Int) ao (wl (imgL e i r d l)).length cp, sv]) ∧ ownsW w' w.heap.size (.slice ao (wl (imgL e i r d l)).length cp) (wl (imgL e i r d l)) ∧ ownsS w' w.heap.size sv (imgS e i r d l) ∧ Below w.heap.size w w' := by
  have hlen := h.len
  have hl8 : l.length ≤ 8 := by rw [hl]; unfold dlN; split <;> omega
  have hn8 : n ≤ 8 := by omega
  have hsm := h.small
  have HB : Hid (∀ W, Below w.heap.size w W → J.isBytes W a n cap l ∧ W.rangeAt 0 0 Kd.tabL ∧ 0 < W.heap.size) := by
    intro W hW
    refine ⟨h.below hW, fun j u hj => ?_, Nat.lt_of_lt_of_le hz0 hW.size⟩
    exact (hW.cell (p := ⟨0, 0 + j, none⟩) hz0).trans (tab j u hj)
  have hbl := body_len e i r d l hl8
  have hcrc : J.M.crcN ((J.bodyL e i r d l).map (fun x => x - 48)) < 32768 := J.M.crcN_lt _
  have HP : Hid (J.bodyL e i r d l ++ J.M.num (J.M.crcN ((J.bodyL e i r d l).map (fun x => x - 48))) 15 = J.plainL e i r d l) := rfl
  have HLB := hidYY (fun sum => lay_body e i r d l sum hl hsm)
  have HLP := hidYY (fun sum => lay_plain e i r d l sum hl hsm)
  have HLT := hidYY (fun sum => lay_tail e i r d l sum)
  have HCP : Hid (cpZ ((J.bodyL e i r d l).length : Int) (wl (J.bodyL e i r d l)) = ((J.M.crcN ((J.bodyL e i r d l).map (fun x => x - 48)) : Nat) : Int)) := cpZ_wl _ (J.bodyL_isL e i r d l) (by omega)
  have HIL : Hid (imgL e i r d l = J.M.stuffL (J.plainL e i r d l) ++ List.replicate 10 49) := rfl
  have HIS : Hid (imgS e i r d l = spansL true [] (lay e i r d l (J.M.crcN ((J.bodyL e i r d l).map (fun x => x - 48))) 1 11) ++ spansL false (J.M.stuffL (J.plainL e i r d l)) (lay e i r d l (J.M.crcN ((J.bodyL e i r d l).map (fun x => x - 48))) 11 15)) := rfl
  have HBI := hidYY (J.bodyL_isL e i r d l)
  have HPI := hidYY (J.plainL_isL e i r d l)
  have HPL : Hid ((J.plainL e i r d l).length ≤ 118) := by
    show _ ≤ _
    rw [J.plainL_length]; split <;> omega
  have HSR := hidYY (J.M.stuff_run (J.plainL e i r d l) (J.plainL_isL e i r d l))
  have HSA := hidYY (J.M.stuff_all (J.plainL e i r d l) (J.plainL_isL e i r d l))
  have HSL := hidYY (J.M.stuff_len (J.plainL e i r d l))
  -- the variables
  obtain ⟨w3, hw3⟩ : ∃ w3, w3 = ((w.alloc (.cells [.bool e, .int .u32 (i : Int), .bool r, .int .i64 (d : Int), .slice a n cap].toArray 33)).alloc (.cells [.int .i64 0, .slice none 0 0].toArray 27)).alloc (.cells [.int .i64 0, .slice none 0 0, .bool false, .int .i32 0, .int .i64 0].toArray 61) := ⟨_, rfl⟩
  have H3 : Hid (Kd.blk w3 w.heap.size [.bool e, .int .u32 (i : Int), .bool r, .int .i64 (d : Int), .slice a n cap] 33 ∧ Kd.blk w3 (w.heap.size + 1) [.int .i64 0, .slice none 0 0] 27 ∧ Kd.blk w3 (w.heap.size + 2) [.int .i64 0, .slice none 0 0, .bool false, .int .i32 0, .int .i64 0] 61 ∧ Below w.heap.size w w3 ∧ w3.heap.size = w.heap.size + 3) := by
    subst hw3
    refine ⟨((Kd.blk.new w _ 33).alloc _).alloc _, ?_, ?_, (((Below.refl _ _).alloc (Nat.le_refl _) _).alloc (by simp) _).alloc (by simp; omega) _, by simp⟩
    · have := (Kd.blk.new (w.alloc (.cells [.bool e, .int .u32 (i : Int), .bool r, .int .i64 (d : Int), .slice a n cap].toArray 33)) [.int .i64 0, .slice none 0 0] 27).alloc (.cells [.int .i64 0, .slice none 0 0, .bool false, .int .i32 0, .int .i64 0].toArray 61)
      simpa using this
    · have := Kd.blk.new ((w.alloc (.cells [.bool e, .int .u32 (i : Int), .bool r, .int .i64 (d : Int), .slice a n cap].toArray 33)).alloc (.cells [.int .i64 0, .slice none 0 0].toArray 27)) [.int .i64 0, .slice none 0 0, .bool false, .int .i32 0, .int .i64 0] 61
      simpa using this
  clear h tab hz0 hlen
  generalize hcq : J.M.crcN ((J.bodyL e i r d l).map (fun x => x - 48)) = sum at *
  clear hcq
  go_enter Tryz.func44, Tryz.ntmps44
  go_upto_region 2 with fail
  change Code.wp _ _ _ _ (((w.alloc (.cells [.bool e, .int .u32 (i : Int), .bool r, .int .i64 (d : Int), .slice a n cap].toArray 33)).alloc (.cells [.int .i64 0, .slice none 0 0].toArray 27)).alloc (.cells [.int .i64 0, .slice none 0 0, .bool false, .int .i32 0, .int .i64 0].toArray 61))
  rw [← hw3]
  clear hw3
  have HF1 : Hid (Calls Tryz.prog 66 #[.pointer (some ⟨w.heap.size + 2, 0, none⟩), .agg [.bool e, .int .u32 (i : Int), .bool r, .int .i64 (d : Int), .slice a n cap].toArray, .int .i64 0, .int .i64 1, .int .i64 10] w3 fun y w' => ∃ v, y = .returned v ∧ bwS w3 (w.heap.size + 2) (J.bodyL e i r d l) false (0, 0) w' ∧ Below (w.heap.size + 2) w3 w') := by
    have := fields_any w3 w3 (w.heap.size + 2) [] false (0, 0) (bwS.new H3.out.2.2.1) (good.nil _) e i r d a n cap l 0 1 10 (fun W hW => HB.out W (H3.out.2.2.2.1.trans (hW.mono (by omega)))) hi hd hn8 (by omega) (by omega) (by omega) (.inl rfl) (by rw [HLB.out]; simp; omega) (by rw [HLB.out]; exact HBI.out)
    refine this.mono ?_
    rintro y w' ⟨v, rfl, q1, q2, q3, q4⟩
    rw [HLB.out, feedL_false] at q1
    exact ⟨v, rfl, q1, q4⟩
  go_wp2_with (first
    | (refine wpList_load_mid (P := Tryz.prog) rfl 33 _ rfl w.heap.size 0 rfl [.bool e, .int .u32 (i : Int), .bool r, .int .i64 (d : Int), .slice a n cap] _ H3.out.1.load Tryz.underlying33 rfl sz31F ?_)
    | (go_at_call 66; refine HF1.out.mono ?_; rintro y w4 ⟨v4, rfl, q4, b4⟩))
  have H4 : Hid (Kd.blk w4 w.heap.size [.bool e, .int .u32 (i : Int), .bool r, .int .i64 (d : Int), .slice a n cap] 33 ∧ Kd.blk w4 (w.heap.size + 1) [.int .i64 0, .slice none 0 0] 27 ∧ Below w.heap.size w w4) := ⟨H3.out.1.kept (b4.block _ (by omega)), H3.out.2.1.kept (b4.block _ (by omega)), H3.out.2.2.2.1.trans (b4.mono (by omega))⟩
  obtain ⟨ao1, cp1, hfin, hown1⟩ := q4.finish
  have HFI := hidYY hfin
  have hz4 : w.heap.size + 2 < w4.heap.size := by obtain ⟨⟨v, hh, _⟩, _⟩ := q4; exact (bw5 hh).2.2
  have HCR : Hid (∀ X, Below w4.heap.size w4 X → Calls Tryz.prog 9 #[pkV ((J.bodyL e i r d l).length : Int) ao1 (wl (J.bodyL e i r d l)).length cp1] X fun y w' => y = .returned (.int .i64 (sum : Int)) ∧ Below X.heap.size X w') := by
    intro X hX
    have hw : isWords X ao1 (wl (J.bodyL e i r d l)).length cp1 (wl (J.bodyL e i r d l)) := (hown1.words rfl (wl_small _) (hown1.cap rfl)).below hX
    have := crcPacked_any X ((J.bodyL e i r d l).length : Int) ao1 _ cp1 _ hw (by rw [wl_len]; omega)
    rw [HCP.out] at this
    exact this
  clear q4 b4 hfin hown1 H3 HF1
  go_upto_region 5 with (first
    | (go_at_call 32; refine HFI.out.mono ?_; rintro y w5 ⟨rfl, b5⟩)
    | (go_at_call 9; refine (HCR.out _ b5).mono ?_; rintro y w6 ⟨rfl, b6⟩))
  have H7 : Hid (Kd.blk (w6.alloc (.cells [.int .i64 0, .slice none 0 0, .bool true, .int .i32 0, .int .i64 0].toArray 61)) w.heap.size [.bool e, .int .u32 (i : Int), .bool r, .int .i64 (d : Int), .slice a n cap] 33 ∧ Kd.blk (w6.alloc (.cells [.int .i64 0, .slice none 0 0, .bool true, .int .i32 0, .int .i64 0].toArray 61)) (w.heap.size + 1) [.int .i64 0, .slice none 0 0] 27 ∧ Kd.blk (w6.alloc (.cells [.int .i64 0, .slice none 0 0, .bool true, .int .i32 0, .int .i64 0].toArray 61)) w6.heap.size [.int .i64 0, .slice none 0 0, .bool true, .int .i32 0, .int .i64 0] 61 ∧ Below w.heap.size w (w6.alloc (.cells [.int .i64 0, .slice none 0 0, .bool true, .int .i32 0, .int .i64 0].toArray 61)) ∧ w.heap.size + 2 < w6.heap.size ∧ (w6.alloc (.cells [.int .i64 0, .slice none 0 0, .bool true, .int .i32 0, .int .i64 0].toArray 61)).heap.size = w6.heap.size + 1) := by
    have h45 := H4.out.1.below b5
    have h45' := H4.out.2.1.below b5
    refine ⟨(h45.below b6).alloc _, (h45'.below b6).alloc _, Kd.blk.new w6 _ 61, ?_, ?_, by simp⟩
    · have q5 := H4.out.2.2.trans (b5.mono H4.out.2.2.size)
      have q6 := q5.trans (b6.mono q5.size)
      exact q6.alloc q6.size _
    · have := b5.size; have := b6.size; omega
  change Code.wp _ _ _ _ (w6.alloc (.cells [.int .i64 0, .slice none 0 0, .bool true, .int .i32 0, .int .i64 0].toArray 61))
  generalize w6.alloc (.cells [.int .i64 0, .slice none 0 0, .bool true, .int .i32 0, .int .i64 0].toArray 61) = w7 at *
  generalize w6.heap.size = s2 at *
  clear b5 b6 H4 HFI HCR hz4
  have HF2 : Hid (Calls Tryz.prog 66 #[.pointer (some ⟨s2, 0, none⟩), .agg [.bool e, .int .u32 (i : Int), .bool r, .int .i64 (d : Int), .slice a n cap].toArray, .int .i64 (sum : Int), .int .i64 1, .int .i64 11] w7 fun y w' => ∃ v, y = .returned v ∧ bwS w7 s2 (J.M.stuffL (J.plainL e i r d l)) true (J.M.trail (J.M.stuffL (J.plainL e i r d l))) w' ∧ ownsS w' (w7.heap.size + 1) v (spansL true [] (lay e i r d l sum 1 11)) ∧ Below s2 w7 w') := by
    have := fields_any w7 w7 s2 [] true (0, 0) (bwS.new H7.out.2.2.1) (good.nil _) e i r d a n cap l sum 1 11 (fun W hW => HB.out W (H7.out.2.2.2.1.trans (hW.mono (by have := H7.out.2.2.2.2.1; omega)))) hi hd hn8 hcrc (by omega) (by omega) (.inr (.inl rfl)) (by rw [HLP.out, HP.out]; have := HPL.out; simp; omega) (by rw [HLP.out, HP.out]; exact HPI.out)
    refine this.mono ?_
    rintro y w' ⟨v, rfl, q1, q2, q3, q4⟩
    rw [HLP.out, HP.out, feedL_true] at q1
    exact ⟨v, rfl, q1, q2, q4⟩
  go_upto_region 6 with (first
    | (refine wpList_load_mid (P := Tryz.prog) rfl 33 _ rfl w.heap.size 0 rfl [.bool e, .int .u32 (i : Int), .bool r, .int .i64 (d : Int), .slice a n cap] _ H7.out.1.load Tryz.underlying33 rfl sz31F ?_)
    | (go_at_call 66; refine HF2.out.mono ?_; rintro y w8 ⟨v8, rfl, q8, o8, b8⟩))
  have H8 : Hid (Kd.blk w8 w.heap.size [.bool e, .int .u32 (i : Int), .bool r, .int .i64 (d : Int), .slice a n cap] 33 ∧ Kd.blk w8 (w.heap.size + 1) [.int .i64 0, .slice none 0 0] 27 ∧ Below w.heap.size w w8 ∧ bwS w7 s2 (J.M.stuffL (J.plainL e i r d l)) true (J.M.trail (J.M.stuffL (J.plainL e i r d l))) w8 ∧ ownsS w8 (w7.heap.size + 1) v8 (spansL true [] (lay e i r d l sum 1 11))) := ⟨H7.out.1.kept (b8.block _ (by have := H7.out.2.2.2.2.1; omega)), H7.out.2.1.kept (b8.block _ (by have := H7.out.2.2.2.2.1; omega)), H7.out.2.2.2.1.trans (b8.mono (by have := H7.out.2.2.2.2.1; omega)), q8, o8⟩
  obtain ⟨⟨⟨vv, hvv, _⟩, _⟩⟩ : Nonempty ((∃ v, w8.heap[s2]? = some (.cells #[.int .i64 ((J.M.stuffL (J.plainL e i r d l)).length : Int), v, .bool true, .int .i32 ((J.M.trail (J.M.stuffL (J.plainL e i r d l))).1 : Int), .int .i64 ((J.M.trail (J.M.stuffL (J.plainL e i r d l))).2 : Int)] 61) ∧ True) ∧ True) := by
    obtain ⟨⟨v, hh, _⟩, _⟩ := q8
    exact ⟨⟨⟨v, hh, trivial⟩, trivial⟩⟩
  have f2 := (bw5 hvv).2.1 2
  have c2 := (bw5 hvv).1.2.2.1
  clear q8 o8 b8 HF2 hvv
  go_upto_region 7 with fail
  have hs2 := H7.out.2.2.2.2
  have H9 : Hid (Kd.blk (w8.setCell ⟨s2, 2, none⟩ (.bool false)) w.heap.size [.bool e, .int .u32 (i : Int), .bool r, .int .i64 (d : Int), .slice a n cap] 33 ∧ Kd.blk (w8.setCell ⟨s2, 2, none⟩ (.bool false)) (w.heap.size + 1) [.int .i64 0, .slice none 0 0] 27 ∧ Below w.heap.size w (w8.setCell ⟨s2, 2, none⟩ (.bool false)) ∧ bwS w7 s2 (J.M.stuffL (J.plainL e i r d l)) false (J.M.trail (J.M.stuffL (J.plainL e i r d l))) (w8.setCell ⟨s2, 2, none⟩ (.bool false)) ∧ ownsS (w8.setCell ⟨s2, 2, none⟩ (.bool false)) (w7.heap.size + 1) v8 (spansL true [] (lay e i r d l sum 1 11))) := by
    refine ⟨H8.out.1.setOther (by omega) 2 _, H8.out.2.1.setOther (by omega) 2 _, H8.out.2.2.1.setCell (by show w.heap.size ≤ s2; omega) _, H8.out.2.2.2.1.off, H8.out.2.2.2.2.setCellO s2 2 _ (by omega)⟩
  clear H8 H7 f2 c2
  generalize w8.setCell ⟨s2, 2, none⟩ (.bool false) = w9 at *
  have hS2 : (spansL false (J.M.stuffL (J.plainL e i r d l)) (lay e i r d l sum 11 15)).length = 4 := by rw [spansL_len]; simp [lay, layF, nextN]
  have hS1 : (spansL true [] (lay e i r d l sum 1 11)).length ≤ 16 := by rw [spansL_len]; exact layF_len _ _ _ _ _
  have HF3 : Hid (Calls Tryz.prog 66 #[.pointer (some ⟨s2, 0, none⟩), .agg [.bool e, .int .u32 (i : Int), .bool r, .int .i64 (d : Int), .slice a n cap].toArray, .int .i64 (sum : Int), .int .i64 11, .int .i64 15] w9 fun y w' => ∃ g k, y = .returned (.slice (some ⟨g, 0, none⟩) (spansL false (J.M.stuffL (J.plainL e i r d l)) (lay e i r d l sum 11 15)).length k) ∧ (∀ j u, (spV (spansL false (J.M.stuffL (J.plainL e i r d l)) (lay e i r d l sum 11 15)))[j]? = some u → w'.cell? ((⟨g, 0, none⟩ : Addr).add j) = some u) ∧ bwS w7 s2 (imgL e i r d l) false (J.M.trail (J.M.stuffL (J.plainL e i r d l))) w' ∧ ownsS w' (w7.heap.size + 1) v8 (spansL true [] (lay e i r d l sum 1 11)) ∧ Below s2 w9 w') := by
    have := fields_any w7 w9 s2 (J.M.stuffL (J.plainL e i r d l)) false (J.M.trail (J.M.stuffL (J.plainL e i r d l))) H9.out.2.2.2.1 ⟨HSA.out, fun e => by cases e⟩ e i r d a n cap l sum 11 15 (fun W hW => HB.out W (H9.out.2.2.1.trans (hW.mono (by omega)))) hi hd hn8 hcrc (by omega) (by omega) (.inr (.inr rfl)) (by rw [HLT.out]; have := HPL.out; have := HSL.out; simp; omega) (by rw [HLT.out]; intro x hx; rw [List.mem_replicate] at hx; exact .inr hx.2)
    refine this.mono ?_
    rintro y w' ⟨v, rfl, q1, q2, q3, q4⟩
    rw [HLT.out, feedL_false, ← HIL.out] at q1
    obtain ⟨g, k, rfl, hc⟩ := q2.open (by intro e; rw [e] at hS2; simp at hS2)
    exact ⟨g, k, rfl, hc, q1, H9.out.2.2.2.2.writer (by omega) q3, q4⟩
  have HNE : Hid (spansL true [] (lay e i r d l sum 1 11) ≠ []) := by
    intro e0
    have := congrArg List.length e0
    rw [spansL_len] at this
    simp [lay, layF] at this
  have HLN : Hid ((spansL true [] (lay e i r d l sum 1 11)).length + (spansL false (J.M.stuffL (J.plainL e i r d l)) (lay e i r d l sum 11 15)).length ≤ 1000000) := by show _ ≤ _; omega
  clear hS1 hS2 HSR HSA HSL HPL HPI HBI HLB HLP HLT HP HCP HIL
  generalize spansL false (J.M.stuffL (J.plainL e i r d l)) (lay e i r d l sum 11 15) = SB at *
  generalize spansL true [] (lay e i r d l sum 1 11) = SA at *
  generalize J.M.trail (J.M.stuffL (J.plainL e i r d l)) = rr at *
  go_upto_region 8 with (first
    | (refine wpList_load_mid (P := Tryz.prog) rfl 33 _ rfl w.heap.size 0 rfl [.bool e, .int .u32 (i : Int), .bool r, .int .i64 (d : Int), .slice a n cap] _ H9.out.1.load Tryz.underlying33 rfl sz31F ?_)
    | (go_at_call 66; refine HF3.out.mono ?_; rintro y w10 ⟨g10, k10, rfl, hc10, q10, o10, b10⟩)
    | (at_builtin; refine app_spans w10 rfl (.tmp 17) (.tmp 20) rfl (w7.heap.size + 1) v8 SA SB ⟨g10, 0, none⟩ k10 rfl o10 rfl hc10 HLN.out (o10.room HNE.out) ?_; intro v11 w11 o11 b11 k11))
  have hw7 : s2 < w7.heap.size + 1 := by omega
  have q11 := q10.spans b11 hw7 k11
  have H11 : Hid (Kd.blk w11 (w.heap.size + 1) [.int .i64 0, .slice none 0 0] 27 ∧ Below w.heap.size w w11) := by
    have q1 := H9.out.2.1.kept (b10.block _ (by omega))
    have q2 := H9.out.2.2.1.trans (b10.mono (by omega))
    exact ⟨q1.kept (b11.block _ (by omega)), q2.trans (b11.mono (by omega))⟩
  obtain ⟨ao, cp, hfin, hown⟩ := q11.finish
  have HFI := hidYY hfin
  have HO : Hid (ownsW w11 (s2 + 1) (.slice ao (wl (imgL e i r d l)).length cp) (wl (imgL e i r d l)) ∧ ownsS w11 (w7.heap.size + 1) v11 (SA ++ SB)) := ⟨hown, o11⟩
  clear hfin hown q11 q10 o10 o11 b10 b11 k11 hc10 H9 HF3 HB
  rw [← HIS.out] at HO
  clear HIS
  generalize hIL : imgL e i r d l = IL at *
  generalize hIS : imgS e i r d l = IS at *
  have HIL2 := hidYY hIL
  have HIS2 := hidYY hIS
  clear hIL hIS
  go_wp2_with (first
    | (go_at_call 32; refine HFI.out.mono ?_; rintro y w12 ⟨rfl, b12⟩; have H12 : Hid (Kd.blk w12 (w.heap.size + 1) [.int .i64 0, .slice none 0 0] 27 ∧ Below w.heap.size w w12 ∧ ownsW w12 (s2 + 1) (.slice ao (wl IL).length cp) (wl IL) ∧ ownsS w12 (w7.heap.size + 1) v11 IS) := ⟨H11.out.1.below b12, H11.out.2.trans (b12.mono H11.out.2.size), HO.out.1.below b12, HO.out.2.below b12⟩; clear b12)
    | (refine wpList_store_mid (P := Tryz.prog) rfl 27 _ _ rfl (w.heap.size + 1) 0 #[.int .i64 (IL.length : Int), .slice ao (wl IL).length cp] rfl rfl (H12.out.1.there 0 2 (by simp)) sz29P one2 ?_; generalize hW13 : World.setCells w12 (w.heap.size + 1) 0 _ = w13; have HW13 : Hid (_ = w13) := hW13; clear hW13))
  have e13 := HW13.out
  have hF : Kd.blk w13 (w.heap.size + 1) [.int .i64 (IL.length : Int), .slice ao (wl IL).length cp] 27 := by
    rw [← e13]
    exact Kd.blk.put [] [.int .i64 0, .slice none 0 0] [] _ H12.out.1 rfl
  have p0 := hF.cell 0 _ rfl
  have p1 := hF.cell 1 _ rfl
  refine bodyPost_ret (v := .tuple #[pkV (IL.length : Int) ao (wl IL).length cp, v11]) (by simp [results, Tryz.results44, go_sem, p0, p1]) rfl ?_
  rw [HIL2.out, HIS2.out]
  refine ⟨ao, cp, v11, rfl, ?_, ?_, ?_⟩
  · rw [← e13]; exact (H12.out.2.2.1.setCellsO (w.heap.size + 1) 0 _ (by omega)).lower (by omega)
  · rw [← e13]; exact (H12.out.2.2.2.setCellsO (w.heap.size + 1) 0 _ (by omega)).lower (by omega)
  · rw [← e13]; exact Kd.setCells_below (by omega) 0 _ H12.out.2.1
end Go.Proofs.YtpknchjjfiiaeaaGreatDoor
