import Derived.Test.YtnefmdjodjpopaaBK
namespace Go.Proofs.Ytnefmdjodjpopaa
open Go.RowKit

theorem isBytes.low {W W' : World} {a : Option Addr} {n cap B : Nat} {l : List Nat} (h : isBytes W a n cap l) (hb : Below B W W') (hlt : l ≠ [] → ∀ x, a = some x → x.block < B) : isBytes W' a n cap l := by
  refine ⟨h.len, h.cap, h.small, fun hl => ?_⟩
  obtain ⟨g, off, e, hc⟩ := h.cells hl
  refine ⟨g, off, e, fun j hj => ?_⟩
  have := hc j hj
  exact (hb.cell (by exact hlt hl ⟨g, off, none⟩ e)).trans this
/-- what stands while the law looks at the answers: the model's frame in block b0, the program's in block b1 -/
structure ldI (w0 : World) (B b0 b1 : Nat) (ao0 : Option Addr) (cap0 : Nat) (ao1 : Option Addr) (cap1 n : Nat) (l lm : List Nat) (fe : Bool) (fi : Nat) (fr : Bool) (fd : Nat) (W : World) : Prop where
  f0 : frAt W b0 fe fi fr (fd : Int) (.slice ao0 n cap0)
  f1 : frAt W b1 fe fi fr (fd : Int) (.slice ao1 n cap1)
  y0 : isBytes W ao0 n cap0 l
  o1 : ownsB W B (.slice ao1 n cap1) lm
  bel : Below w0.heap.size w0 W
  ord : b0 < B ∧ w0.heap.size ≤ b0 ∧ B ≤ W.heap.size
  lt0 : l ≠ [] → ∀ x, ao0 = some x → x.block < B
  ne1 : ∀ x, ao1 = some x → B ≤ x.block ∧ x.block ≠ b1
theorem ldI.below {w0 : World} {B b0 b1 : Nat} {ao0 : Option Addr} {cap0 : Nat} {ao1 : Option Addr} {cap1 n : Nat} {l lm : List Nat} {fe : Bool} {fi : Nat} {fr : Bool} {fd : Nat} {W W' : World} (h : ldI w0 B b0 b1 ao0 cap0 ao1 cap1 n l lm fe fi fr fd W) (hb : Below W.heap.size W W') : ldI w0 B b0 b1 ao0 cap0 ao1 cap1 n l lm fe fi fr fd W' := by
  obtain ⟨a, b, c⟩ := h.ord
  exact ⟨h.f0.below hb h.f0.lt, h.f1.below hb h.f1.lt, h.y0.below hb, h.o1.otherBlock (fun g hg => hb.block g (World.ownsRow.lt h.o1 g hg).2), h.bel.trans (hb.mono (by omega)), ⟨a, b, Nat.le_trans c hb.size⟩, h.lt0, h.ne1⟩
theorem ldI.mark {w0 : World} {B b0 b1 : Nat} {ao0 : Option Addr} {cap0 : Nat} {ao1 : Option Addr} {cap1 n : Nat} {l lm lm' : List Nat} {fe : Bool} {fi : Nat} {fr : Bool} {fd : Nat} {W W' : World} (h : ldI w0 B b0 b1 ao0 cap0 ao1 cap1 n l lm fe fi fr fd W)
    (ho : ownsB W' B (.slice ao1 n cap1) lm') (hb : Below B W W') (hk : ∀ b, b < W.heap.size → (∀ a, ao1 = some a → a.block ≠ b) → W'.heap[b]? = W.heap[b]?) : ldI w0 B b0 b1 ao0 cap0 ao1 cap1 n l lm' fe fi fr fd W' := by
  obtain ⟨a, b, c⟩ := h.ord
  refine ⟨h.f0.below hb a, (hk b1 h.f1.lt (fun x hx => (h.ne1 x hx).2)).trans h.f1, h.y0.low hb h.lt0, ho, h.bel.trans (hb.mono (by omega)), ⟨a, b, Nat.le_trans c hb.size⟩, h.lt0, h.ne1⟩
/-- laid out behind the program's answer -/
theorem ldI.start {w w1 w2 : World} {ao0 : Option Addr} {cap0 : Nat} {ao1 : Option Addr} {cap1 n : Nat} {l : List Nat} {fe : Bool} {fi : Nat} {fr : Bool} {fd : Nat} (h0 : isBytes w1 ao0 n cap0 l ∧ Below w.heap.size w w1)
    (ho : ownsB w2 (w1.alloc (.cells #[.bool fe, .int .u32 (fi : Int), .bool fr, .int .i64 (fd : Int), .slice ao0 n cap0] 33)).heap.size (.slice ao1 n cap1) l) (hb : Below (w1.alloc (.cells #[.bool fe, .int .u32 (fi : Int), .bool fr, .int .i64 (fd : Int), .slice ao0 n cap0] 33)).heap.size (w1.alloc (.cells #[.bool fe, .int .u32 (fi : Int), .bool fr, .int .i64 (fd : Int), .slice ao0 n cap0] 33)) w2) :
    ldI w (w1.heap.size + 1) w1.heap.size w2.heap.size ao0 cap0 ao1 cap1 n l l fe fi fr fd (w2.alloc (.cells #[.bool fe, .int .u32 (fi : Int), .bool fr, .int .i64 (fd : Int), .slice ao1 n cap1] 33)) := by
  have e : (w1.alloc (.cells #[.bool fe, .int .u32 (fi : Int), .bool fr, .int .i64 (fd : Int), .slice ao0 n cap0] 33)).heap.size = w1.heap.size + 1 := by simp
  have hz := h0.2.size
  have hz2 := hb.size
  rw [e] at ho hz2
  have hb' : Below (w1.heap.size + 1) (w1.alloc (.cells #[.bool fe, .int .u32 (fi : Int), .bool fr, .int .i64 (fd : Int), .slice ao0 n cap0] 33)) w2 := by rw [e] at hb; exact hb
  have hA : Below w2.heap.size w2 (w2.alloc (.cells #[.bool fe, .int .u32 (fi : Int), .bool fr, .int .i64 (fd : Int), .slice ao1 n cap1] 33)) := (Below.refl _ _).alloc (Nat.le_refl _) _
  have f0 : frAt (w1.alloc (.cells #[.bool fe, .int .u32 (fi : Int), .bool fr, .int .i64 (fd : Int), .slice ao0 n cap0] 33)) w1.heap.size fe fi fr (fd : Int) (.slice ao0 n cap0) := heap_alloc_new w1 _
  have y1 : isBytes (w1.alloc (.cells #[.bool fe, .int .u32 (fi : Int), .bool fr, .int .i64 (fd : Int), .slice ao0 n cap0] 33)) ao0 n cap0 l := h0.1.below ((Below.refl _ _).alloc (Nat.le_refl _) _)
  have hb3 : Below w1.heap.size w1 w2 := ((Below.refl w1.heap.size w1).alloc (Nat.le_refl _) _).trans (hb'.mono (by omega))
  refine ⟨(f0.below hb' (by omega)).below hA (by omega), heap_alloc_new w2 _, (y1.below (by rw [e]; exact hb')).below hA, World.ownsRow.alloc ho _, (h0.2.trans (hb3.mono hz)).trans (hA.mono (by omega)), ⟨by omega, hz, by simp; omega⟩, ?_, ?_⟩
  · intro hl x hx
    obtain ⟨g, off, e', hc⟩ := h0.1.cells hl
    rw [hx] at e'
    cases e'
    have h00 : 0 < l.length := List.length_pos_iff.2 hl
    have := World.block_lt_of_cell? w1 _ (hc 0 h00)
    show g < _
    have : g < w1.heap.size := this
    omega
  · intro x hx
    subst hx
    obtain ⟨h1, h2⟩ := World.ownsRow.lt ho x.block (by simp [Value.ownBlock])
    exact ⟨h1, by omega⟩
set_option maxHeartbeats 4000000 in
set_option maxRecDepth 20000 in
/-- laws.FnExactDecode -/
theorem lawDecode (s : ByteArray) (w : World) (hs : s.size ≤ maxLen) :
    Calls Try.prog 12 #[.string s] w fun e w' => e = .returned (.bool true) ∧ Below w.heap.size w w' := by
  have hs' := hs
  unfold maxLen at hs'
  by_cases hl : (1048576 : Int) < (s.size : Int)
  · go_enter Try.func12, Try.ntmps12
    go_wp2
    go_ret
    exact ⟨rfl, Below.refl _ _⟩
  · have H1 : Hid (∀ W, Calls Try.prog 37 #[.string s] W fun e w' => ∃ ao cap, e = .returned (.tuple #[frV (decK (walkZ s)).ext (decK (walkZ s)).id (decK (walkZ s)).rtr ((decK (walkZ s)).dlc : Int) ao (decK (walkZ s)).data.length cap, .int .i64 ((walkZ s).code : Int)]) ∧ ownsB w' W.heap.size (.slice ao (decK (walkZ s)).data.length cap) (decK (walkZ s)).data ∧ Below W.heap.size W w') := fun W => specDecode_any s W hs
    have H2 : Hid (∀ W, Calls Try.prog 38 #[.string s] W fun e w' => ∃ ao cap, e = .returned (.tuple #[frV (decK (walkZ s)).ext (decK (walkZ s)).id (decK (walkZ s)).rtr ((decK (walkZ s)).dlc : Int) ao (decK (walkZ s)).data.length cap, .int .i64 ((walkZ s).code : Int)]) ∧ ownsB w' W.heap.size (.slice ao (decK (walkZ s)).data.length cap) (decK (walkZ s)).data ∧ Below W.heap.size W w') := fun W => decode_any s W
    obtain ⟨hd8, hd256⟩ := dec_len s
    generalize (decK (walkZ s)).ext = fe at *
    generalize (decK (walkZ s)).id = fi at *
    generalize (decK (walkZ s)).rtr = fr at *
    generalize (decK (walkZ s)).dlc = fd at *
    generalize (decK (walkZ s)).data = l at *
    generalize (walkZ s).code = c at *
    have HD : Hid (∀ x ∈ l, x < 256) := hd256
    have HLn : Hid (l.length = l.length) := rfl
    generalize hn : l.length = n at *
    have HN : Hid (l.length = n) := hn
    clear hd256 hn
    go_enter Try.func12, Try.ntmps12
    go_wp2_with fail
    refine (H1.out _).mono ?_
    rintro e w1 ⟨ao0, cap0, rfl, ho0, hb1⟩
    have HY0 : Hid (isBytes w1 ao0 n cap0 l ∧ Below w.heap.size w w1) := ⟨isBytes.ofOwn ho0 HD.out HN.out.symm, hb1⟩
    clear ho0 hb1
    go_wp2_with fail
    refine (H2.out _).mono ?_
    rintro e w2 ⟨ao1, cap1, rfl, ho1, hb2⟩
    have st := ldI.start HY0.out ho1 hb2
    clear ho1 hb2
    obtain ⟨p0, p1, p2, p3, p4⟩ := st.f0.cells
    obtain ⟨q0, q1, q2, q3, q4⟩ := st.f1.cells
    have ST : Hid (ldI w (w1.heap.size + 1) w1.heap.size w2.heap.size ao0 cap0 ao1 cap1 n l l fe fi fr fd (w2.alloc (.cells #[.bool fe, .int .u32 (fi : Int), .bool fr, .int .i64 (fd : Int), .slice ao1 n cap1] 33))) := st
    clear st
    go_wp2_with fail
    refine (eqFrame_same _ fe fi fr (fd : Int) ao1 n cap1 l (isBytes.ofOwn ST.out.o1 HD.out HN.out.symm) ao0 n cap0 ST.out.y0 (by omega)).mono ?_
    rintro o w3 ⟨rfl, hb3⟩
    have st := ST.out.below hb3
    clear ST hb3 p0 p1 p2 p3 p4 q0 q1 q2 q3 q4 HY0
    generalize w1.heap.size + 1 = B at *
    generalize w1.heap.size = b0 at *
    generalize w2.heap.size = b1 at *
    obtain ⟨p0, p1, p2, p3, p4⟩ := st.f0.cells
    obtain ⟨q0, q1, q2, q3, q4⟩ := st.f1.cells
    have ST : Hid (ldI w B b0 b1 ao0 cap0 ao1 cap1 n l l fe fi fr fd w3) := st
    clear st
    go_wp2_with fail
    refine (markFrame_any w3 B fe fi fr (fd : Int) ao1 n cap1 1 l ST.out.o1 ST.out.ord.2.2 HN.out.symm (by omega)).mono ?_
    rintro o w4 ⟨rfl, ho4, hb4, hk4⟩
    have st := ST.out.mark ho4 hb4 hk4
    clear ST ho4 hb4 hk4 p0 p1 p2 p3 p4 q0 q1 q2 q3 q4
    obtain ⟨p0, p1, p2, p3, p4⟩ := st.f0.cells
    obtain ⟨q0, q1, q2, q3, q4⟩ := st.f1.cells
    have ST : Hid (ldI w B b0 b1 ao0 cap0 ao1 cap1 n l (mkL 1 n l) fe fi fr fd w4) := st
    clear st
    go_wp2_with fail
    refine (heldFrame_any w4 B fe fi fr (fd : Int) ao1 n cap1 1 l ST.out.o1 HN.out.symm (by omega)).mono ?_
    rintro o w5 ⟨rfl, hb5⟩
    have st := ST.out.below hb5
    clear ST hb5 p0 p1 p2 p3 p4 q0 q1 q2 q3 q4
    have ST : Hid (ldI w B b0 b1 ao0 cap0 ao1 cap1 n l (mkL 1 n l) fe fi fr fd w5) := st
    clear st
    have hm0 : ¬ (1 + (n : Int)) < 0 := by omega
    go_wp2_with fail
    refine (H2.out _).mono ?_
    rintro e w6 ⟨ao2, cap2, rfl, ho6, hb6⟩
    have st := ST.out.below hb6
    have hA : Below w6.heap.size w6 (w6.alloc (.cells #[.bool fe, .int .u32 (fi : Int), .bool fr, .int .i64 (fd : Int), .slice ao2 n cap2] 33)) := (Below.refl _ _).alloc (Nat.le_refl _) _
    have hy2 : isBytes (w6.alloc (.cells #[.bool fe, .int .u32 (fi : Int), .bool fr, .int .i64 (fd : Int), .slice ao2 n cap2] 33)) ao2 n cap2 l := (isBytes.ofOwn ho6 HD.out HN.out.symm).below hA
    have st7 := st.below hA
    have HY2 : Hid (isBytes (w6.alloc (.cells #[.bool fe, .int .u32 (fi : Int), .bool fr, .int .i64 (fd : Int), .slice ao2 n cap2] 33)) ao2 n cap2 l) := hy2
    clear ST ho6 hb6 st hA hy2
    obtain ⟨p0, p1, p2, p3, p4⟩ := st7.f0.cells
    have ST : Hid (ldI w B b0 b1 ao0 cap0 ao1 cap1 n l (mkL 1 n l) fe fi fr fd (w6.alloc (.cells #[.bool fe, .int .u32 (fi : Int), .bool fr, .int .i64 (fd : Int), .slice ao2 n cap2] 33))) := st7
    clear st7
    go_wp2_with fail
    refine (eqFrame_same _ fe fi fr (fd : Int) ao2 n cap2 l HY2.out ao0 n cap0 ST.out.y0 (by omega)).mono ?_
    rintro o w8 ⟨rfl, hb8⟩
    have HB : Hid (Below w.heap.size w w8) := (ST.out.below hb8).bel
    clear ST hb8 HY2 p0 p1 p2 p3 p4
    go_wp2
    go_ret
    exact ⟨rfl, HB.out⟩
end Go.Proofs.Ytnefmdjodjpopaa
