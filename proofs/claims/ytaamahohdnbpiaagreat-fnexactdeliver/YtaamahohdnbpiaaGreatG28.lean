import Derived.Test.YtaamahohdnbpiaaGreatMI
import Derived.Test.YtaamahohdnbpiaaGreatG26
namespace Go.Proofs.YtaamahohdnbpiaaGreat
open Go.RowKit
set_option linter.unusedVariables false
theorem free5L (W : World) (P : Nat) (a : Option Addr) (n cap : Nat) (count : Nat) (y0 : W.cell? ⟨P, 7, none⟩ = some (.slice a n cap)) (y2 : W.cell? ⟨P, 9, none⟩ = some (.int .i64 (count : Int))) (hc : count ≤ n) (hn : n ≤ 1048576) :
    Calls Tryz.prog 155 #[.pointer (some ⟨P, 7, none⟩)] W fun o w' => o = .returned (.int .i64 ((n - count : Nat) : Int)) ∧ Below W.heap.size W w' := by
  go_enter Tryz.func155, Tryz.ntmps155
  go_wp2
  go_region
  all_goals
    go_wp2
    go_ret
    refine ⟨ret_int ?_, (Below.refl _ _).drew⟩
    omega
structure pt5L (c0 c2 : Int) (r3 gf n1 kf gb n2 kb mb gq f3 n4 : Nat) (lo st : Int) (w0 W wr : World) (P gs room first : Nat) (M : List R5) (C : Nat) : Prop where
  p : blk wr P (liL c0 room c2 r3 gf n1 kf gb n2 kb mb gs first C gq f3 n4 lo st) 134
  z : rowZ wr gs (room * 5)
  r : ring5 w0 wr gs room first M
  k : ∀ b, b ≠ P → b ≠ gs → b < W.heap.size → wr.heap[b]? = W.heap[b]?
  s : W.heap.size ≤ wr.heap.size
  o : wr.os = W.os ∧ wr.tape = W.tape ∧ wr.output = W.output
theorem pt5L.below {c0 c2 : Int} {r3 gf n1 kf gb n2 kb mb gq f3 n4 : Nat} {lo st : Int} {w0 W wr wr' : World} {P gs room first : Nat} {M : List R5} {C : Nat} (h : pt5L c0 c2 r3 gf n1 kf gb n2 kb mb gq f3 n4 lo st w0 W wr P gs room first M C) (hg : gs < W.heap.size) (hb : Below wr.heap.size wr wr') : pt5L c0 c2 r3 gf n1 kf gb n2 kb mb gq f3 n4 lo st w0 W wr' P gs room first M C :=
  ⟨h.p.below hb, h.z.below hb (Nat.lt_of_lt_of_le hg h.s), h.r.keep (hb.block _ (Nat.lt_of_lt_of_le hg h.s)), fun b h1 h2 h3 => (hb.block _ (Nat.lt_of_lt_of_le h3 h.s)).trans (h.k b h1 h2 h3), Nat.le_trans h.s hb.size, ⟨hb.os.trans h.o.1, hb.tape.trans h.o.2.1, hb.output.trans h.o.2.2⟩⟩
theorem pt5L.store {c0 c2 : Int} {r3 gf n1 kf gb n2 kb mb gq f3 n4 : Nat} {lo st : Int} {w0 W wr : World} {P gs room first : Nat} {M : List R5} {C : Nat} (h : pt5L c0 c2 r3 gf n1 kf gb n2 kb mb gq f3 n4 lo st w0 W wr P gs room first M C) (hg : gs ≠ P) (hf : first < room) (hL : M.length < room) (b : R5) (ao : Option Addr) (m c : Nat) (hb : isBytes w0 ao m c b.l) :
    pt5L c0 c2 r3 gf n1 kf gb n2 kb mb gq f3 n4 lo st w0 W (wr.setCells gs ((first + M.length) % room * 5) (f5 b ao m c)) P gs room first (M ++ [b]) C := by
  have hz : (first + M.length) % room < room := Nat.mod_lt _ (by omega)
  have hzz : (first + M.length) % room * 5 + 5 ≤ room * 5 := by
    have : ((first + M.length) % room + 1) * 5 ≤ room * 5 := Nat.mul_le_mul_right _ hz
    omega
  refine ⟨h.p.other (fun e => hg e.symm) _ _, by rw [setCells_row]; exact h.z.put _ _ hzz, h.r.store hf hL h.z b ao m c hb, fun q h1 h2 h3 => (setCells_other gs q h2 _ _ _).trans (h.k q h1 h2 h3), by rw [setCells_size]; exact h.s, ?_⟩
  have hbel := setCells_below (B := 0) (Nat.zero_le gs) ((first + M.length) % room * 5) (f5 b ao m c) (Below.refl 0 wr)
  exact ⟨hbel.os.trans h.o.1, hbel.tape.trans h.o.2.1, hbel.output.trans h.o.2.2⟩
theorem pt5L.count {c0 c2 : Int} {r3 gf n1 kf gb n2 kb mb gq f3 n4 : Nat} {lo st : Int} {w0 W wr : World} {P gs room first : Nat} {M : List R5} {C : Nat} (h : pt5L c0 c2 r3 gf n1 kf gb n2 kb mb gq f3 n4 lo st w0 W wr P gs room first M C) (hg : gs ≠ P) (C' : Nat) : pt5L c0 c2 r3 gf n1 kf gb n2 kb mb gq f3 n4 lo st w0 W (wr.setCell ⟨P, 9, none⟩ (.int .i64 (C' : Int))) P gs room first M C' := by
  have e : ∀ b, b ≠ P → (wr.setCell ⟨P, 9, none⟩ (.int .i64 (C' : Int))).heap[b]? = wr.heap[b]? := fun b hb => heap_setCell_other _ _ _ _ (by exact hb)
  have hbel : Below 0 wr (wr.setCell ⟨P, 9, none⟩ (.int .i64 (C' : Int))) := (Below.refl 0 wr).setCell (Nat.zero_le _) _
  exact ⟨h.p.set 9 _, h.z.up (e gs hg), h.r.keep (e gs hg), fun q h1 h2 h3 => (e q h1).trans (h.k q h1 h2 h3), Nat.le_trans h.s hbel.size, ⟨hbel.os.trans h.o.1, hbel.tape.trans h.o.2.1, hbel.output.trans h.o.2.2⟩⟩
set_option maxHeartbeats 8000000 in
set_option maxRecDepth 20000 in
theorem put5L_any (c0 c2 : Int) (r3 gf n1 kf gb n2 kb mb gq f3 n4 : Nat) (lo st : Int) (w0 W : World) (P gs room first : Nat) (L its : List R5) (a : Option Addr) (n c : Nat)
    (hP : blk W P (liL c0 room c2 r3 gf n1 kf gb n2 kb mb gs first L.length gq f3 n4 lo st) 134) (hg : gs ≠ P) (hrow : rowZ W gs (room * 5)) (hgl : gs < W.heap.size) (hring : ring5 w0 W gs room first L)
    (hf : first < room) (hL : L.length ≤ room) (hroom : room ≤ 1000) (hits : items5 w0 W P gs a n c its) (hn : n ≤ 1048576) (t : Nat) (ht : t = min (room - L.length) n) :
    Calls Tryz.prog 156 #[.pointer (some ⟨P, 7, none⟩), .slice a n c] W fun o w' => o = .returned (.int .i64 (t : Int)) ∧ pt5L c0 c2 r3 gf n1 kf gb n2 kb mb gq f3 n4 lo st w0 W w' P gs room first (L ++ its.take t) (L.length + t) := by
  have HF : Hid (Calls Tryz.prog 155 #[.pointer (some ⟨P, 7, none⟩)] W fun o w' => o = .returned (.int .i64 ((room - L.length : Nat) : Int)) ∧ Below W.heap.size W w') := free5L W P _ room room L.length (hP.cell 7 _ rfl) (hP.cell 9 _ rfl) hL (by omega)
  have HP0 : Hid (pt5L c0 c2 r3 gf n1 kf gb n2 kb mb gq f3 n4 lo st w0 W W P gs room first L L.length) := ⟨hP, hrow, hring, fun _ _ _ _ => rfl, Nat.le_refl _, ⟨rfl, rfl, rfl⟩⟩
  have hcp := hits.cap
  have hmin : min ((room - L.length : Nat) : Int) (n : Int) = (t : Int) := by omega
  have hmax : max (t : Int) 0 = (t : Int) := by omega
  have htn : t ≤ n := by omega
  have HTR : Hid (L.length + t ≤ room) := by show _ ≤ _; omega
  have HIT : Hid (items5 w0 W P gs a n c its) := hits
  have HR : Hid (room ≤ 1000 ∧ first < room) := ⟨hroom, hf⟩
  have HG : Hid (gs ≠ P ∧ gs < W.heap.size) := ⟨hg, hgl⟩
  clear hP hrow hgl hring hits ht hroom hL hg
  generalize hfr : ((room - L.length : Nat) : Int) = fr at *
  clear hfr
  have hna : a = none ∨ ∃ ad, a = some ad := by cases a <;> simp
  have hall : Hid (∀ ad, a = some ad → ad.spot = none ∨ True) := fun _ _ => Or.inr trivial
  clear hall
  by_cases hnil : its = []
  · have ht0 : t = 0 := by have := HIT.out.len; rw [hnil] at this; simp at this; omega
    have hn0 : n = 0 := by have := HIT.out.len; rw [hnil] at this; simpa using this
    subst ht0
    subst hn0
    subst hnil
    clear HIT
    have hmin0 : min fr 0 = 0 := by simpa using hmin
    clear hmin hmax
    rcases hna with rfl | ⟨ad, rfl⟩
    · go_enter Tryz.func156, Tryz.ntmps156
      go_wp2_with fail
      refine HF.out.mono ?_
      rintro o w1 ⟨rfl, hb1⟩
      have H1 : Hid (pt5L c0 c2 r3 gf n1 kf gb n2 kb mb gq f3 n4 lo st w0 W w1 P gs room first L L.length) := HP0.out.below HG.out.2 hb1
      clear hb1
      go_wp2_with fail
      go_loopw [17] (fun i wr => i = .int .i64 0 ∧ wr = w1) (fun _ _ => 0)
      case atStart => exact ⟨rfl, rfl⟩
      case round =>
        obtain ⟨rfl, rfl⟩ := hrel
        go_wp2
        go_ret
        refine ⟨rfl, ?_⟩
        simpa using H1.out
    · go_enter Tryz.func156, Tryz.ntmps156
      go_wp2_with fail
      refine HF.out.mono ?_
      rintro o w1 ⟨rfl, hb1⟩
      have H1 : Hid (pt5L c0 c2 r3 gf n1 kf gb n2 kb mb gq f3 n4 lo st w0 W w1 P gs room first L L.length) := HP0.out.below HG.out.2 hb1
      clear hb1
      go_wp2_with fail
      go_loopw [17] (fun i wr => i = .int .i64 0 ∧ wr = w1) (fun _ _ => 0)
      case atStart => exact ⟨rfl, rfl⟩
      case round =>
        obtain ⟨rfl, rfl⟩ := hrel
        go_wp2
        go_ret
        refine ⟨rfl, ?_⟩
        simpa using H1.out
  · obtain ⟨g, off, rfl, hgP, hggs, hglt, hc⟩ := HIT.out.cells hnil
    have HC : Hid (∀ j (h : j < its.length), ∃ ao m c', W.rangeAt g (off + j * 5) (f5 its[j] ao m c') ∧ isBytes w0 ao m c' its[j].l) := hc
    have HGG : Hid (g ≠ P ∧ g ≠ gs ∧ g < W.heap.size) := ⟨hgP, hggs, hglt⟩
    clear hc hgP hggs hglt hna
    go_enter Tryz.func156, Tryz.ntmps156
    go_wp2_with fail
    refine HF.out.mono ?_
    rintro o w1 ⟨rfl, hb1⟩
    have H1 : Hid (pt5L c0 c2 r3 gf n1 kf gb n2 kb mb gq f3 n4 lo st w0 W w1 P gs room first L L.length) := HP0.out.below HG.out.2 hb1
    clear hb1 HF
    go_wp2_with fail
    clear hmin hmax
    go_loopw [17] (fun i wr => ∃ k : Nat, k ≤ t ∧ i = .int .i64 (k : Int) ∧ pt5L c0 c2 r3 gf n1 kf gb n2 kb mb gq f3 n4 lo st w0 W wr P gs room first (L ++ its.take k) (L.length + k)) (fun i _ => t - (intOf i).toNat)
    case atStart => exact ⟨0, Nat.zero_le _, rfl, by simpa using H1.out⟩
    case round =>
      obtain ⟨k, hk, rfl, hp⟩ := hrel
      have HPT : Hid (pt5L c0 c2 r3 gf n1 kf gb n2 kb mb gq f3 n4 lo st w0 W wr P gs room first (L ++ its.take k) (L.length + k)) := hp
      clear hp
      by_cases hlt : k < t
      · have hkl : k < its.length := by have := HIT.out.len; omega
        obtain ⟨ao, m, c', hx1, hx2⟩ := HC.out k hkl
        have hge : wr.heap[g]? = W.heap[g]? := HPT.out.k g HGG.out.1 HGG.out.2.1 HGG.out.2.2
        have hx1' : wr.rangeAt g (off + k * 5) (f5 its[k] ao m c') := fun j v hv => (cell_same hge _).trans (hx1 j v hv)
        have hML : (L ++ its.take k).length = L.length + k := by rw [List.length_append, List.length_take]; omega
        have HST : Hid (∀ X C, pt5L c0 c2 r3 gf n1 kf gb n2 kb mb gq f3 n4 lo st w0 W X P gs room first (L ++ its.take k) C → pt5L c0 c2 r3 gf n1 kf gb n2 kb mb gq f3 n4 lo st w0 W (X.setCells gs ((first + (L.length + k)) % room * 5) (f5 its[k] ao m c')) P gs room first (L ++ its.take (k + 1)) C) := by
          intro X C hX
          have := hX.store HG.out.1 HR.out.2 (by rw [hML]; have := HTR.out; omega) its[k] ao m c' hx2
          rw [hML, List.append_assoc, ← List.take_succ_eq_append_getElem hkl] at this
          exact this
        obtain ⟨b, hb⟩ : ∃ b, its[k] = b := ⟨_, rfl⟩
        rw [hb] at hx1' HST
        obtain ⟨e, i, r, d, l⟩ := b
        have HRG : Hid (wr.rangeAt g (off + k * 5) [.bool e, .int .u32 (i : Int), .bool r, .int .i64 d, .slice ao m c']) := hx1'
        have HP3 : Hid (blk (wr.alloc (.cells #[.bool e, .int .u32 (i : Int), .bool r, .int .i64 d, .slice ao m c'] 25)) P (liL c0 room c2 r3 gf n1 kf gb n2 kb mb gs first (L.length + k) gq f3 n4 lo st) 134 ∧ blk (wr.alloc (.cells #[.bool e, .int .u32 (i : Int), .bool r, .int .i64 d, .slice ao m c'] 25)) wr.heap.size [.bool e, .int .u32 (i : Int), .bool r, .int .i64 d, .slice ao m c'] 25) := ⟨HPT.out.p.alloc _, blk.new wr _ 25⟩
        have HT3 : Hid (pt5L c0 c2 r3 gf n1 kf gb n2 kb mb gq f3 n4 lo st w0 W (wr.alloc (.cells #[.bool e, .int .u32 (i : Int), .bool r, .int .i64 d, .slice ao m c'] 25)) P gs room first (L ++ its.take k) (L.length + k)) := HPT.out.below HG.out.2 ((Below.refl _ _).alloc (Nat.le_refl _) _)
        have hmod : Int.tmod ((first : Int) + ((L.length + k : Nat) : Int)) (room : Int) = (((first + (L.length + k)) % room : Nat) : Int) := by
          rw [← Int.natCast_add]; exact Int.ofNat_tmod _ _
        have hzr : (first + (L.length + k)) % room < room := Nat.mod_lt _ (by have := HR.out; omega)
        have hZN : (first + (L.length + k)) % room * 5 + 5 ≤ room * 5 := by
          have : ((first + (L.length + k)) % room + 1) * 5 ≤ room * 5 := Nat.mul_le_mul_right _ hzr
          omega
        have hroom0 : ¬ (room : Int) = 0 := by have := HR.out; omega
        have hC1 : L.length + k + 1 = L.length + (k + 1) := by omega
        have HC1 : Hid (L.length + k + 1 = L.length + (k + 1)) := hC1
        have hr1 := HR.out.1
        have hf1 := HR.out.2
        have hC2 := HTR.out
        have hCr : L.length + k ≤ 1000 := by omega
        clear hx1 hx2 hge hx1' hML hb hC1 hC2
        generalize hCC : L.length + k = C at *
        clear hCC
        generalize hZZ : (first + C) % room = Z at *
        clear hZZ
        go_wp2_with (first
          | (refine wpList_load_mid (P := Tryz.prog) rfl 25 _ rfl g (off + k * 5) rfl _ _ HRG.out Tryz.underlying25 rfl sz93 ?_))
        have HZT : Hid (World.there (World.drew (wr.alloc (.cells #[.bool e, .int .u32 (i : Int), .bool r, .int .i64 d, .slice ao m c'] 25))) gs (Z * 5) 5) := HT3.out.z.there (Z * 5) 5 hZN
        clear hZN HRG
        have hPBg : wr.heap.size ≠ gs := by have := HG.out.2; have := HPT.out.s; omega
        have HPG : Hid (wr.heap.size ≠ gs) := hPBg
        clear hPBg
        generalize hPB : wr.heap.size = PB at *
        clear hPB
        generalize hW3 : wr.alloc (.cells #[.bool e, .int .u32 (i : Int), .bool r, .int .i64 d, .slice ao m c'] 25) = W3 at *
        clear hW3 HPT
        refine wp_region_held (S := (fun X => X.cell? ⟨P, 7, none⟩ = some (.slice (some ⟨gs, 0, none⟩) room room) ∧ X.cell? ⟨P, 8, none⟩ = some (.int .i64 (first : Int)) ∧ X.cell? ⟨P, 9, none⟩ = some (.int .i64 (C : Int)) ∧ X.rangeAt PB 0 [.bool e, .int .u32 (i : Int), .bool r, .int .i64 d, .slice ao m c'])) (by kernel_rfl) ?_
        have hS : (fun X => X.cell? ⟨P, 7, none⟩ = some (.slice (some ⟨gs, 0, none⟩) room room) ∧ X.cell? ⟨P, 8, none⟩ = some (.int .i64 (first : Int)) ∧ X.cell? ⟨P, 9, none⟩ = some (.int .i64 (C : Int)) ∧ X.rangeAt PB 0 [.bool e, .int .u32 (i : Int), .bool r, .int .i64 d, .slice ao m c']) (World.drew W3) := ⟨(HP3.out.1.cell 7 _ rfl), (HP3.out.1.cell 8 _ rfl), (HP3.out.1.cell 9 _ rfl), HP3.out.2.load⟩
        simp only [] at hS
        refine wpAnyH_take (i := 0) (v := .pointer (some ⟨P, 7, none⟩)) rfl (by kernel_rfl) (by kernel_rfl) (by kernel_rfl) (fun _ _ _ h => h) (Or.inl ⟨by rfl, ?_⟩) hS ?_
        · intro X hSw
          clear hS
          go_simp
        simp only [Act.put, liA, liB, liC, liD, liE]
        refine wpAnyH_take (i := 1) (v := .pointer (some ⟨P, 7, none⟩)) rfl (by kernel_rfl) (by kernel_rfl) (by kernel_rfl) (fun _ _ _ h => h) (Or.inl ⟨by rfl, ?_⟩) hS ?_
        · intro X hSw
          clear hS
          go_simp
        simp only [Act.put, liA, liB, liC, liD, liE, liF]
        refine wpAnyH_take (i := 2) (v := .pointer (some ⟨P, 7, none⟩)) rfl (by kernel_rfl) (by kernel_rfl) (by kernel_rfl) (fun _ _ _ h => h) (Or.inl ⟨by rfl, ?_⟩) hS ?_
        · intro X hSw
          clear hS
          go_simp
        simp only [Act.put, liA, liB, liC, liD, liE, liF]
        refine wpAnyH_take (i := 3) (v := .slice (some ⟨gs, 0, none⟩) room room) rfl (by kernel_rfl) (by kernel_rfl) (by kernel_rfl) (fun _ _ _ h => h) (Or.inl ⟨by rfl, ?_⟩) hS ?_
        · intro X hSw
          clear hS
          go_simp
        simp only [Act.put, liA, liB, liC, liD, liE, liF]
        refine wpAnyH_take (i := 4) (v := .pointer (some ⟨P, 7, none⟩)) rfl (by kernel_rfl) (by kernel_rfl) (by kernel_rfl) (fun _ _ _ h => h) (Or.inl ⟨by rfl, ?_⟩) hS ?_
        · intro X hSw
          clear hS
          go_simp
        simp only [Act.put, liA, liB, liC, liD, liE, liF]
        refine wpAnyH_take (i := 5) (v := .pointer (some ⟨P, 7, none⟩)) rfl (by kernel_rfl) (by kernel_rfl) (by kernel_rfl) (fun _ _ _ h => h) (Or.inl ⟨by rfl, ?_⟩) hS ?_
        · intro X hSw
          clear hS
          go_simp
        simp only [Act.put, liA, liB, liC, liD, liE, liF]
        refine wpAnyH_take (i := 6) (v := .pointer (some ⟨P, 8, none⟩)) rfl (by kernel_rfl) (by kernel_rfl) (by kernel_rfl) (fun _ _ _ h => h) (Or.inl ⟨by rfl, ?_⟩) hS ?_
        · intro X hSw
          clear hS
          go_simp
        simp only [Act.put, liA, liB, liC, liD, liE, liF]
        refine wpAnyH_take (i := 7) (v := .int .i64 (first : Int)) rfl (by kernel_rfl) (by kernel_rfl) (by kernel_rfl) (fun _ _ _ h => h) (Or.inl ⟨by rfl, ?_⟩) hS ?_
        · intro X hSw
          clear hS
          go_simp
        simp only [Act.put, liA, liB, liC, liD, liE, liF]
        refine wpAnyH_take (i := 8) (v := .pointer (some ⟨P, 7, none⟩)) rfl (by kernel_rfl) (by kernel_rfl) (by kernel_rfl) (fun _ _ _ h => h) (Or.inl ⟨by rfl, ?_⟩) hS ?_
        · intro X hSw
          clear hS
          go_simp
        simp only [Act.put, liA, liB, liC, liD, liE, liF]
        refine wpAnyH_take (i := 9) (v := .pointer (some ⟨P, 7, none⟩)) rfl (by kernel_rfl) (by kernel_rfl) (by kernel_rfl) (fun _ _ _ h => h) (Or.inl ⟨by rfl, ?_⟩) hS ?_
        · intro X hSw
          clear hS
          go_simp
        simp only [Act.put, liA, liB, liC, liD, liE, liF]
        refine wpAnyH_take (i := 10) (v := .pointer (some ⟨P, 9, none⟩)) rfl (by kernel_rfl) (by kernel_rfl) (by kernel_rfl) (fun _ _ _ h => h) (Or.inl ⟨by rfl, ?_⟩) hS ?_
        · intro X hSw
          clear hS
          go_simp
        simp only [Act.put, liA, liB, liC, liD, liE, liF]
        refine wpAnyH_take (i := 11) (v := .int .i64 (C : Int)) rfl (by kernel_rfl) (by kernel_rfl) (by kernel_rfl) (fun _ _ _ h => h) (Or.inl ⟨by rfl, ?_⟩) hS ?_
        · intro X hSw
          clear hS
          go_simp
        simp only [Act.put, liA, liB, liC, liD, liE, liF]
        refine wpAnyH_take (i := 12) (v := .int .i64 ((first : Int) + (C : Int))) rfl (by kernel_rfl) (by kernel_rfl) (by kernel_rfl) (fun _ _ _ h => h) (Or.inl ⟨by rfl, ?_⟩) hS ?_
        · intro X hSw
          clear hS
          go_simp; rw [IntKind.wrap_i64]; omega
        simp only [Act.put, liA, liB, liC, liD, liE, liF]
        refine wpAnyH_take (i := 13) (v := .pointer (some ⟨P, 7, none⟩)) rfl (by kernel_rfl) (by kernel_rfl) (by kernel_rfl) (fun _ _ _ h => h) (Or.inl ⟨by rfl, ?_⟩) hS ?_
        · intro X hSw
          clear hS
          go_simp
        simp only [Act.put, liA, liB, liC, liD, liE, liF]
        refine wpAnyH_take (i := 14) (v := .pointer (some ⟨P, 7, none⟩)) rfl (by kernel_rfl) (by kernel_rfl) (by kernel_rfl) (fun _ _ _ h => h) (Or.inl ⟨by rfl, ?_⟩) hS ?_
        · intro X hSw
          clear hS
          go_simp
        simp only [Act.put, liA, liB, liC, liD, liE, liF]
        refine wpAnyH_take (i := 15) (v := .pointer (some ⟨P, 7, none⟩)) rfl (by kernel_rfl) (by kernel_rfl) (by kernel_rfl) (fun _ _ _ h => h) (Or.inl ⟨by rfl, ?_⟩) hS ?_
        · intro X hSw
          clear hS
          go_simp
        simp only [Act.put, liA, liB, liC, liD, liE, liF]
        refine wpAnyH_take (i := 16) (v := .slice (some ⟨gs, 0, none⟩) room room) rfl (by kernel_rfl) (by kernel_rfl) (by kernel_rfl) (fun _ _ _ h => h) (Or.inl ⟨by rfl, ?_⟩) hS ?_
        · intro X hSw
          clear hS
          go_simp
        simp only [Act.put, liA, liB, liC, liD, liE, liF]
        refine wpAnyH_take (i := 17) (v := .int .i64 (room : Int)) rfl (by kernel_rfl) (by kernel_rfl) (by kernel_rfl) (fun _ _ _ h => h) (Or.inl ⟨by rfl, ?_⟩) hS ?_
        · intro X hSw
          clear hS
          go_simp
        simp only [Act.put, liA, liB, liC, liD, liE, liF]
        refine wpAnyH_take (i := 18) (v := .int .i64 (Z : Int)) rfl (by kernel_rfl) (by kernel_rfl) (by kernel_rfl) (fun _ _ _ h => h) (Or.inl ⟨by rfl, ?_⟩) hS ?_
        · intro X hSw
          clear hS
          go_simp; omega
        simp only [Act.put, liA, liB, liC, liD, liE, liF]
        refine wpAnyH_take (i := 19) (v := .agg #[.bool e, .int .u32 (i : Int), .bool r, .int .i64 d, .slice ao m c']) rfl (by kernel_rfl) (by kernel_rfl) (by kernel_rfl) (fun _ _ _ h => h) (yieldsIf_load_mid (by rfl) 25 (.tmp 7) rfl PB 0 rfl [.bool e, .int .u32 (i : Int), .bool r, .int .i64 d, .slice ao m c'] _ (fun X h => h.2.2.2) Tryz.underlying25 rfl sz93) hS ?_
        simp only [Act.put, liA, liB, liC, liD, liE, liF]
        refine wpAnyH_take (i := 20) (v := .pointer (some ⟨gs, Z * 5, none⟩)) rfl (by kernel_rfl) (by kernel_rfl) (by kernel_rfl) (fun _ _ _ h => h) (Or.inl ⟨by rfl, ?_⟩) hS ?_
        · intro X hSw
          clear hS
          go_simp
        simp only [Act.put, liA, liB, liC, liD, liE, liF]
        refine wpAnyH_all (rs := [21]) (by kernel_rfl) (by simp) ?_
        refine AllReadyH.cons rfl (fun K hK => ?_) AllReadyH.nil
        rw [if_pos (by rfl)]
        refine wp_store_mid 25 (.tmp 41) (.tmp 40) rfl gs (Z * 5) _ rfl rfl HZT.out sz93 (one5 _ _ _ _ _ _ _) ?_
        simp only [Act.put, liD, liE, liF]
        have HT4 : Hid (pt5L c0 c2 r3 gf n1 kf gb n2 kb mb gq f3 n4 lo st w0 W (World.setCells (World.drew W3) gs (Z * 5) [.bool e, .int .u32 (i : Int), .bool r, .int .i64 d, .slice ao m c']) P gs room first (L ++ its.take (k + 1)) C) := HST.out _ _ (HT3.out.below HG.out.2 (Below.refl _ _).drew)
        have HP4 : Hid (blk (World.setCells (World.drew W3) gs (Z * 5) [.bool e, .int .u32 (i : Int), .bool r, .int .i64 d, .slice ao m c']) PB [.bool e, .int .u32 (i : Int), .bool r, .int .i64 d, .slice ao m c'] 25) := (show blk (World.drew W3) PB [.bool e, .int .u32 (i : Int), .bool r, .int .i64 d, .slice ao m c'] 25 from HP3.out.2).other HPG.out _ _
        refine hK.out _ (World.setCells (World.drew W3) gs (Z * 5) [.bool e, .int .u32 (i : Int), .bool r, .int .i64 d, .slice ao m c']) ⟨HT4.out.p.cell 7 _ rfl, HT4.out.p.cell 8 _ rfl, HT4.out.p.cell 9 _ rfl, HP4.out.load⟩ (fun hS2 => ?_)
        clear hS hK K
        refine wpAnyH_done (by kernel_rfl) ?_ _
        clear hS2 hmod
        generalize hW5 : World.setCells (World.drew W3) gs (Z * 5) _ = w5
        have HT5 : Hid (pt5L c0 c2 r3 gf n1 kf gb n2 kb mb gq f3 n4 lo st w0 W w5 P gs room first (L ++ its.take (k + 1)) C) := (hW5 ▸ HT4.out)
        clear hW5 HT4 HP4
        have z2 := HT5.out.p.cell 9 _ rfl
        have z2f := HT5.out.p.free 9
        go_wp2
        go_roundw
        case rel =>
          refine ⟨k + 1, by omega, by go_num, ?_⟩
          rw [← HC1.out]
          exact HT5.out.count HG.out.1 (C + 1)
        case measure => simp [intOf]; omega
      · have hkt : k = t := by omega
        subst hkt
        go_wp2
        go_ret
        exact ⟨rfl, HPT.out⟩
end Go.Proofs.YtaamahohdnbpiaaGreat
namespace Go.Proofs.YtaamahohdnbpiaaGreat
open Go.RowKit
set_option linter.unusedVariables false
theorem okBxs.wf {st : Int} {bx : List R8} (h : okBxs st bx) : ∀ j (hj : j < bx.length), (Lit.int .i64 bx[j].y).wf = true := fun j hj => by
  have := h.1 j hj
  unfold okBx at this
  split at this
  · rw [this.1]
    exact wf_small (by omega) (by omega)
  · exact wf_small (by omega) (by omega)
end Go.Proofs.YtaamahohdnbpiaaGreat
namespace Go.Proofs.YtaamahohdnbpiaaGreat
open Go.RowKit
set_option linter.unusedVariables false
structure sbT (w : World) (L F : List Value) (W : World) : Prop where
  s : sbS w L F W
  b : Below w.heap.size w W
theorem sbT.below {w : World} {L F : List Value} {W W' : World} (h : sbT w L F W) (hb : Below W.heap.size W W') : sbT w L F W' := ⟨h.s.below hb, h.b.trans (hb.mono h.b.size)⟩
theorem sbT.new (w : World) (L F : List Value) : sbT w L F (((w.alloc (.cells L.toArray 35)).alloc (.cells F.toArray 25)).alloc (.cells Z10.toArray 35)) := ⟨sbS.new w L F, (((Below.refl _ _).alloc (Nat.le_refl _) _).alloc (by simp) _).alloc (by simp; omega) _⟩
end Go.Proofs.YtaamahohdnbpiaaGreat
namespace Go.Proofs.YtaamahohdnbpiaaGreat
open Go.RowKit
set_option linter.unusedVariables false
theorem fstB.free {bx : List R8} {r : Int} (h : fstB (fun b => b.x = 0) bx r) : (r = -1 ∧ ¬ freeIx bx < bx.length) ∨ (r = (freeIx bx : Int) ∧ freeIx bx < bx.length) := by
  rcases h with ⟨k, hk, h1, h2, rfl⟩ | ⟨h1, rfl⟩
  · right
    have e : freeIx bx = k := by
      unfold freeIx
      rw [List.findIdx_eq hk]
      exact ⟨by simp only [beq_iff_eq]; exact h1, fun j hj => by simpa using h2 j (by omega) hj⟩
    rw [e]
    exact ⟨rfl, hk⟩
  · left
    refine ⟨rfl, ?_⟩
    have : freeIx bx = bx.length := List.findIdx_eq_length.2 fun b hb => by
      obtain ⟨j, hj, rfl⟩ := List.getElem_of_mem hb
      simpa using h1 j hj
    omega
end Go.Proofs.YtaamahohdnbpiaaGreat
namespace Go.Proofs.YtaamahohdnbpiaaGreat
open Go.RowKit
set_option linter.unusedVariables false
theorem wpStill_skip {ops : Array Oper} {rest : List Oper} {op : Oper} {a : Act} {w : World} {Q : Act → Prop} (hw : Region.wanted op (yielded ops a.tmps) = false) (h : wpStill Tryz.prog ops w Q rest (a.put op.dst undef)) : wpStill Tryz.prog ops w Q (op :: rest) a :=
  wpStill_step fun K hK => by
    rw [hw]
    exact hK _ h
theorem wpStill_ok {ops : Array Oper} {rest : List Oper} {op : Oper} {a : Act} {w : World} {Q : Act → Prop} (v : Value) (hw : Region.wanted op (yielded ops a.tmps) = true) (hx : (execOp a.eval op).run Tryz.prog w = .ok (.value v) w) (h : wpStill Tryz.prog ops w Q rest (a.put op.dst v)) : wpStill Tryz.prog ops w Q (op :: rest) a :=
  wpStill_step fun K hK => by
    simp only [hw, if_true]
    unfold Oper.still
    rw [hx]
    exact ⟨rfl, hK _ h⟩
def offB (j t : Nat) (o : Oper) : Bool := (match o.guard with | some (i, true) => i == j | _ => false) && (match o.dst with | some d => d != t | none => true)
theorem wpStill_skips {ops : Array Oper} {w : World} {Q : Act → Prop} {j t : Nat} (hj : ((ops[j]?).bind (·.dst)) = some t) {rest : List Oper} : ∀ (l : List Oper) (a : Act), l.all (offB j t) = true → a.tmps[t]? = some (.bool false) → wpStill Tryz.prog ops w Q rest (l.foldl (fun a o => a.put o.dst undef) a) → wpStill Tryz.prog ops w Q (l ++ rest) a
  | [], a, _, _, h => h
  | o :: l, a, hall, ht, h => by
    simp only [List.all_cons, Bool.and_eq_true] at hall
    obtain ⟨ho, hall⟩ := hall
    unfold offB at ho
    simp only [Bool.and_eq_true] at ho
    refine wpStill_skip ?_ (wpStill_skips hj l _ hall ?_ h)
    · unfold Region.wanted
      revert ho
      rcases o.guard with _ | ⟨i, b⟩
      · simp
      · cases b
        · simp
        · intro ho
          have e : i = j := by simpa using ho.1
          subst e
          simp only [yielded, hj, Option.bind_some, ht]
          rfl
    · revert ho
      rcases hd : o.dst with _ | d
      · intro _
        simpa [Act.put] using ht
      · intro ho
        have hne : d ≠ t := by simpa using ho.2
        simp only [Act.put]
        rw [Array.getElem?_setIfInBounds_ne hne]
        exact ht
theorem wpStill_off {ops : Array Oper} {w : World} {Q : Act → Prop} {a : Act} {op : Oper} {L : List Oper} (n : Nat) {j t : Nat} (hj : ((ops[j]?).bind (·.dst)) = some t) (hw : op.guard = none) (hd : op.dst = some t) (hx : (execOp a.eval op).run Tryz.prog w = .ok (.value (.bool false)) w) (ht : t < a.tmps.size) (hall : (L.take n).all (offB j t) = true) (h : wpStill Tryz.prog ops w Q (L.drop n) ((L.take n).foldl (fun a o => a.put o.dst undef) (a.put (some t) (.bool false)))) : wpStill Tryz.prog ops w Q (op :: L) a := by
  refine wpStill_ok (.bool false) (by unfold Region.wanted; rw [hw]) hx ?_
  rw [hd, ← List.take_append_drop n L]
  refine wpStill_skips hj _ _ hall ?_ ?_
  · simp only [Act.put]
    rw [Array.getElem?_setIfInBounds_self_of_lt ht]
  · exact h
def pass1 (F : R5) (x : R3) : Bool := x.e == F.e && (bits .and .u32 (F.i : Int) x.m == bits .and .u32 x.k x.m)
def passB (fs : List R3) (F : R5) : Bool := fs.any (pass1 F) || fs.length == 0
theorem b0 (n : Nat) : ((n : Int) == 0) = (n == 0) := by
  rw [Bool.eq_iff_iff]
  simp
theorem passB_yes {fs : List R3} {F : R5} {k : Nat} (hk : k < fs.length) (h : pass1 F fs[k] = true) : passB fs F = true := by
  unfold passB
  have : fs.any (pass1 F) = true := List.any_eq_true.2 ⟨_, List.getElem_mem hk, h⟩
  rw [this]
  rfl
theorem passB_no {fs : List R3} {F : R5} (h : ∀ j (hj : j < fs.length), pass1 F fs[j] = false) : passB fs F = (fs.length == 0) := by
  unfold passB
  have : fs.any (pass1 F) = false := by
    rw [List.any_eq_false]
    intro x hx
    obtain ⟨j, hj, rfl⟩ := List.getElem_of_mem hx
    rw [h j hj]
    simp
  rw [this]
  rfl
set_option maxHeartbeats 4000000 in
set_option maxRecDepth 20000 in
theorem l3passes_any (w : World) (a : Option Addr) (n cap : Nat) (fs : List R3) (F : R5) (fa : Option Addr) (fm fc : Nat) (h : isR3s w a n cap fs) (hn : n ≤ 1000) :
    Calls Tryz.prog 152 #[.slice a n cap, frV F.e F.i F.r F.d fa fm fc] w fun o w' => o = .returned (.bool (passB fs F)) ∧ Below w.heap.size w w' := by
  obtain ⟨fE, fI, fR, fD, fL⟩ := F
  have hcp := h.cap
  have HL : Hid (n = fs.length) := h.len
  have HH : Hid (isR3s w a n cap fs) := h
  have HP : Hid (blk (w.alloc (.cells [.bool fE, .int .u32 (fI : Int), .bool fR, .int .i64 fD, .slice fa fm fc].toArray 25)) w.heap.size [.bool fE, .int .u32 (fI : Int), .bool fR, .int .i64 fD, .slice fa fm fc] 25) := blk.new w _ 25
  have HB0 : Hid (Below w.heap.size w (w.alloc (.cells [.bool fE, .int .u32 (fI : Int), .bool fR, .int .i64 fD, .slice fa fm fc].toArray 25))) := (Below.refl _ _).alloc (Nat.le_refl _) _
  clear h
  go_enter Tryz.func152, Tryz.ntmps152
  go_wp2_with fail
  go_loopw [5] (fun i wr => ∃ k : Nat, k ≤ n ∧ i = .int .i64 (k : Int) ∧ (∀ j (hj : j < fs.length), j < k → pass1 ⟨fE, fI, fR, fD, fL⟩ fs[j] = false) ∧ Below w.heap.size w wr ∧ blk wr w.heap.size [.bool fE, .int .u32 (fI : Int), .bool fR, .int .i64 fD, .slice fa fm fc] 25) (fun i _ => n - (intOf i).toNat)
  case atStart => exact ⟨0, Nat.zero_le _, rfl, fun j hj h => absurd h (Nat.not_lt_zero _), HB0.out, HP.out⟩
  case round =>
    obtain ⟨k, hk, rfl, hdone, hb, hp⟩ := hrel
    have HB : Hid (Below w.heap.size w wr ∧ blk wr w.heap.size [.bool fE, .int .u32 (fI : Int), .bool fR, .int .i64 fD, .slice fa fm fc] 25) := ⟨hb, hp⟩
    have HDN : Hid (∀ j (hj : j < fs.length), j < k → pass1 ⟨fE, fI, fR, fD, fL⟩ fs[j] = false) := hdone
    clear hb hp hdone
    by_cases hlt : k < n
    · have hkl : k < fs.length := by have := HL.out; omega
      obtain ⟨g, off, rfl, hc⟩ := HH.out.cells (by intro e; rw [e] at hkl; cases hkl)
      have h0 := (hc k hkl).below HB.out.1
      have HNX : Hid (pass1 ⟨fE, fI, fR, fD, fL⟩ fs[k] = false → ∀ j (hj : j < fs.length), j < k + 1 → pass1 ⟨fE, fI, fR, fD, fL⟩ fs[j] = false) := fun hx j hj hjk => by
        by_cases e : j = k
        · subst e; exact hx
        · exact HDN.out j hj (by omega)
      have HYS : Hid (pass1 ⟨fE, fI, fR, fD, fL⟩ fs[k] = true → passB fs ⟨fE, fI, fR, fD, fL⟩ = true) := passB_yes hkl
      clear hc HDN
      have y0 := h0.c0
      have y1 := h0.c1
      have y2 := h0.c2
      have z0 := HB.out.2.cell 0 _ rfl
      have z1 := HB.out.2.cell 1 _ rfl
      clear h0
      generalize fs[k] = b at *
      obtain ⟨e, mm, kk⟩ := b
      simp only [] at y0 y1 y2
      by_cases he : e = fE
      · subst he
        by_cases hx : (bits .and .u32 (fI : Int) mm == bits .and .u32 kk mm) = true
        · have HT : Hid (passB fs ⟨e, fI, fR, fD, fL⟩ = true) := HYS.out (by unfold pass1; simp only [hx, Bool.and_true, beq_self_eq_true])
          go_wp2_with fail
          refine wp_region_still_lit (by kernel_rfl) (by kernel_rfl) ?_
          change wpStill Tryz.prog _ (World.drew wr) (fun a' => Exit.then _ _ Exit.normal a' (World.drew wr)) _ _
          have y0 : (World.drew wr).cell? ⟨g, off + k * 3, none⟩ = some (.bool e) := y0
          have y1 : (World.drew wr).cell? ⟨g, off + k * 3 + 1, none⟩ = some (.int .u32 mm) := y1
          have y2 : (World.drew wr).cell? ⟨g, off + k * 3 + 2, none⟩ = some (.int .u32 kk) := y2
          have z0 : (World.drew wr).cell? ⟨w.heap.size, 0, none⟩ = some (.bool e) := z0
          have z1 : (World.drew wr).cell? ⟨w.heap.size, 1, none⟩ = some (.int .u32 (fI : Int)) := z1
          have HB : Hid (Below w.heap.size w (World.drew wr) ∧ blk (World.drew wr) w.heap.size [.bool e, .int .u32 (fI : Int), .bool fR, .int .i64 fD, .slice fa fm fc] 25) := ⟨HB.out.1.drew, HB.out.2.below (Below.refl _ _).drew⟩
          generalize World.drew wr = v0 at *
          repeat (still_step)
          refine wpStill_nil ?_
          go_wp2_with fail
          go_ret
          exact ⟨by rw [HT.out]; rfl, HB.out.1⟩
        · have hx' : (bits .and .u32 (fI : Int) mm == bits .and .u32 kk mm) = false := by simpa using hx
          have HN : Hid (∀ j (hj : j < fs.length), j < k + 1 → pass1 ⟨e, fI, fR, fD, fL⟩ fs[j] = false) := HNX.out (by unfold pass1; simp only [hx', Bool.and_false])
          go_wp2_with fail
          refine wp_region_still_lit (by kernel_rfl) (by kernel_rfl) ?_
          change wpStill Tryz.prog _ (World.drew wr) (fun a' => Exit.then _ _ Exit.normal a' (World.drew wr)) _ _
          have y0 : (World.drew wr).cell? ⟨g, off + k * 3, none⟩ = some (.bool e) := y0
          have y1 : (World.drew wr).cell? ⟨g, off + k * 3 + 1, none⟩ = some (.int .u32 mm) := y1
          have y2 : (World.drew wr).cell? ⟨g, off + k * 3 + 2, none⟩ = some (.int .u32 kk) := y2
          have z0 : (World.drew wr).cell? ⟨w.heap.size, 0, none⟩ = some (.bool e) := z0
          have z1 : (World.drew wr).cell? ⟨w.heap.size, 1, none⟩ = some (.int .u32 (fI : Int)) := z1
          have HB : Hid (Below w.heap.size w (World.drew wr) ∧ blk (World.drew wr) w.heap.size [.bool e, .int .u32 (fI : Int), .bool fR, .int .i64 fD, .slice fa fm fc] 25) := ⟨HB.out.1.drew, HB.out.2.below (Below.refl _ _).drew⟩
          generalize World.drew wr = v0 at *
          repeat (still_step)
          refine wpStill_nil ?_
          go_wp2_with fail
          go_roundw
          case rel => exact ⟨k + 1, by omega, by go_num, HN.out, HB.out.1, HB.out.2⟩
          case measure => simp [intOf]; omega
      · have HN : Hid (∀ j (hj : j < fs.length), j < k + 1 → pass1 ⟨fE, fI, fR, fD, fL⟩ fs[j] = false) := HNX.out (by unfold pass1; simp [he])
        cases e
        · cases fE
          · exact absurd rfl he
          · clear he
            go_wp2_with fail
            refine wp_region_still_lit (by kernel_rfl) (by kernel_rfl) ?_
            change wpStill Tryz.prog _ (World.drew wr) (fun a' => Exit.then _ _ Exit.normal a' (World.drew wr)) _ _
            have y0 : (World.drew wr).cell? ⟨g, off + k * 3, none⟩ = some (.bool false) := y0
            have y1 : (World.drew wr).cell? ⟨g, off + k * 3 + 1, none⟩ = some (.int .u32 mm) := y1
            have y2 : (World.drew wr).cell? ⟨g, off + k * 3 + 2, none⟩ = some (.int .u32 kk) := y2
            have z0 : (World.drew wr).cell? ⟨w.heap.size, 0, none⟩ = some (.bool true) := z0
            have z1 : (World.drew wr).cell? ⟨w.heap.size, 1, none⟩ = some (.int .u32 (fI : Int)) := z1
            have HB : Hid (Below w.heap.size w (World.drew wr) ∧ blk (World.drew wr) w.heap.size [.bool true, .int .u32 (fI : Int), .bool fR, .int .i64 fD, .slice fa fm fc] 25) := ⟨HB.out.1.drew, HB.out.2.below (Below.refl _ _).drew⟩
            generalize World.drew wr = v0 at *
            iterate 8 still_step
            refine wpStill_off 20 (j := 8) (t := 20) rfl rfl rfl rfl (by simp) rfl ?_
            simp only [List.take_succ_cons, List.take_zero, List.drop_succ_cons, List.drop_zero, List.foldl_cons, List.foldl_nil, Act.put, liA, liB, liC]
            still_step
            refine wpStill_nil ?_
            go_wp2_with fail
            go_roundw
            case rel => exact ⟨k + 1, by omega, by go_num, HN.out, HB.out.1, HB.out.2⟩
            case measure => simp [intOf]; omega
        · cases fE
          · clear he
            go_wp2_with fail
            refine wp_region_still_lit (by kernel_rfl) (by kernel_rfl) ?_
            change wpStill Tryz.prog _ (World.drew wr) (fun a' => Exit.then _ _ Exit.normal a' (World.drew wr)) _ _
            have y0 : (World.drew wr).cell? ⟨g, off + k * 3, none⟩ = some (.bool true) := y0
            have y1 : (World.drew wr).cell? ⟨g, off + k * 3 + 1, none⟩ = some (.int .u32 mm) := y1
            have y2 : (World.drew wr).cell? ⟨g, off + k * 3 + 2, none⟩ = some (.int .u32 kk) := y2
            have z0 : (World.drew wr).cell? ⟨w.heap.size, 0, none⟩ = some (.bool false) := z0
            have z1 : (World.drew wr).cell? ⟨w.heap.size, 1, none⟩ = some (.int .u32 (fI : Int)) := z1
            have HB : Hid (Below w.heap.size w (World.drew wr) ∧ blk (World.drew wr) w.heap.size [.bool false, .int .u32 (fI : Int), .bool fR, .int .i64 fD, .slice fa fm fc] 25) := ⟨HB.out.1.drew, HB.out.2.below (Below.refl _ _).drew⟩
            generalize World.drew wr = v0 at *
            iterate 8 still_step
            refine wpStill_off 20 (j := 8) (t := 20) rfl rfl rfl rfl (by simp) rfl ?_
            simp only [List.take_succ_cons, List.take_zero, List.drop_succ_cons, List.drop_zero, List.foldl_cons, List.foldl_nil, Act.put, liA, liB, liC]
            still_step
            refine wpStill_nil ?_
            go_wp2_with fail
            go_roundw
            case rel => exact ⟨k + 1, by omega, by go_num, HN.out, HB.out.1, HB.out.2⟩
            case measure => simp [intOf]; omega
          · exact absurd rfl he
    · have hkn : k = n := by omega
      subst hkn
      have HT : Hid (passB fs ⟨fE, fI, fR, fD, fL⟩ = (fs.length == 0)) := passB_no (fun j hj => HDN.out j hj (by have := HL.out; omega))
      have hl : k = fs.length := HL.out
      subst hl
      go_wp2_with fail
      go_ret
      refine ⟨?_, HB.out.1⟩
      rw [HT.out, ← b0 fs.length]
      rfl
end Go.Proofs.YtaamahohdnbpiaaGreat
namespace Go.Proofs.YtaamahohdnbpiaaGreat
open Go.RowKit
set_option linter.unusedVariables false
set_option maxHeartbeats 4000000 in
set_option maxRecDepth 20000 in
theorem passes_any (w : World) (P : Nat) (g n cap : Nat) (fs : List R3) (F : R5) (fa : Option Addr) (fm fc : Nat) (y4 : w.cell? ⟨P, 4, none⟩ = some (.slice (some ⟨g, 0, none⟩) n cap)) (h : isR3s w (some ⟨g, 0, none⟩) n cap fs) (hn : n ≤ 1000) :
    Calls Tryz.prog 154 #[.pointer (some ⟨P, 0, none⟩), frV F.e F.i F.r F.d fa fm fc] w fun o w' => o = .returned (.bool (passB fs F)) ∧ Below w.heap.size w w' := by
  obtain ⟨fE, fI, fR, fD, fL⟩ := F
  have hcp := h.cap
  have HL : Hid (n = fs.length) := h.len
  have HH : Hid (isR3s w (some ⟨g, 0, none⟩) n cap fs) := h
  have HP : Hid (blk (w.alloc (.cells [.bool fE, .int .u32 (fI : Int), .bool fR, .int .i64 fD, .slice fa fm fc].toArray 25)) w.heap.size [.bool fE, .int .u32 (fI : Int), .bool fR, .int .i64 fD, .slice fa fm fc] 25) := blk.new w _ 25
  have HB0 : Hid (Below w.heap.size w (w.alloc (.cells [.bool fE, .int .u32 (fI : Int), .bool fR, .int .i64 fD, .slice fa fm fc].toArray 25))) := (Below.refl _ _).alloc (Nat.le_refl _) _
  have HY4 : Hid (∀ X, Below w.heap.size w X → X.cell? ⟨P, 4, none⟩ = some (.slice (some ⟨g, 0, none⟩) n cap)) := fun X hX => (hX.cell (by exact World.block_lt_of_cell? w _ y4)).trans y4
  have y4A := HY4.out _ HB0.out
  clear h y4
  go_enter Tryz.func154, Tryz.ntmps154
  go_wp2_with fail
  clear y4A
  go_loopw [12] (fun i wr => ∃ k : Nat, k ≤ n ∧ i = .int .i64 (k : Int) ∧ (∀ j (hj : j < fs.length), j < k → pass1 ⟨fE, fI, fR, fD, fL⟩ fs[j] = false) ∧ Below w.heap.size w wr ∧ blk wr w.heap.size [.bool fE, .int .u32 (fI : Int), .bool fR, .int .i64 fD, .slice fa fm fc] 25) (fun i _ => n - (intOf i).toNat)
  case atStart => exact ⟨0, Nat.zero_le _, rfl, fun j hj h => absurd h (Nat.not_lt_zero _), HB0.out, HP.out⟩
  case round =>
    obtain ⟨k, hk, rfl, hdone, hb, hp⟩ := hrel
    have HB : Hid (Below w.heap.size w wr ∧ blk wr w.heap.size [.bool fE, .int .u32 (fI : Int), .bool fR, .int .i64 fD, .slice fa fm fc] 25) := ⟨hb, hp⟩
    have HDN : Hid (∀ j (hj : j < fs.length), j < k → pass1 ⟨fE, fI, fR, fD, fL⟩ fs[j] = false) := hdone
    clear hb hp hdone
    by_cases hlt : k < n
    · have hkl : k < fs.length := by have := HL.out; omega
      obtain ⟨g', off, eg, hc⟩ := HH.out.cells (by intro e; rw [e] at hkl; cases hkl)
      cases eg
      have h0 := (hc k hkl).below HB.out.1
      rw [Nat.zero_add] at h0
      have HNX : Hid (pass1 ⟨fE, fI, fR, fD, fL⟩ fs[k] = false → ∀ j (hj : j < fs.length), j < k + 1 → pass1 ⟨fE, fI, fR, fD, fL⟩ fs[j] = false) := fun hx j hj hjk => by
        by_cases e : j = k
        · subst e; exact hx
        · exact HDN.out j hj (by omega)
      have HYS : Hid (pass1 ⟨fE, fI, fR, fD, fL⟩ fs[k] = true → passB fs ⟨fE, fI, fR, fD, fL⟩ = true) := passB_yes hkl
      clear hc HDN
      have x0 := h0.c0
      have x1 := h0.c1
      have x2 := h0.c2
      clear h0
      generalize fs[k] = b at *
      obtain ⟨e, mm, kk⟩ := b
      simp only [] at x0 x1 x2
      by_cases he : e = fE
      · subst he
        by_cases hx : (bits .and .u32 (fI : Int) mm == bits .and .u32 kk mm) = true
        · have HT : Hid (passB fs ⟨e, fI, fR, fD, fL⟩ = true) := HYS.out (by unfold pass1; simp only [hx, Bool.and_true, beq_self_eq_true])
          have hbd : Below wr.heap.size wr (wr.alloc (.cells [.bool e, .int .u32 mm, .int .u32 kk].toArray 85)) := (Below.refl _ _).alloc (Nat.le_refl _) _
          have HB : Hid (Below w.heap.size w (wr.alloc (.cells [.bool e, .int .u32 mm, .int .u32 kk].toArray 85)) ∧ blk (wr.alloc (.cells [.bool e, .int .u32 mm, .int .u32 kk].toArray 85)) w.heap.size [.bool e, .int .u32 (fI : Int), .bool fR, .int .i64 fD, .slice fa fm fc] 25) := ⟨HB.out.1.trans (hbd.mono HB.out.1.size), HB.out.2.below hbd⟩
          clear hbd
          have z0 := HB.out.2.cell 0 _ rfl
          have z1 := HB.out.2.cell 1 _ rfl
          go_wp2_with fail
          go_ret
          exact ⟨by rw [HT.out]; rfl, HB.out.1⟩
        · have hx' : (bits .and .u32 (fI : Int) mm == bits .and .u32 kk mm) = false := by simpa using hx
          have HN : Hid (∀ j (hj : j < fs.length), j < k + 1 → pass1 ⟨e, fI, fR, fD, fL⟩ fs[j] = false) := HNX.out (by unfold pass1; simp only [hx', Bool.and_false])
          have hbd : Below wr.heap.size wr (wr.alloc (.cells [.bool e, .int .u32 mm, .int .u32 kk].toArray 85)) := (Below.refl _ _).alloc (Nat.le_refl _) _
          have HB : Hid (Below w.heap.size w (wr.alloc (.cells [.bool e, .int .u32 mm, .int .u32 kk].toArray 85)) ∧ blk (wr.alloc (.cells [.bool e, .int .u32 mm, .int .u32 kk].toArray 85)) w.heap.size [.bool e, .int .u32 (fI : Int), .bool fR, .int .i64 fD, .slice fa fm fc] 25) := ⟨HB.out.1.trans (hbd.mono HB.out.1.size), HB.out.2.below hbd⟩
          clear hbd
          have z0 := HB.out.2.cell 0 _ rfl
          have z1 := HB.out.2.cell 1 _ rfl
          go_wp2_with fail
          go_roundw
          case rel => exact ⟨k + 1, by omega, by go_num, HN.out, HB.out.1, HB.out.2⟩
          case measure => simp [intOf]; omega
      · have HN : Hid (∀ j (hj : j < fs.length), j < k + 1 → pass1 ⟨fE, fI, fR, fD, fL⟩ fs[j] = false) := HNX.out (by unfold pass1; simp [he])
        cases e
        · cases fE
          · exact absurd rfl he
          · clear he
            have hbd : Below wr.heap.size wr (wr.alloc (.cells [.bool false, .int .u32 mm, .int .u32 kk].toArray 85)) := (Below.refl _ _).alloc (Nat.le_refl _) _
            have HB : Hid (Below w.heap.size w (wr.alloc (.cells [.bool false, .int .u32 mm, .int .u32 kk].toArray 85)) ∧ blk (wr.alloc (.cells [.bool false, .int .u32 mm, .int .u32 kk].toArray 85)) w.heap.size [.bool true, .int .u32 (fI : Int), .bool fR, .int .i64 fD, .slice fa fm fc] 25) := ⟨HB.out.1.trans (hbd.mono HB.out.1.size), HB.out.2.below hbd⟩
            clear hbd
            have z0 := HB.out.2.cell 0 _ rfl
            have z1 := HB.out.2.cell 1 _ rfl
            go_wp2_with fail
            go_roundw
            case rel => exact ⟨k + 1, by omega, by go_num, HN.out, HB.out.1, HB.out.2⟩
            case measure => simp [intOf]; omega
        · cases fE
          · clear he
            have hbd : Below wr.heap.size wr (wr.alloc (.cells [.bool true, .int .u32 mm, .int .u32 kk].toArray 85)) := (Below.refl _ _).alloc (Nat.le_refl _) _
            have HB : Hid (Below w.heap.size w (wr.alloc (.cells [.bool true, .int .u32 mm, .int .u32 kk].toArray 85)) ∧ blk (wr.alloc (.cells [.bool true, .int .u32 mm, .int .u32 kk].toArray 85)) w.heap.size [.bool false, .int .u32 (fI : Int), .bool fR, .int .i64 fD, .slice fa fm fc] 25) := ⟨HB.out.1.trans (hbd.mono HB.out.1.size), HB.out.2.below hbd⟩
            clear hbd
            have z0 := HB.out.2.cell 0 _ rfl
            have z1 := HB.out.2.cell 1 _ rfl
            go_wp2_with fail
            go_roundw
            case rel => exact ⟨k + 1, by omega, by go_num, HN.out, HB.out.1, HB.out.2⟩
            case measure => simp [intOf]; omega
          · exact absurd rfl he
    · have hkn : k = n := by omega
      subst hkn
      have HT : Hid (passB fs ⟨fE, fI, fR, fD, fL⟩ = (fs.length == 0)) := passB_no (fun j hj => HDN.out j hj (by have := HL.out; omega))
      have hl : k = fs.length := HL.out
      subst hl
      have y4B := HY4.out _ HB.out.1
      go_wp2_with fail
      go_ret
      refine ⟨?_, HB.out.1⟩
      rw [HT.out, ← b0 fs.length]
      rfl
end Go.Proofs.YtaamahohdnbpiaaGreat
