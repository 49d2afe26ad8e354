import Derived.Test.YtihndnclplkleaaKG
namespace Go.Proofs.Ytihndnclplkleaa
open Go.RowKit
abbrev hoZ : Ho := ⟨0, 0, 0, 0, [], [], [], [], 0, 0⟩
abbrev slZ : Sl := ⟨none, 0, 0, none, 0, 0, none, 0, 0, none, 0, 0⟩
theorem hoZ_is (W : World) : isHo W hoZ slZ := ⟨⟨rfl, Nat.le_refl _, fun e => absurd rfl e⟩, ⟨rfl, Nat.le_refl _, fun e => absurd rfl e⟩, ⟨rfl, Nat.le_refl _, fun e => absurd rfl e⟩, ⟨rfl, Nat.le_refl _, fun e => absurd rfl e⟩⟩
/-- marking a host of one's own and finding the marks again -/
def MK (B B' : Nat) (H : Ho) (s : Sl) (W : World) : Prop :=
  Calls Try.prog 19 #[hoV H s, .int .i64 1] W fun o w' => ∃ q : Nat, o = .returned (.int .i64 (q : Int)) ∧ Below B W w' ∧ (∀ b, B' ≤ b → b < W.heap.size → w'.heap[b]? = W.heap[b]?) ∧
    Calls Try.prog 20 #[hoV H s, .int .i64 1] w' fun o w'' => o = .returned (.int .i64 (q : Int)) ∧ Below w'.heap.size w' w''
theorem MK_nil (B B' : Nat) (W : World) (hB : B ≤ W.heap.size) : MK B B' hoZ slZ W := by
  refine (markHost_nil W 0 0 0 0 0 0 1 (by decide)).mono ?_
  rintro o w' ⟨rfl, hb⟩
  exact ⟨1, rfl, hb.mono hB, fun b _ hb2 => hb.block b hb2, heldHost_nil w' 0 0 0 0 0 0 1 (by decide)⟩
/-- what both sides of NewHost answer at one argument -/
structure NH (a b c d : Int) (n : Nat) (bs : List R3) (H : Ho) (z : Int) : Prop where
  le : H.le 1048576
  sp : ∀ (X : World) (g : Nat), isR3s X (some ⟨g, 0, none⟩) n n bs → Calls Try.prog 12 #[cfV a b c d, .slice (some ⟨g, 0, none⟩) n n] X fun o w' => ∃ s', o = .returned (.tuple #[hoV H s', .int .i64 z]) ∧ isHo w' H s' ∧ Below X.heap.size X w'
  im : ∀ (X : World) (g : Nat), isR3s X (some ⟨g, 0, none⟩) n n bs → Calls Try.prog 15 #[cfV a b c d, .slice (some ⟨g, 0, none⟩) n n] X fun o w' => ∃ s', o = .returned (.tuple #[hoV H s', .int .i64 z]) ∧ (St X.heap.size w' (fun W => isHo W H s') ∧ St X.heap.size w' (fun W => w'.heap.size ≤ W.heap.size → MK X.heap.size w'.heap.size H s' W)) ∧ Below X.heap.size X w'
theorem bx0_row {W : World} {g m : Nat} (h : ∀ j, j < m → at8 W g (j * 8) bx0 none 0 0) : isR8s W (some ⟨g, 0, none⟩) m m (List.replicate m bx0) :=
  ⟨by simp, Nat.le_refl _, fun _ => ⟨g, 0, rfl, fun j hj => ⟨none, 0, 0, by rw [Nat.zero_add, List.getElem_replicate]; exact h j (by simpa using hj)⟩⟩⟩
theorem NH_is (a b c d : Int) (n : Nat) (bs : List R3) (hn : n ≤ 1048576) (hl : n = bs.length) : ∃ H z, NH a b c d n bs H z := by
  by_cases h1 : okCf a b c d = true
  · by_cases h2 : okFs bs = true
    · have h1' := h1
      unfold okCf at h1'
      have h3 := of_decide_eq_true h1'
      obtain ⟨m, rfl⟩ : ∃ m : Nat, a = (m : Int) := ⟨a.toNat, by omega⟩
      have hm : m ≤ 8 := by omega
      have hl16 : bs.length ≤ 16 := by
        unfold okFs at h2
        simp at h2
        exact h2.1
      refine ⟨⟨m, b, c, d, bs, List.replicate m bx0, [], [], 0, 0⟩, 0, ⟨(by show bs.length ≤ _; omega), (by simp; omega), (by simp), (by simp), (by intro j hj; simp [bx0]), (by intro j hj; cases hj), (by intro j hj; cases hj)⟩, ?_, ?_⟩
      · intro X g hf
        refine (specNewHost_ok X m b c d g n n bs h1 hf hn hm h2).mono ?_
        rintro o w' ⟨s', rfl, h4, h5⟩
        exact ⟨s', rfl, h4.now, h5⟩
      · intro X g hf
        refine (newHost_ok X m b c d g n n bs h1 hf hn hm h2).mono ?_
        rintro o w' ⟨g1, k1, g2, rfl, ho, hb⟩
        have hl1 := ho.l1
        have hl2 := ho.l2
        have hu1 := ho.u1
        have hu2 := ho.u2
        refine ⟨_, rfl, ⟨fun W hW => ⟨(ho.s1.mono (Nat.le_add_right _ 2)) W hW, bx0_row (fun j hj => (ho.a2 j hj).upN (hW g2 hl2 hu2)), ⟨rfl, Nat.le_refl _, fun e => absurd rfl e⟩, ⟨rfl, Nat.le_refl _, fun e => absurd rfl e⟩⟩, fun W hW hz => ?_⟩, hb⟩
        refine (markHost_any W m b c d 0 0 g1 n k1 g2 m m 1 (ho.z1.up (hW g1 hl1 hu1)) (ho.z2.up (hW g2 hl2 hu2)) (fun j hj => ((ho.a2 j hj).upN (hW g2 hl2 hu2)).cs) ho.ne (by omega) (by omega) ho.c1 (Nat.le_refl _) (by omega) (by omega) (by decide)).mono ?_
        rintro o w7 ⟨rfl, p1, p2, p3, p4⟩
        have hsz := p4.size
        exact ⟨_, rfl, p4.mono (by omega), fun b hb1 hb2 => p3 b (by omega) (by omega) hb2, heldHost_any w7 m b c d 0 0 g1 n k1 g2 m m 1 p1 p2 (by omega) (by omega) ho.c1 (Nat.le_refl _) (by omega) (by omega) (by decide)⟩
    · have h2 : okFs bs = false := by simpa using h2
      refine ⟨hoZ, 2, ⟨by simp, by simp, by simp, by simp, (by intro j hj; cases hj), (by intro j hj; cases hj), (by intro j hj; cases hj)⟩, ?_, ?_⟩
      · intro X g hf
        refine (specNewHost_bad2 X a b c d g n n bs h1 hf hn h2).mono ?_
        rintro o w' ⟨rfl, h5⟩
        exact ⟨slZ, rfl, hoZ_is _, h5⟩
      · intro X g hf
        refine (newHost_bad2 X a b c d g n n bs h1 hf hn h2).mono ?_
        rintro o w' ⟨rfl, h5⟩
        exact ⟨slZ, rfl, ⟨fun W _ => hoZ_is W, fun W _ hz => MK_nil _ _ W (Nat.le_trans h5.size hz)⟩, h5⟩
  · have h1 : okCf a b c d = false := by simpa using h1
    refine ⟨hoZ, 1, ⟨by simp, by simp, by simp, by simp, (by intro j hj; cases hj), (by intro j hj; cases hj), (by intro j hj; cases hj)⟩, ?_, ?_⟩
    · intro X g hf
      refine (specNewHost_bad1 X a b c d _ h1).mono ?_
      rintro o w' ⟨rfl, h5⟩
      exact ⟨slZ, rfl, hoZ_is _, h5⟩
    · intro X g hf
      refine (newHost_bad1 X a b c d _ h1).mono ?_
      rintro o w' ⟨rfl, h5⟩
      exact ⟨slZ, rfl, ⟨fun W _ => hoZ_is W, fun W _ hz => MK_nil _ _ W (Nat.le_trans h5.size hz)⟩, h5⟩
end Go.Proofs.Ytihndnclplkleaa
