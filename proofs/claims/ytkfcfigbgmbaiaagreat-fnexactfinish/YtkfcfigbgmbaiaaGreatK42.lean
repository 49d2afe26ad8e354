import Derived.Test.YtkfcfigbgmbaiaaGreatK39
import Derived.Test.YtkfcfigbgmbaiaaGreatK36
import Derived.Test.YtkfcfigbgmbaiaaGreatK37
namespace Go.Proofs.YtkfcfigbgmbaiaaGreat
open Go.RowKit
set_option linter.unusedVariables false
set_option maxHeartbeats 16000000
def frD (G:Lg) (W X:World):Prop:=(∀ q,q≠G.P→q≠G.gq→q≠G.gr→q<W.heap.size→X.heap[q]?=W.heap[q]?)∧W.heap.size≤X.heap.size
theorem frD.of {G:Lg} {W X:World} (h:Below W.heap.size W X):frD G W X:=⟨fun q _ _ _ hq=>h.block q hq,h.size⟩
theorem frD.step {G:Lg} {W X Y:World} (h:frD G W X) (ho:∀ q,q≠G.P→q≠G.gq→q≠G.gr→q<X.heap.size→Y.heap[q]?=X.heap[q]?) (hz:X.heap.size≤Y.heap.size):frD G W Y:=
 ⟨fun q a b c d=>(ho q a b c (Nat.lt_of_lt_of_le d h.2)).trans (h.1 q a b c d),Nat.le_trans h.2 hz⟩
theorem frD.below {G:Lg} {W X Y:World} (h:frD G W X) (hb:Below X.heap.size X Y):frD G W Y:=h.step (fun q _ _ _ hq=>hb.block q hq) hb.size
theorem frD.post {G:Lg} {W X Y:World} (h:frD G W X) (ho:∀ b,b≠G.P→b≠G.gq→b<X.heap.size→Y.heap[b]?=X.heap[b]?) (hz:X.heap.size≤Y.heap.size):frD G W Y:=h.step (fun q a b _ hq=>ho q a b hq) hz
theorem frD.put {G:Lg} {W X Y:World} (h:frD G W X) (ho:∀ b,b≠G.P→b≠G.gr→b<X.heap.size→Y.heap[b]?=X.heap[b]?) (hz:X.heap.size≤Y.heap.size):frD G W Y:=h.step (fun q a _ c hq=>ho q a c hq) hz
theorem frD.take {G:Lg} {W X Y:World} (h:frD G W X) (ho:∀ b,b≠G.P→b<X.heap.size→Y.heap[b]?=X.heap[b]?) (hz:X.heap.size≤Y.heap.size):frD G W Y:=h.step (fun q a _ _ hq=>ho q a hq) hz
set_option maxRecDepth 20000 in
theorem deliver_fr {w0:World} {G:Lg} {H:Ho} {f1 f3:Nat} {hs:Nat→Hd} {nm:Nat} {D:DataW Unit} {W:World} (h:lh w0 G H f1 f3 hs nm D W) (F:R5) (fa:Option Addr) (fm fc:Nat) (hf:isBytes w0 fa fm fc F.l) (hfm:fm≤1048576) (hc2:H.c2=0∨H.c2=1) :
  Calls Tryz.prog 114 #[.pointer (some ⟨G.P,0,none⟩),frV F.e F.i F.r F.d fa fm fc] W fun o w'=>o = .returned (.tuple #[])∧(∃ f1',lh w0 G (delHo H F) f1' f3 hs nm D w')∧frD G W w':=by
 have HBA:Hid (Below W.heap.size W (W.alloc (.cells [.bool F.e,.int .u32 (F.i:Int),.bool F.r,.int .i64 F.d,.slice fa fm fc].toArray 55))):=(Below.refl _ _).alloc (Nat.le_refl _) _
 have HPA:Hid (blk (W.alloc (.cells [.bool F.e,.int .u32 (F.i:Int),.bool F.r,.int .i64 F.d,.slice fa fm fc].toArray 55)) W.heap.size [.bool F.e,.int .u32 (F.i:Int),.bool F.r,.int .i64 F.d,.slice fa fm fc] 55):=blk.new W _ 55
 have HLA:Hid (lh w0 G H f1 f3 hs nm D (W.alloc (.cells [.bool F.e,.int .u32 (F.i:Int),.bool F.r,.int .i64 F.d,.slice fa fm fc].toArray 55))):=h.below HBA.out
 have HU:Hid (lhU G W.heap.size):=h.lts
 have HFB:Hid (isBytes w0 fa fm fc F.l∧F.l.length≤1048576∧fm=F.l.length):=⟨hf,by have:=hf.len;omega,hf.len⟩
 have HVL:Hid (∀ X,lh w0 G H f1 f3 hs nm D X→Calls Tryz.prog 112 #[frV F.e F.i F.r F.d fa fm fc] X fun o w'=>o = .returned (.bool (validB F.e F.i F.r F.d fm))∧Below X.heap.size X w'):=fun X hX=>valid_any X _ _ _ _ _ _ _ _ (hf.below hX.b)
 have HPS:Hid (∀ X,lh w0 G H f1 f3 hs nm D X→Calls Tryz.prog 158 #[.pointer (some ⟨G.P,0,none⟩),frV F.e F.i F.r F.d fa fm fc] X fun o w'=>o = .returned (.bool (passB H.fs F))∧Below X.heap.size X w'):=fun X hX=>passes_any X G.P G.gf G.n1 G.kf H.fs F fa fm fc (hX.p.cell 4 _ rfl) hX.f hX.bd.m1
 have HFR:Hid (∀ X,lh w0 G H f1 f3 hs nm D X→Calls Tryz.prog 159 #[.pointer (some ⟨G.P,7,none⟩)] X fun o w'=>o = .returned (.int .i64 ((G.r1-H.ff.length:Nat):Int))∧Below X.heap.size X w'):=fun X hX=>free5L X G.P _ G.r1 G.r1 H.ff.length (hX.p.cell 7 _ rfl) (hX.p.cell 9 _ rfl) hX.bd.b1.2.2 (by have:=hX.bd.b1;omega)
 clear h hf;go_enter Tryz.func114,Tryz.ntmps114
 go_wp2_with (first | (refine wpList_load_mid (P:=Tryz.prog) rfl 55 _ rfl W.heap.size 0 rfl [.bool F.e,.int .u32 (F.i:Int),.bool F.r,.int .i64 F.d,.slice fa fm fc] _ HPA.out.load Tryz.underlying55 rfl sz93 ?_))
 refine (HVL.out _ HLA.out).mono ?_
 rintro o w1 ⟨rfl,hb1⟩;have HL1:Hid (lh w0 G H f1 f3 hs nm D w1):=HLA.out.below hb1
 have HP1:Hid (blk w1 W.heap.size [.bool F.e,.int .u32 (F.i:Int),.bool F.r,.int .i64 F.d,.slice fa fm fc] 55):=HPA.out.below hb1
 have HF:Hid (frD G W w1):=frD.of (HBA.out.trans (hb1.mono HBA.out.size))
 clear hb1 HLA HPA HBA HVL;by_cases hv:validB F.e F.i F.r F.d fm=true
 ·rw[hv]
  go_wp2_with (first | (refine wpList_load_midG (by first | rfl | (simp[Region.wanted,yielded];done) | (simp[Region.wanted,yielded];omega)) 55 _ rfl W.heap.size 0 rfl [.bool F.e,.int .u32 (F.i:Int),.bool F.r,.int .i64 F.d,.slice fa fm fc] _ HP1.out.load Tryz.underlying55 rfl sz93 ?_))
  refine (HPS.out _ HL1.out).mono ?_
  rintro o w2 ⟨rfl,hb2⟩;have HL2:Hid (lh w0 G H f1 f3 hs nm D w2):=HL1.out.below hb2
  have HP2:Hid (blk w2 W.heap.size [.bool F.e,.int .u32 (F.i:Int),.bool F.r,.int .i64 F.d,.slice fa fm fc] 55):=HP1.out.below hb2
  have HF:Hid (frD G W w2):=HF.out.below hb2
  clear hb2 HL1 HP1 HPS;have HV:Hid (validB F.e F.i F.r F.d F.l.length=true):=by show _=_;rw[← HFB.out.2.2];exact hv
  by_cases hp:passB H.fs F=true
  ·rw[hp]
   have HD0:Hid (delHo H F=if (H.ff.length:Int)=H.c1 then (if H.c2=0 then postHo H (evF 3 0 0 F) else match H.ff with | []=>H | f :: r=>postHo (fHo (postHo H (evF 3 0 0 f)) (r++[F])) (evF 2 0 0 F)) else postHo (fHo H (H.ff++[F])) (evF 2 0 0 F)):=by
    show _=_
    unfold delHo
    rw[if_pos ⟨HV.out,hp⟩]
    rfl
   go_wp2_with fail;refine (HFR.out _ HL2.out).mono ?_
   rintro o w3 ⟨rfl,hb3⟩;have HL3:Hid (lh w0 G H f1 f3 hs nm D w3):=HL2.out.below hb3
   have HP3:Hid (blk w3 W.heap.size [.bool F.e,.int .u32 (F.i:Int),.bool F.r,.int .i64 F.d,.slice fa fm fc] 55):=HP2.out.below hb3
   have HF:Hid (frD G W w3):=HF.out.below hb3
   clear hb3 HL2 HP2 HFR;have hle:=HL3.out.bd.b1
   have he1:=HL3.out.bd.e1
   by_cases hfull:H.ff.length=G.r1
   ·have hfr:G.r1-H.ff.length=0:=by omega
    rw[hfr]
    have hfi:(H.ff.length:Int)=H.c1:=by rw[he1];omega
    have y2:w3.cell? ⟨G.P,2,none⟩=some (.int .i64 H.c2):=HL3.out.p.cell 2 _ rfl
    rcases hc2 with h0|h0
    ·have HT:Hid (delHo H F=postHo H (evF 3 0 0 F)):=by
      show _=_
      rw[HD0.out,if_pos hfi,if_pos h0]
     rw[h0] at y2
     have HPO:Hid (Calls Tryz.prog 87 #[.pointer (some ⟨G.P,0,none⟩),.agg #[.int .i64 3,.int .i64 0,.int .i64 0,.bool F.e,.int .u32 (F.i:Int),.bool F.r,.int .i64 F.d,.slice fa fm fc]] w3 fun o w'=>o = .returned (.tuple #[])∧lh w0 G (postHo H (evF 3 0 0 F)) f1 f3 hs nm D w'∧(∀ b,b≠G.P→b≠G.gq→b<w3.heap.size→w'.heap[b]?=w3.heap[b]?)∧w3.heap.size≤w'.heap.size):=HL3.out.post (evF 3 0 0 F) fa fm fc HFB.out.1 HFB.out.2.1
     go_wp2_with (first | (refine wpList_load_mid (P:=Tryz.prog) rfl 55 _ rfl W.heap.size 0 rfl [.bool F.e,.int .u32 (F.i:Int),.bool F.r,.int .i64 F.d,.slice fa fm fc] _ HP3.out.load Tryz.underlying55 rfl sz93 ?_))
     refine HPO.out.mono ?_
     rintro o w7 ⟨rfl,hl7,ho7,hz7⟩;have HL7:Hid (lh w0 G (postHo H (evF 3 0 0 F)) f1 f3 hs nm D w7):=hl7
     have HF:Hid (frD G W w7):=HF.out.post ho7 hz7
     clear hl7 HPO ho7 hz7;go_wp2_with fail;first | go_end0 | (try simp only[Exit.inBlock,Exit.then]);refine bodyPost_ret (results_none rfl _ _ _) rfl ?_
     exact⟨rfl,⟨_,by rw[HT.out];exact HL7.out⟩,HF.out⟩
    ·have hne:¬ H.c2=0:=by omega
     obtain⟨f,r,hfr2⟩ : ∃ f r,H.ff=f :: r:=by
      cases hff:H.ff with
      | nil=>rw[hff] at hfull;simp at hfull;omega
      | cons f r=>exact⟨f,r,rfl⟩
     have HT:Hid (delHo H F=postHo (fHo (postHo H (evF 3 0 0 f)) (r++[F])) (evF 2 0 0 F)):=by
      show _=_
      rw[HD0.out,if_pos hfi,if_neg hne,hfr2]
     have hsm:=HL3.out.bd.s3 0 (by rw[hfr2];simp)
     have e0:H.ff[0]'(by rw[hfr2];simp)=f:=by simp[hfr2]
     rw[e0] at hsm
     have hlr:r.length<G.r1:=by
      have:=congrArg List.length hfr2
      simp at this
      omega
     have HLR:Hid (r.length<G.r1):=hlr
     rw[h0] at y2
     have HTK:Hid (Calls Tryz.prog 160 #[.pointer (some ⟨G.P,7,none⟩),.int .i64 1] w3 fun e w'=>∃ gx kx ao m c,e = .returned (.slice (some ⟨gx,0,none⟩) 1 kx)∧(w3.heap.size≤gx∧gx<w'.heap.size∧1≤kx∧w'.rangeAt gx 0 [.bool f.e,.int .u32 (f.i:Int),.bool f.r,.int .i64 f.d,.slice ao m c]∧isBytes w0 ao m c f.l)∧lh w0 G { H with ff:=r } ((f1+1) % G.r1) f3 hs nm D w'∧(∀ q,q≠G.P→q<w3.heap.size→w'.heap[q]?=w3.heap[q]?)∧w3.heap.size≤w'.heap.size):=take5_one HL3.out hfr2
     have HSM:Hid (f.l.length≤1048576):=hsm
     clear hsm e0 hfr2 hlr hfi he1 hle hfull hfr;obtain⟨gE,gI,gR,gD,gL⟩:=f
     go_wp2_with fail;refine HTK.out.mono ?_
     rintro o w4 ⟨gx,kx,ao,m,c,rfl,⟨h1,h2,h3,h4,h5⟩,h6,h7,h8⟩;have HP4a:Hid (blk w4 W.heap.size [.bool F.e,.int .u32 (F.i:Int),.bool F.r,.int .i64 F.d,.slice fa fm fc] 55):=HP3.out.kept (h7 _ (by have:=HU.out.1;omega) HP3.out.lt)
     have HX4:Hid (w4.rangeAt gx 0 [.bool gE,.int .u32 (gI:Int),.bool gR,.int .i64 gD,.slice ao m c]):=h4
     have hkx:1≤kx:=h3
     have HPO3:Hid (Calls Tryz.prog 87 #[.pointer (some ⟨G.P,0,none⟩),.agg #[.int .i64 3,.int .i64 0,.int .i64 0,.bool gE,.int .u32 (gI:Int),.bool gR,.int .i64 gD,.slice ao m c]] w4 fun o w'=>o = .returned (.tuple #[])∧lh w0 G (postHo { H with ff:=r } (evF 3 0 0 ⟨gE,gI,gR,gD,gL⟩)) ((f1+1) % G.r1) f3 hs nm D w'∧(∀ b,b≠G.P→b≠G.gq→b<w4.heap.size→w'.heap[b]?=w4.heap[b]?)∧w4.heap.size≤w'.heap.size):=h6.post (evF 3 0 0 ⟨gE,gI,gR,gD,gL⟩) ao m c h5 HSM.out
     have HF:Hid (frD G W w4):=HF.out.take h7 h8
     clear h1 h2 h3 h4 h5 h6 h7 h8 HTK HP3 HL3;go_wp2_with (first | (refine wpList_load_mid (P:=Tryz.prog) rfl 55 _ rfl gx 0 rfl [.bool gE,.int .u32 (gI:Int),.bool gR,.int .i64 gD,.slice ao m c] _ HX4.out Tryz.underlying55 rfl sz93 ?_))
     refine HPO3.out.mono ?_
     rintro o w5 ⟨rfl,hl5,ho5,hz5⟩;have HL5:Hid (lh w0 G (postHo { H with ff:=r } (evF 3 0 0 ⟨gE,gI,gR,gD,gL⟩)) ((f1+1) % G.r1) f3 hs nm D w5):=hl5
     have HP5:Hid (blk w5 W.heap.size [.bool F.e,.int .u32 (F.i:Int),.bool F.r,.int .i64 F.d,.slice fa fm fc] 55):=HP4a.out.kept (ho5 _ (by have:=HU.out.1;omega) (by have:=HU.out.2.2.2.2.2;omega) HP4a.out.lt)
     have HF:Hid (frD G W w5):=HF.out.post ho5 hz5
     clear hl5 ho5 HPO3 HP4a HX4;go_wp2_with fail;refine wp_region_held (S:=fun X=>blk X W.heap.size [.bool F.e,.int .u32 (F.i:Int),.bool F.r,.int .i64 F.d,.slice fa fm fc] 55) (by kernel_rfl) ?_
     have hS:blk (World.drew w5) W.heap.size [.bool F.e,.int .u32 (F.i:Int),.bool F.r,.int .i64 F.d,.slice fa fm fc] 55:=HP5.out.below (Below.refl _ _).drew
     have HLv:Hid (lh w0 G (postHo { H with ff:=r } (evF 3 0 0 ⟨gE,gI,gR,gD,gL⟩)) ((f1+1) % G.r1) f3 hs nm D (World.drew w5)):=HL5.out.below (Below.refl _ _).drew
     have HF:Hid (frD G W (World.drew w5)):=HF.out.below (Below.refl _ _).drew
     change wpAnyH Tryz.prog _ _ _ _ _ _ _ (World.drew w5)
     generalize World.drew w5=v0 at *;refine wV 0 (.pointer (some ⟨G.P,0,none⟩)) rfl (by kernel_rfl) ?_ hS ?_ fun _ _ _ h=>h
     ·intro W hSw;clear hS;go_simp
     simp only[Act.put,aA,aB,aC,aD,aE]
     refine wV 1 (.pointer (some ⟨G.P,0,none⟩)) rfl (by kernel_rfl) ?_ hS ?_ fun _ _ _ h=>h
     ·intro W hSw;clear hS;go_simp
     simp only[Act.put,aA,aB,aC,aD,aE,aF];refine wV 2 (.pointer (some ⟨G.P,7,none⟩)) rfl (by kernel_rfl) ?_ hS ?_ fun _ _ _ h=>h
     ·intro W hSw;clear hS;go_simp
     simp only[Act.put,aA,aB,aC,aD,aE,aF];refine wU 3 (.agg [.bool F.e,.int .u32 (F.i:Int),.bool F.r,.int .i64 F.d,.slice fa fm fc].toArray) rfl (by kernel_rfl) (yieldsIf_load_mid (by rfl) 55 _ rfl W.heap.size 0 rfl [.bool F.e,.int .u32 (F.i:Int),.bool F.r,.int .i64 F.d,.slice fa fm fc] _ (fun X h=>h.load) Tryz.underlying55 rfl sz93) hS ?_ fun _ _ _ h=>h
     simp only[Act.put,aA,aB,aC,aD,aE,aF];refine wpAnyH_all (rs:=[4]) (by kernel_rfl) (by simp) ?_
     refine AllReadyH.cons rfl (fun K2 hK2=>?_) AllReadyH.nil
     go_simp;have bA:Below v0.heap.size v0 (v0.alloc (.cells [.bool F.e,.int .u32 (F.i:Int),.bool F.r,.int .i64 F.d,.slice fa fm fc].toArray 55)):=(Below.refl _ _).alloc (Nat.le_refl _) _
     have hSA:blk (v0.alloc (.cells [.bool F.e,.int .u32 (F.i:Int),.bool F.r,.int .i64 F.d,.slice fa fm fc].toArray 55)) W.heap.size [.bool F.e,.int .u32 (F.i:Int),.bool F.r,.int .i64 F.d,.slice fa fm fc] 55:=hS.below bA
     have HNB:Hid ((v0.alloc (.cells [.bool F.e,.int .u32 (F.i:Int),.bool F.r,.int .i64 F.d,.slice fa fm fc].toArray 55)).heap[v0.heap.size]?=some (.cells [.bool F.e,.int .u32 (F.i:Int),.bool F.r,.int .i64 F.d,.slice fa fm fc].toArray 55)):=heap_alloc_new v0 _
     have HLB:Hid (lh w0 G (postHo { H with ff:=r } (evF 3 0 0 ⟨gE,gI,gR,gD,gL⟩)) ((f1+1) % G.r1) f3 hs nm D (v0.alloc (.cells [.bool F.e,.int .u32 (F.i:Int),.bool F.r,.int .i64 F.d,.slice fa fm fc].toArray 55))):=HLv.out.below bA
     have HF:Hid (frD G W (v0.alloc (.cells [.bool F.e,.int .u32 (F.i:Int),.bool F.r,.int .i64 F.d,.slice fa fm fc].toArray 55))):=HF.out.below bA
     have HVZ:Hid (lhU G v0.heap.size):=HLv.out.lts
     refine hK2.out _ _ hSA (fun hS2=>?_)
     clear hK2 K2 hSA hS bA HLv;have hS:=hS2
     clear hS2;generalize (v0.alloc (.cells [.bool F.e,.int .u32 (F.i:Int),.bool F.r,.int .i64 F.d,.slice fa fm fc].toArray 55))=v1 at *;generalize v0.heap.size=ib at *;refine wpAnyH_all (rs:=[5]) (by kernel_rfl) (by simp) ?_
     refine AllReadyH.cons rfl (fun K2 hK2=>?_) AllReadyH.nil
     go_simp;refine (HLB.out.putF F fa fm fc HFB.out.1 HFB.out.2.1 (by exact HLR.out) ib HNB.out ⟨by have:=HVZ.out.1;omega,by have:=HVZ.out.2.2.2.2.1;omega⟩).mono ?_
     rintro o v2 ⟨rfl,hl2,ho2,hz2⟩;have hS5:blk v2 W.heap.size [.bool F.e,.int .u32 (F.i:Int),.bool F.r,.int .i64 F.d,.slice fa fm fc] 55:=hS.kept (ho2 _ (by have:=HU.out.1;omega) (by have:=HU.out.2.2.2.2.1;omega) hS.lt)
     have HL4:Hid (lh w0 G (fHo (postHo { H with ff:=r } (evF 3 0 0 ⟨gE,gI,gR,gD,gL⟩)) ((postHo { H with ff:=r } (evF 3 0 0 ⟨gE,gI,gR,gD,gL⟩)).ff++[F])) ((f1+1) % G.r1) f3 hs nm D v2):=hl2
     have HF:Hid (frD G W v2):=HF.out.put ho2 hz2
     clear hl2 ho2 hz2;go_wp2_with fail;refine hK2.out _ _ hS5 (fun hS2=>?_)
     clear hK2 K2 hS5 hS HLB HNB;have HP4:Hid (blk v2 W.heap.size [.bool F.e,.int .u32 (F.i:Int),.bool F.r,.int .i64 F.d,.slice fa fm fc] 55):=hS2
     clear hS2;refine wpAnyH_done (by kernel_rfl) ?_ _
     have HPO:Hid (Calls Tryz.prog 87 #[.pointer (some ⟨G.P,0,none⟩),.agg #[.int .i64 2,.int .i64 0,.int .i64 0,.bool F.e,.int .u32 (F.i:Int),.bool F.r,.int .i64 F.d,.slice fa fm fc]] v2 fun o w'=>o = .returned (.tuple #[])∧lh w0 G (postHo (fHo (postHo { H with ff:=r } (evF 3 0 0 ⟨gE,gI,gR,gD,gL⟩)) ((postHo { H with ff:=r } (evF 3 0 0 ⟨gE,gI,gR,gD,gL⟩)).ff++[F])) (evF 2 0 0 F)) ((f1+1) % G.r1) f3 hs nm D w'∧(∀ b,b≠G.P→b≠G.gq→b<v2.heap.size→w'.heap[b]?=v2.heap[b]?)∧v2.heap.size≤w'.heap.size):=HL4.out.post (evF 2 0 0 F) fa fm fc HFB.out.1 HFB.out.2.1
     go_wp2_with (first | (refine wpList_load_mid (P:=Tryz.prog) rfl 55 _ rfl W.heap.size 0 rfl [.bool F.e,.int .u32 (F.i:Int),.bool F.r,.int .i64 F.d,.slice fa fm fc] _ HP4.out.load Tryz.underlying55 rfl sz93 ?_))
     refine HPO.out.mono ?_
     rintro o w7 ⟨rfl,hl7,ho7,hz7⟩;have HL7:Hid (lh w0 G (postHo (fHo (postHo { H with ff:=r } (evF 3 0 0 ⟨gE,gI,gR,gD,gL⟩)) ((postHo { H with ff:=r } (evF 3 0 0 ⟨gE,gI,gR,gD,gL⟩)).ff++[F])) (evF 2 0 0 F)) ((f1+1) % G.r1) f3 hs nm D w7):=hl7
     have HF:Hid (frD G W w7):=HF.out.post ho7 hz7
     clear hl7 HPO ho7 hz7;go_wp2_with fail;first | go_end0 | (try simp only[Exit.inBlock,Exit.then]);refine bodyPost_ret (results_none rfl _ _ _) rfl ?_
     exact⟨rfl,⟨_,by rw[HT.out];exact HL7.out⟩,HF.out⟩
   ·obtain⟨q,hq⟩ : ∃ q:Nat,G.r1-H.ff.length=q+1:=⟨G.r1-H.ff.length-1,by omega⟩
    rw[hq]
    have hq0:(((q+1:Nat):Int) == 0)=false:=by simp;omega
    have HT:Hid (delHo H F=postHo (fHo H (H.ff++[F])) (evF 2 0 0 F)):=by
     show _=_
     rw[HD0.out,if_neg (by rw[he1];omega)]
    go_wp2_with fail;refine wp_region_held (S:=fun X=>blk X W.heap.size [.bool F.e,.int .u32 (F.i:Int),.bool F.r,.int .i64 F.d,.slice fa fm fc] 55) (by kernel_rfl) ?_
    have hS:blk (World.drew w3) W.heap.size [.bool F.e,.int .u32 (F.i:Int),.bool F.r,.int .i64 F.d,.slice fa fm fc] 55:=HP3.out.below (Below.refl _ _).drew
    have HLv:Hid (lh w0 G (H) f1 f3 hs nm D (World.drew w3)):=HL3.out.below (Below.refl _ _).drew
    have HF:Hid (frD G W (World.drew w3)):=HF.out.below (Below.refl _ _).drew
    change wpAnyH Tryz.prog _ _ _ _ _ _ _ (World.drew w3)
    generalize World.drew w3=v0 at *;refine wV 0 (.pointer (some ⟨G.P,0,none⟩)) rfl (by kernel_rfl) ?_ hS ?_ fun _ _ _ h=>h
    ·intro W hSw;clear hS;go_simp
    simp only[Act.put,aA,aB,aC,aD,aE]
    refine wV 1 (.pointer (some ⟨G.P,0,none⟩)) rfl (by kernel_rfl) ?_ hS ?_ fun _ _ _ h=>h
    ·intro W hSw;clear hS;go_simp
    simp only[Act.put,aA,aB,aC,aD,aE,aF];refine wV 2 (.pointer (some ⟨G.P,7,none⟩)) rfl (by kernel_rfl) ?_ hS ?_ fun _ _ _ h=>h
    ·intro W hSw;clear hS;go_simp
    simp only[Act.put,aA,aB,aC,aD,aE,aF];refine wU 3 (.agg [.bool F.e,.int .u32 (F.i:Int),.bool F.r,.int .i64 F.d,.slice fa fm fc].toArray) rfl (by kernel_rfl) (yieldsIf_load_mid (by rfl) 55 _ rfl W.heap.size 0 rfl [.bool F.e,.int .u32 (F.i:Int),.bool F.r,.int .i64 F.d,.slice fa fm fc] _ (fun X h=>h.load) Tryz.underlying55 rfl sz93) hS ?_ fun _ _ _ h=>h
    simp only[Act.put,aA,aB,aC,aD,aE,aF];refine wpAnyH_all (rs:=[4]) (by kernel_rfl) (by simp) ?_
    refine AllReadyH.cons rfl (fun K2 hK2=>?_) AllReadyH.nil
    go_simp;have bA:Below v0.heap.size v0 (v0.alloc (.cells [.bool F.e,.int .u32 (F.i:Int),.bool F.r,.int .i64 F.d,.slice fa fm fc].toArray 55)):=(Below.refl _ _).alloc (Nat.le_refl _) _
    have hSA:blk (v0.alloc (.cells [.bool F.e,.int .u32 (F.i:Int),.bool F.r,.int .i64 F.d,.slice fa fm fc].toArray 55)) W.heap.size [.bool F.e,.int .u32 (F.i:Int),.bool F.r,.int .i64 F.d,.slice fa fm fc] 55:=hS.below bA
    have HNB:Hid ((v0.alloc (.cells [.bool F.e,.int .u32 (F.i:Int),.bool F.r,.int .i64 F.d,.slice fa fm fc].toArray 55)).heap[v0.heap.size]?=some (.cells [.bool F.e,.int .u32 (F.i:Int),.bool F.r,.int .i64 F.d,.slice fa fm fc].toArray 55)):=heap_alloc_new v0 _
    have HLB:Hid (lh w0 G (H) f1 f3 hs nm D (v0.alloc (.cells [.bool F.e,.int .u32 (F.i:Int),.bool F.r,.int .i64 F.d,.slice fa fm fc].toArray 55))):=HLv.out.below bA
    have HF:Hid (frD G W (v0.alloc (.cells [.bool F.e,.int .u32 (F.i:Int),.bool F.r,.int .i64 F.d,.slice fa fm fc].toArray 55))):=HF.out.below bA
    have HVZ:Hid (lhU G v0.heap.size):=HLv.out.lts
    refine hK2.out _ _ hSA (fun hS2=>?_)
    clear hK2 K2 hSA hS bA HLv;have hS:=hS2
    clear hS2;generalize (v0.alloc (.cells [.bool F.e,.int .u32 (F.i:Int),.bool F.r,.int .i64 F.d,.slice fa fm fc].toArray 55))=v1 at *;generalize v0.heap.size=ib at *;refine wpAnyH_all (rs:=[5]) (by kernel_rfl) (by simp) ?_
    refine AllReadyH.cons rfl (fun K2 hK2=>?_) AllReadyH.nil
    go_simp;refine (HLB.out.putF F fa fm fc HFB.out.1 HFB.out.2.1 (by omega) ib HNB.out ⟨by have:=HVZ.out.1;omega,by have:=HVZ.out.2.2.2.2.1;omega⟩).mono ?_
    rintro o v2 ⟨rfl,hl2,ho2,hz2⟩;have hS5:blk v2 W.heap.size [.bool F.e,.int .u32 (F.i:Int),.bool F.r,.int .i64 F.d,.slice fa fm fc] 55:=hS.kept (ho2 _ (by have:=HU.out.1;omega) (by have:=HU.out.2.2.2.2.1;omega) hS.lt)
    have HL4:Hid (lh w0 G (fHo (H) ((H).ff++[F])) f1 f3 hs nm D v2):=hl2
    have HF:Hid (frD G W v2):=HF.out.put ho2 hz2
    clear hl2 ho2 hz2;go_wp2_with fail;refine hK2.out _ _ hS5 (fun hS2=>?_)
    clear hK2 K2 hS5 hS HLB HNB;have HP4:Hid (blk v2 W.heap.size [.bool F.e,.int .u32 (F.i:Int),.bool F.r,.int .i64 F.d,.slice fa fm fc] 55):=hS2
    clear hS2;refine wpAnyH_done (by kernel_rfl) ?_ _
    have HPO:Hid (Calls Tryz.prog 87 #[.pointer (some ⟨G.P,0,none⟩),.agg #[.int .i64 2,.int .i64 0,.int .i64 0,.bool F.e,.int .u32 (F.i:Int),.bool F.r,.int .i64 F.d,.slice fa fm fc]] v2 fun o w'=>o = .returned (.tuple #[])∧lh w0 G (postHo (fHo (H) ((H).ff++[F])) (evF 2 0 0 F)) f1 f3 hs nm D w'∧(∀ b,b≠G.P→b≠G.gq→b<v2.heap.size→w'.heap[b]?=v2.heap[b]?)∧v2.heap.size≤w'.heap.size):=HL4.out.post (evF 2 0 0 F) fa fm fc HFB.out.1 HFB.out.2.1
    go_wp2_with (first | (refine wpList_load_mid (P:=Tryz.prog) rfl 55 _ rfl W.heap.size 0 rfl [.bool F.e,.int .u32 (F.i:Int),.bool F.r,.int .i64 F.d,.slice fa fm fc] _ HP4.out.load Tryz.underlying55 rfl sz93 ?_))
    refine HPO.out.mono ?_
    rintro o w7 ⟨rfl,hl7,ho7,hz7⟩;have HL7:Hid (lh w0 G (postHo (fHo (H) ((H).ff++[F])) (evF 2 0 0 F)) f1 f3 hs nm D w7):=hl7
    have HF:Hid (frD G W w7):=HF.out.post ho7 hz7
    clear hl7 HPO ho7 hz7;go_wp2_with fail;first | go_end0 | (try simp only[Exit.inBlock,Exit.then]);refine bodyPost_ret (results_none rfl _ _ _) rfl ?_
    exact⟨rfl,⟨_,by rw[HT.out];exact HL7.out⟩,HF.out⟩
  ·have hp':passB H.fs F=false:=by simpa using hp
   rw[hp']
   have HT:Hid (delHo H F=H):=by
    show _=_
    unfold delHo
    rw[if_neg (by intro h;exact hp h.2)]
   go_wp2_with fail;first | go_end0 | (try simp only[Exit.inBlock,Exit.then]);refine bodyPost_ret (results_none rfl _ _ _) rfl ?_
   exact⟨rfl,⟨f1,by rw[HT.out];exact HL2.out⟩,HF.out⟩
 ·have hv':validB F.e F.i F.r F.d fm=false:=by simpa using hv
  rw[hv']
  have HT:Hid (delHo H F=H):=by
   show _=_
   unfold delHo
   rw[if_neg (by intro h;rw[← HFB.out.2.2] at h;exact hv h.1)]
  go_wp2_with fail;first | go_end0 | (try simp only[Exit.inBlock,Exit.then]);refine bodyPost_ret (results_none rfl _ _ _) rfl ?_
  exact⟨rfl,⟨f1,by rw[HT.out];exact HL1.out⟩,HF.out⟩
theorem mx.deliver {w0:World} {M:Nat} {G:Lg} {f1 f3 nm:Nat} {C:Co} {W:World} (h:mx w0 M G f1 f3 nm C W) (F:R5) (fa:Option Addr) (fm fc:Nat) (hf:isBytes w0 fa fm fc F.l) (hfm:fm≤1048576) (hc2:C.ho.c2=0∨C.ho.c2=1) :
  Calls Tryz.prog 114 #[.pointer (some ⟨G.P,0,none⟩),frV F.e F.i F.r F.d fa fm fc] W fun o w'=>o = .returned (.tuple #[])∧∃ f1',mx w0 M G f1' f3 nm { C with ho:=delHo C.ho F } w':=by
 obtain⟨hs,D,h⟩:=h
 refine (deliver_fr h.h F fa fm fc hf hfm hc2).mono ?_
 rintro o w' ⟨rfl,⟨f1',h1⟩,h2⟩;exact⟨rfl,f1',hs,D,h.m.kept (h2.1 M h.o.1 (by have:=h.o;omega) (by have:=h.o;omega) h.m.lt),h1,h.o⟩
end Go.Proofs.YtkfcfigbgmbaiaaGreat
