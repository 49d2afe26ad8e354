import Derived.Test.YtaamahohdnbpiaaGreatNS
import Derived.Test.YtaamahohdnbpiaaGreatOF
namespace Go.Proofs.YtaamahohdnbpiaaGreat
open Go.RowKit
set_option linter.unusedVariables false
theorem lh.setCell {w0:World} {G:Lg} {H:Ho} {f1 f3:Nat} {hs:Nat→Hd} {nm:Nat} {D:DataW Unit} {W:World} (h:lh w0 G H f1 f3 hs nm D W) {B x:Nat} (hB:lhU G B) (hx:B≤x) (o:Nat) (v:Value):lh w0 G H f1 f3 hs nm D (W.setCell ⟨x,o,none⟩ v):=by
 have:=h.put hB hx o [v]
 simpa[World.setCells] using this
abbrev qHo (H:Ho) (q:List R8):Ho:={ H with qu:=q }
theorem lh.drained {w0:World} {G:Lg} {H:Ho} {f1 f3:Nat} {hs:Nat→Hd} {nm:Nat} {D:DataW Unit} {W:World} (h:lh w0 G H f1 f3 hs nm D W) (Q:Nat) (hQ:Q<G.r3):lh w0 G (qHo H []) f1 Q hs nm D ((W.setCell ⟨G.P,11,none⟩ (.int .i64 (Q:Int))).setCell ⟨G.P,12,none⟩ (.int .i64 0)):=by
 have dp:=h.d.p
 have dl:=h.d.lo
 have hb3:=h.bd.b3
 have he:∀ q,q≠G.P→((W.setCell ⟨G.P,11,none⟩ (.int .i64 (Q:Int))).setCell ⟨G.P,12,none⟩ (.int .i64 0)).heap[q]?=W.heap[q]?:=fun q hq=>(heap_setCell_other _ _ _ _ (by exact hq)).trans (heap_setCell_other _ _ _ _ (by exact hq))
 have hb:Below w0.heap.size w0 ((W.setCell ⟨G.P,11,none⟩ (.int .i64 (Q:Int))).setCell ⟨G.P,12,none⟩ (.int .i64 0)):=(h.b.setCell (by exact dl.2.1) _).setCell (by exact dl.2.1) _
 have hz:W.heap.size≤((W.setCell ⟨G.P,11,none⟩ (.int .i64 (Q:Int))).setCell ⟨G.P,12,none⟩ (.int .i64 0)).heap.size:=(((Below.refl 0 W).setCell (Nat.zero_le _) _).setCell (Nat.zero_le _) _).size
 refine⟨(h.p.set 11 _).set 12 _,h.f.same (he _ dp.1),h.x.at0 (he _ dp.2.1) hb,h.r.keep (he _ dp.2.2.1),h.rz.up (he _ dp.2.2.1),fun i hi=>absurd hi (Nat.not_lt_zero _),h.qz.up (he _ dp.2.2.2.1),?_,hb,⟨Nat.lt_of_lt_of_le h.hi.1 hz,Nat.lt_of_lt_of_le h.hi.2.1 hz,Nat.lt_of_lt_of_le h.hi.2.2 hz⟩,h.d,⟨h.bd.e1,h.bd.e3,h.bd.m1,h.bd.m2,h.bd.nk,h.bd.b1,⟨hQ,hb3.2.1,Nat.zero_le _⟩,h.bd.lo,h.bd.s3,fun j hj=>absurd hj (Nat.not_lt_zero _)⟩⟩
 obtain⟨es,clock,q1,q2⟩:=h.m
 exact⟨es,clock,(he _ dp.2.2.2.2).trans q1,q2⟩
set_option maxHeartbeats 4000000 in
set_option maxRecDepth 20000 in
theorem take8_all {w0:World} {G:Lg} {H:Ho} {f1 f3:Nat} {hs:Nat→Hd} {nm:Nat} {D:DataW Unit} {w:World} (h:lh w0 G H f1 f3 hs nm D w) (n:Nat) (hn:n=H.qu.length) :
  Calls Tryz.prog 133 #[.pointer (some ⟨G.P,10,none⟩),.int .i64 (n:Int)] w fun e w'=>∃ a c hs',e = .returned (.slice a n c)∧(∀ g,a=some ⟨g,0,none⟩→w.heap.size≤g)∧dx8 w0 0 a n c H.qu hs' 0 w'∧(∃ f3',lh w0 G (qHo H []) f1 f3' hs nm D w')∧w.heap.size≤w'.heap.size:=by
 have HLK:Hid (Calls Tryz.prog 162 #[.pointer (some ⟨G.P,10,none⟩),.int .i64 (n:Int)] w fun e w'=>∃ a c hs',e = .returned (.slice a n c)∧(∀ g,a=some ⟨g,0,none⟩→w.heap.size≤g)∧dx8 w0 0 a n c H.qu hs' 0 w'∧Below w.heap.size w w'):=by
  have hb3:=h.bd.b3
  exact look8_dr w0 w G.P 10 G.gq G.r3 f3 n H.qu hn (h.p.cell 10 _ rfl) (h.p.cell 11 _ rfl) (by rw[hn];exact h.p.cell 12 _ rfl) h.q hb3.1 ⟨by omega,hb3.2.1⟩ (by omega) h.b h.bd.s4
 have HL:Hid (lh w0 G H f1 f3 hs nm D w):=h
 have HN:Hid (n=H.qu.length):=hn
 have HPL:Hid (G.P<w.heap.size):=h.p.lt
 clear h hn;go_enter Tryz.func133,Tryz.ntmps133
 go_wp2_with fail;refine HLK.out.mono ?_
 rintro e w2 ⟨a,c,hs',rfl,hx,hd,hb⟩;have HL2:Hid (lh w0 G H f1 f3 hs nm D w2):=HL.out.below hb
 have HX:Hid ((∀ g,a=some ⟨g,0,none⟩→w.heap.size≤g)∧dx8 w0 0 a n c H.qu hs' 0 w2):=⟨hx,hd⟩
 have HB:Hid (w.heap.size≤w2.heap.size):=hb.size
 clear HLK HL hx hd hb;by_cases h0:n=0
 ·have HE:Hid (H=(qHo H [])):=by
   have hq:H.qu=[]:=List.length_eq_zero_iff.1 (by have:=HN.out;omega)
   show H=_
   obtain⟨c0,c1,c2,c3,fs,bx,ff,qu,lo,st⟩:=H
   simp only[] at hq
   subst hq;rfl
  subst h0;go_wp2_with fail;go_ret;refine⟨a,c,hs',rfl,HX.out.1,HX.out.2,⟨f3,?_⟩,HB.out⟩
  have:=HL2.out
  rw[HE.out] at this
  exact this
 ·have y10:=HL2.out.p.cell 10 _ rfl
  have y11:=HL2.out.p.cell 11 _ rfl
  have y12:w2.cell? ⟨G.P,12,none⟩=some (.int .i64 (n:Int)):=by
   have:=HL2.out.p.cell 12 _ rfl
   rw[← HN.out] at this
   exact this
  have z11:=HL2.out.p.free 11
  have z12:=HL2.out.p.free 12
  have hb3:=HL2.out.bd.b3
  have hnl:=HN.out
  have hpos:(0:Int)<(n:Int):=by omega
  have hd0:decide ((0:Int)<(n:Int))=true:=by simpa using hpos
  obtain⟨Q,hQ⟩ : ∃ Q,(f3+n) % G.r3=Q:=⟨_,rfl⟩
  have HQ:Hid (Q<G.r3):=by show Q<_;rw[← hQ];exact Nat.mod_lt _ (by omega)
  have hwk:IntKind.i64.wrap ((f3:Int)+(n:Int))=((f3+n:Nat):Int):=by rw[IntKind.wrap_i64];omega
  have hr0:¬ G.r3=0:=by omega
  have htm:((f3+n:Nat):Int).tmod (G.r3:Int)=(Q:Int):=by rw[← hQ];exact (Int.ofNat_tmod _ _).symm
  have htm2:((f3:Int)+(n:Int)).tmod (G.r3:Int)=(Q:Int):=htm
  have hwr:IntKind.i64.wrap ((n:Int)-(n:Int))=0:=by rw[IntKind.wrap_i64];omega
  clear hQ hnl;go_wp2_with fail;refine wp_region_still_tail 16 (by kernel_rfl) (by kernel_rfl) ?_
  change wpStill Tryz.prog _ (World.drew w2) (fun a'=>wpList Tryz.prog _ _ _ a' (World.drew w2)) _ _
  have hbd:Below w2.heap.size w2 (World.drew w2):=(Below.refl _ _).drew
  have HL2:Hid (lh w0 G H f1 f3 hs nm D (World.drew w2)):=HL2.out.below hbd
  have HX:Hid ((∀ g,a=some ⟨g,0,none⟩→w.heap.size≤g)∧dx8 w0 0 a n c H.qu hs' 0 (World.drew w2)):=⟨HX.out.1,HX.out.2.below hbd⟩
  have HB:Hid (w.heap.size≤(World.drew w2).heap.size):=HB.out
  have y10:(World.drew w2).cell? ⟨G.P,10,none⟩=some (.slice (some ⟨G.gq,0,none⟩) G.r3 G.r3):=y10
  have y11:(World.drew w2).cell? ⟨G.P,11,none⟩=some (.int .i64 (f3:Int)):=y11
  have y12:(World.drew w2).cell? ⟨G.P,12,none⟩=some (.int .i64 (n:Int)):=y12
  have z11:(World.drew w2).frozen? ⟨G.P,11,none⟩=false:=z11
  have z12:(World.drew w2).frozen? ⟨G.P,12,none⟩=false:=z12
  clear hbd;generalize World.drew w2=w3 at *;simp only[List.take_succ_cons,List.take_zero,List.drop_succ_cons,List.drop_zero]
  repeat still_step
  refine wpStill_nil ?_
  go_wp2_with fail;go_ret;have hfx:=HL2.out.drained Q HQ.out
  have hz:=(((Below.refl 0 w3).setCell (p:=⟨G.P,11,none⟩) (Nat.zero_le _) (.int .i64 (Q:Int))).setCell (p:=⟨G.P,12,none⟩) (Nat.zero_le _) (.int .i64 0)).size
  refine⟨a,c,hs',rfl,HX.out.1,HX.out.2.same0 (fun g hg=>?_) hz hfx.b,⟨Q,hfx⟩,Nat.le_trans HB.out hz⟩
  have hgp:g≠G.P:=by have:=HX.out.1 g hg;have:=HPL.out;omega
  exact (heap_setCell_other _ _ _ _ (by exact hgp)).trans (heap_setCell_other _ _ _ _ (by exact hgp))
theorem ownE {w0:World} {G:Lg} {H:Ho} {f1 f3:Nat} {hs:Nat→Hd} {nm:Nat} {D:DataW Unit} {W:World} (h:lh w0 G H f1 f3 hs nm D W) {B U k n c gx:Nat} {qu:List R8} {he:Nat→Hd} (hB:lhU G B) (hd:dr8 w0 U gx n qu he k W) (hgx:B≤gx) (hU:gx<U) (hUz:U≤W.heap.size) (hk:k<n) :
  Calls Tryz.prog 134 #[.pointer (some ⟨gx,k*8+3,none⟩)] W fun e w'=>∃ he',e = .returned (.tuple #[])∧dr8 w0 U gx n qu he' (k+1) w'∧lh w0 G H f1 f3 hs nm D w'∧U≤w'.heap.size:=by
 have hkl:k<qu.length:=by have:=hd.len;omega
 refine (ownData_any W gx (k*8+3) _ _ _ qu[k].l (hd.at_ k hkl).cs (hd.row (k*8+7) (by omega)).2 (hd.at_ k hkl).dat (by have:=(hd.at_ k hkl).dat.len;have:=hd.sm k hkl;omega)).mono ?_
 rintro e w' ⟨a',c',w1,rfl,rfl,q1,q2,q3⟩;obtain⟨he',d2⟩:=hd.step hkl hUz hU a' c' q1 q2 q3
 exact⟨he',rfl,d2,(h.below q3).setCell hB hgx _ _,by have:=q3.size;simp;omega⟩
set_option maxHeartbeats 4000000 in
set_option maxRecDepth 20000 in
theorem drain_any {w0:World} {G:Lg} {H:Ho} {f1 f3:Nat} {hs:Nat→Hd} {nm:Nat} {D:DataW Unit} {w:World} (h:lh w0 G H f1 f3 hs nm D w) :
  Calls Tryz.prog 68 #[.pointer (some ⟨G.P,0,none⟩)] w fun e w'=>∃ a c he U,e = .returned (.slice a H.qu.length c)∧dx8 w0 U a H.qu.length c H.qu he H.qu.length w'∧(∀ g,a=some ⟨g,0,none⟩→w.heap.size≤g∧g<U)∧w.heap.size≤U∧∃ f3',lh w0 G (qHo H []) f1 f3' hs nm D w':=by
 obtain⟨n,hn⟩ : ∃ n,n=H.qu.length:=⟨_,rfl⟩
 rw[← hn]
 have HN:Hid (n=H.qu.length∧n≤1000):=⟨hn,by have:=h.bd.b3;omega⟩
 have HTK:Hid (∀ X,lh w0 G H f1 f3 hs nm D X→Calls Tryz.prog 133 #[.pointer (some ⟨G.P,10,none⟩),.int .i64 (n:Int)] X fun e w'=>∃ a c hs',e = .returned (.slice a n c)∧(∀ g,a=some ⟨g,0,none⟩→X.heap.size≤g)∧dx8 w0 0 a n c H.qu hs' 0 w'∧(∃ f3',lh w0 G (qHo H []) f1 f3' hs nm D w')∧X.heap.size≤w'.heap.size):=fun X hX=>take8_all hX n hn
 have HLU:Hid (lhU G w.heap.size):=h.lts
 have HLd:Hid (lh w0 G H f1 f3 hs nm D (World.drew w)):=h.below (Below.refl _ _).drew
 have y12:(World.drew w).cell? ⟨G.P,12,none⟩=some (.int .i64 (n:Int)):=by
  have:=HLd.out.p.cell 12 _ rfl
  rw[hn]
  exact this
 clear h hn;go_enter Tryz.func68,Tryz.ntmps68
 go_wp2_with fail;refine wp_region_still_tail 8 (by kernel_rfl) (by kernel_rfl) ?_
 change wpStill Tryz.prog _ (World.drew w) (fun a'=>wpList Tryz.prog _ _ _ a' (World.drew w)) _ _
 have HZ:Hid (w.heap.size≤(World.drew w).heap.size):=Nat.le_refl _
 generalize World.drew w=v0 at *;simp only[List.take_succ_cons,List.take_zero,List.drop_succ_cons,List.drop_zero]
 repeat still_step
 refine wpStill_nil ?_
 go_wp2_with fail;refine (HTK.out v0 HLd.out).mono ?_
 rintro e w2 ⟨a,c,he0,rfl,hg,hd,⟨f3',hl⟩,hz⟩;have HD0:Hid (dx8 w0 w2.heap.size a n c H.qu he0 0 w2):=hd.same0 (fun _ _=>rfl) (Nat.le_refl _) hl.b
 have HL2:Hid (lh w0 G (qHo H []) f1 f3' hs nm D w2):=hl
 have HG:Hid (∀ g,a=some ⟨g,0,none⟩→w.heap.size≤g∧g<w2.heap.size):=fun g e=>⟨Nat.le_trans HZ.out (hg g e),hd.hi g e⟩
 have HZ2:Hid (w.heap.size≤w2.heap.size):=Nat.le_trans HZ.out hz
 have hn1:=HN.out.2
 clear hg hd hl hz HTK HLd y12 HZ;have HUU:Hid (w2.heap.size≤w2.heap.size):=Nat.le_refl _
 obtain⟨U,hU⟩ : ∃ U,U=w2.heap.size:=⟨_,rfl⟩
 rw[← hU] at HD0 HG HZ2
 have HU:Hid (U≤w2.heap.size):=by show U≤_;omega
 clear hU HUU;go_wp2_with fail;go_loopw [16] (fun i wr=>∃ (k:Nat) (he:Nat→Hd),k≤n∧i = .int .i64 (k:Int)∧dx8 w0 U a n c H.qu he k wr∧lh w0 G (qHo H []) f1 f3' hs nm D wr∧U≤wr.heap.size) (fun i _=>n-(intOf i).toNat)
 case atStart=>exact⟨0,he0,Nat.zero_le _,rfl,HD0.out,HL2.out,HU.out⟩
 case round=>
  obtain⟨k,he,hk,rfl,hd,hl,hz⟩:=hrel
  have HDk:Hid (dx8 w0 U a n c H.qu he k wr):=hd
  have HLk:Hid (lh w0 G (qHo H []) f1 f3' hs nm D wr):=hl
  have HZk:Hid (U≤wr.heap.size):=hz
  clear hd hl hz HD0 HL2 HU;by_cases hlt:k<n
  ·obtain⟨gx,hgx⟩ : ∃ gx,a=some ⟨gx,0,none⟩:=by
    rcases HDk.out with⟨_,e,_⟩|⟨g,e,_⟩
    ·omega
    ·exact⟨g,e⟩
   have hcc:n≤c:=by
    rcases HDk.out with⟨_,e,_⟩|⟨g,e,h1,_⟩
    ·omega
    ·exact h1
   have HOD:Hid (Calls Tryz.prog 134 #[.pointer (some ⟨gx,k*8+3,none⟩)] wr fun e w'=>∃ he',e = .returned (.tuple #[])∧dx8 w0 U a n c H.qu he' (k+1) w'∧lh w0 G (qHo H []) f1 f3' hs nm D w'∧U≤w'.heap.size):=by
    have hdr:dr8 w0 U gx n H.qu he k wr:=by
     rcases HDk.out with⟨e,_⟩|⟨g,e,_,h2⟩
     ·rw[hgx] at e;cases e
     ·rw[hgx] at e;cases e;exact h2
    refine (ownE HLk.out HLU.out hdr (HG.out gx hgx).1 (HG.out gx hgx).2 HZk.out hlt (c:=c)).mono ?_
    rintro e w' ⟨he',rfl,h1,h2,h3⟩;exact⟨he',rfl,Or.inr ⟨gx,hgx,hcc,h1⟩,h2,h3⟩
   have HA:Hid (a=some ⟨gx,0,none⟩):=hgx
   subst hgx;go_wp2_with (first | (go_at_call 134;refine HOD.out.mono ?_;rintro o w5 ⟨he',rfl,hd5,hl5,hz5⟩;have HD5:Hid (dx8 w0 U (some ⟨gx,0,none⟩) n c H.qu he' (k+1) w5):=hd5;have HL5:Hid (lh w0 G (qHo H []) f1 f3' hs nm D w5):=hl5;have HZ5:Hid (U≤w5.heap.size):=hz5;clear hd5 hl5 hz5))
   go_roundw
   case rel=>exact⟨k+1,he',by omega,by go_num,HD5.out,HL5.out,HZ5.out⟩
   case measure=>simp[intOf];omega
  ·have hkn:n=k:=by omega
   subst hkn;go_wp2_with fail;go_ret;exact⟨a,c,he,U,rfl,HDk.out,HG.out,HZ2.out,f3',HLk.out⟩
theorem isBytes.farE {W V:World} {a:Option Addr} {n cap:Nat} {l:List Nat} (h:isBytes W a n cap l) {x:Nat} {a':Option Addr} {n' c':Nat} {T:TypeId} (hx:blk W x [.slice a' n' c'] T) (hV:∀ q,q≠x→q<W.heap.size→V.heap[q]?=W.heap[q]?):isBytes V a n cap l:=by
 refine⟨h.len,h.cap,h.small,fun hne=>?_⟩
 obtain⟨g,off,e,hc⟩:=h.cells hne
 refine⟨g,off,e,fun j hj=>?_⟩
 have hcj:=hc j hj
 have hg:g≠x:=by
  rintro rfl
  have hm:(Value.int .u8 (l[j]:Int)) ∈ [Value.slice a' n' c']:=by
   unfold blk at hx
   unfold World.cell? at hcj
   rw[hx] at hcj
   simp at hcj
   exact List.mem_of_getElem? hcj
  simp at hm
 have hlt:g<W.heap.size:=by
  unfold World.cell? at hcj
  by_cases hlt:g<W.heap.size
  ·exact hlt
  ·rw[Array.getElem?_eq_none (by show _≤g;omega)] at hcj
   cases hcj
 unfold World.cell? at hcj ⊢
 rw[hV g hg hlt]
 exact hcj
theorem below_both {w0 W:World} (h:Below w0.heap.size w0 W) {x:Nat} {L:List Value} {T:TypeId} (hx:blk w0 x L T) (v:Value):Below (w0.setCell ⟨x,0,none⟩ v).heap.size (w0.setCell ⟨x,0,none⟩ v) (W.setCell ⟨x,0,none⟩ v):=by
 have hz:(w0.setCell ⟨x,0,none⟩ v).heap.size=w0.heap.size:=by simp
 have hz2:(W.setCell ⟨x,0,none⟩ v).heap.size=W.heap.size:=by simp
 have h1:Below x w0 (w0.setCell ⟨x,0,none⟩ v):=(Below.refl _ _).setCell (by exact Nat.le_refl _) _
 have h2:Below x W (W.setCell ⟨x,0,none⟩ v):=(Below.refl _ _).setCell (by exact Nat.le_refl _) _
 refine⟨(h2.os.trans h.os).trans h1.os.symm,(h2.tape.trans h.tape).trans h1.tape.symm,(h2.output.trans h.output).trans h1.output.symm,by rw[hz,hz2];exact h.size,fun k hk=>?_⟩
 rw[hz] at hk
 by_cases e:k=x
 ·subst e;have q1:blk (w0.setCell ⟨k,0,none⟩ v) k (L.set 0 v) T:=hx.set 0 v
  have q2:blk (W.setCell ⟨k,0,none⟩ v) k (L.set 0 v) T:=(hx.below h).set 0 v
  unfold blk at q1 q2
  rw[q1,q2]
 ·rw[heap_setCell_other _ _ _ _ (by exact e),heap_setCell_other _ _ _ _ (by exact e)]
  exact h.block k hk
theorem lh.ev {w0:World} {G:Lg} {H:Ho} {f1 f3:Nat} {hs:Nat→Hd} {nm:Nat} {D:DataW Unit} {W:World} (h:lh w0 G H f1 f3 hs nm D W) {x:Nat} {a':Option Addr} {n' c':Nat} {T:TypeId} (hx:blk w0 x [.slice a' n' c'] T) (v:Value):lh (w0.setCell ⟨x,0,none⟩ v) G H f1 f3 hs nm D (W.setCell ⟨x,0,none⟩ v):=by
 obtain⟨l1,l2,l3⟩:=h.d.lo
 obtain⟨d1,d2,d3⟩:=h.d.g
 have hxl:=hx.lt
 have he:∀ q,q≠x→(W.setCell ⟨x,0,none⟩ v).heap[q]?=W.heap[q]?:=fun q hq=>heap_setCell_other _ _ _ _ (by exact hq)
 have hz:(w0.setCell ⟨x,0,none⟩ v).heap.size=w0.heap.size:=by simp
 have hz2:(W.setCell ⟨x,0,none⟩ v).heap.size=W.heap.size:=by simp
 have hb:=below_both h.b hx v
 have hby:∀ {a:Option Addr} {n cap:Nat} {l:List Nat},isBytes w0 a n cap l→isBytes (w0.setCell ⟨x,0,none⟩ v) a n cap l:=fun hh=>hh.farE hx (fun q h1 _=>heap_setCell_other _ _ _ _ (by exact h1))
 refine⟨h.p.kept (he _ (by omega)),h.f.same (he _ (by omega)),⟨h.x.len,h.x.row.up (he _ (by omega)),fun j hj=>rangeAt.up (h.x.rng j hj) (he _ (by omega)),fun j hj hk=>hby (h.x.old j hj hk),fun j hj hk=>absurd hk (Nat.not_lt_zero _),h.x.dst,by rw[hz];exact h.x.lo,by rw[hz2];exact h.x.hi,hb,h.x.sm⟩,fun i hi=>?_,h.rz.up (he _ (by omega)),fun i hi=>?_,h.qz.up (he _ (by omega)),?_,hb,by rw[hz2];exact h.hi,⟨h.d.p,h.d.m,h.d.g,by rw[hz];exact h.d.lo⟩,h.bd⟩
 ·obtain⟨ao,m,c,h1,h2⟩:=h.r i hi
  exact⟨ao,m,c,rangeAt.up h1 (he _ (by omega)),hby h2⟩
 ·obtain⟨ao,m,c,h1,h2⟩:=h.q i hi
  exact⟨ao,m,c,rangeAt.up h1 (he _ (by omega)),hby h2⟩
 ·obtain⟨es,clock,q1,q2⟩:=h.m
  exact⟨es,clock,(he _ (by omega)).trans q1,q2⟩
structure evQ (B C:Nat) (q:List R8) (a:Option Addr) (c:Nat) (he:Nat→Hd) (W:World):Prop where
 sx:sx8 W a q.length c he
 is:isR8s W a q.length c q
 d:dst he q.length
 i:inn B C a q.length he
theorem evQ.same {B C:Nat} {q:List R8} {a:Option Addr} {c:Nat} {he:Nat→Hd} {W V:World} (h:evQ B C q a c he W) (hV:∀ x,B≤x→x<C→V.heap[x]?=W.heap[x]?):evQ B C q a c he V:=
 ⟨h.sx.same (fun x hx=>hV x (h.i x hx).1 (h.i x hx).2),h.is.same h.sx (fun x hx=>hV x (h.i x hx).1 (h.i x hx).2),h.d,h.i⟩
theorem evQ.mono {B C B' C':Nat} {q:List R8} {a:Option Addr} {c:Nat} {he:Nat→Hd} {W:World} (h:evQ B C q a c he W) (hB:B'≤B) (hC:C≤C'):evQ B' C' q a c he W:=
 ⟨h.sx,h.is,h.d,fun x hx=>⟨Nat.le_trans hB (h.i x hx).1,Nat.lt_of_lt_of_le (h.i x hx).2 hC⟩⟩
theorem dx8.evQ {b0 W:World} {U B:Nat} {a:Option Addr} {c:Nat} {q:List R8} {he:Nat→Hd} (h:dx8 b0 U a q.length c q he q.length W) (hg:∀ g,a=some ⟨g,0,none⟩→B≤g∧g<U) (hU:B≤U):evQ B W.heap.size q a c he W:=by
 obtain⟨q1,q2,q3,q4⟩:=h.sx (fun g e=>(hg g e).2)
 refine⟨q1,q2,q3,fun x hx=>?_⟩
 rcases hx with e|⟨j,hj,e⟩
 ·exact⟨(hg x e).1,h.hi x e⟩
 ·have:=q4 j hj x e
  omega
set_option maxHeartbeats 4000000 in
set_option maxRecDepth 20000 in
theorem lit67 {w0:World} {G:Lg} {H:Ho} {f1 f3:Nat} {hs:Nat→Hd} {nm:Nat} {D:DataW Unit} {w:World} (h:lh w0 G H f1 f3 hs nm D w) (Ev:Nat) (hev:blk w0 Ev [.slice none 0 0] 33) :
  Calls Tryz.prog 67 #[.pointer (some ⟨G.P,0,none⟩),.pointer (some ⟨Ev,0,none⟩)] w fun e w'=>e = .returned (.tuple #[])∧∃ a c he f3',evQ w0.heap.size w'.heap.size H.qu a c he w'∧lh (w0.setCell ⟨Ev,0,none⟩ (.slice a H.qu.length c)) G (qHo H []) f1 f3' hs nm D w':=by
 have HS:Hid (Calls Tryz.prog 68 #[.pointer (some ⟨G.P,0,none⟩)] w fun e w'=>∃ a c he f3',e = .returned (.slice a H.qu.length c)∧evQ w0.heap.size w'.heap.size H.qu a c he w'∧lh w0 G (qHo H []) f1 f3' hs nm D w'):=by
  refine (drain_any h).mono ?_
  rintro e w' ⟨a,c,he,U,rfl,h1,h2,h3,f3',h4⟩;have hz:=h.b.size
  exact⟨a,c,he,f3',rfl,h1.evQ (fun g e=>⟨Nat.le_trans hz (h2 g e).1,(h2 g e).2⟩) (Nat.le_trans hz h3),h4⟩
 have HEV:Hid (blk w0 Ev [.slice none 0 0] 33):=hev
 have HEL:Hid (Ev<w0.heap.size):=hev.lt
 clear h hev;go_enter Tryz.func67,Tryz.ntmps67
 go_wp2_with (first | (go_at_call 68;refine HS.out.mono ?_;rintro o w5 ⟨a,c,he,f3',rfl,hq,hl⟩;have HQ:Hid (evQ w0.heap.size w5.heap.size H.qu a c he w5):=hq;have HL:Hid (lh w0 G (qHo H []) f1 f3' hs nm D w5):=hl;have xE:=(HEV.out.below hl.b).cell 0 _ rfl;have zE:=(HEV.out.below hl.b).free 0;clear hq hl))
 first | go_end0 | (simp only[Exit.inBlock,Exit.then];refine bodyPost_ret (results_none rfl _ _ _) rfl ?_) | refine bodyPost_ret (results_none rfl _ _ _) rfl ?_
 have hz2:(w5.setCell ⟨Ev,0,none⟩ (.slice a H.qu.length c)).heap.size=w5.heap.size:=by simp
 refine⟨rfl,a,c,he,f3',?_,HL.out.ev HEV.out _⟩
 rw[hz2]
 exact HQ.out.same (fun x h1 _=>heap_setCell_other _ _ _ _ (by show x≠Ev;have:=HEL.out;omega))
theorem open_drain (w:World) (H:Ho) (s:Sl) (Ev:Nat) (h:isHo w H s) (hs:slSome s) (hok:okHo H) (hm:H.le 1048576) (hev:blk w Ev [.slice none 0 0] 33) :
  Calls Tryz.prog 61 #[.agg (hoL H s).toArray] w fun o w'=>∃ Pp,o = .returned (.pointer (some ⟨Pp,0,none⟩))∧Calls Tryz.prog 67 #[.pointer (some ⟨Pp,0,none⟩),.pointer (some ⟨Ev,0,none⟩)] w' fun o w2=>o = .returned (.tuple #[])∧∃ a c he,evQ w.heap.size w2.heap.size H.qu a c he w2∧Below (w.setCell ⟨Ev,0,none⟩ (.slice a H.qu.length c)).heap.size (w.setCell ⟨Ev,0,none⟩ (.slice a H.qu.length c)) w2∧Calls Tryz.prog 118 #[.pointer (some ⟨Pp,0,none⟩)] w2 (toldQ w2 (qHo H [])):=by
 refine (open_lh w H s h hs hok hm).mono ?_
 rintro o w' ⟨G,hd,rfl,hl,hn⟩;refine⟨G.P,rfl,(lit67 hl Ev hev).mono ?_⟩
 rintro o w2 ⟨rfl,a,c,he,f3',h1,h2⟩;exact⟨rfl,a,c,he,h1,h2.b,h2.told⟩
end Go.Proofs.YtaamahohdnbpiaaGreat
