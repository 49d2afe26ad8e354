import Derived.Test.YtkfcfigbgmbaiaaGreatK27
import Derived.Test.YtkfcfigbgmbaiaaGreatK35
import Derived.Deep.RegionHeld3
namespace Go.Proofs.YtkfcfigbgmbaiaaGreat
open Go.RowKit
set_option linter.unusedVariables false
variable {w0 W:World} {g room first:Nat} {f:R5} {r:List R5}
theorem ring5.tail (h:ring5 w0 W g room first (f :: r)):ring5 w0 W g room ((first+1) % room) r:=fun i hi=>by
 obtain⟨ao,m,c,h1,h2⟩:=h (i+1) (by simpa using hi)
 refine⟨ao,m,c,?_,by simpa using h2⟩
 have e:((first+1) % room+i) % room=(first+(i+1)) % room:=by
  rw[Nat.mod_add_mod]
  congr 1
  omega
 rw[e]
 simpa using h1
theorem lh.setCell {G:Lg} {H:Ho} {f1 f3:Nat} {hs:Nat→Hd} {nm:Nat} {D:DataW Unit} (h:lh w0 G H f1 f3 hs nm D W) {B x:Nat} (hB:lhU G B) (hx:B≤x) (o:Nat) (v:Value):lh w0 G H f1 f3 hs nm D (W.setCell ⟨x,o,none⟩ v):=by
 have:=h.put hB hx o [v]
 simpa[World.setCells] using this
theorem ring5.one (h:ring5 w0 W g room first (f :: r)):ring5 w0 W g room first [f]:=fun i hi=>by
 have e:i=0:=by simpa using hi
 subst e;obtain⟨ao,m,c,h1,h2⟩:=h 0 (by simp)
 exact⟨ao,m,c,by simpa using h1,by simpa using h2⟩
set_option maxRecDepth 20000
set_option maxHeartbeats 16000000
open Go.Value renaming int→I,slice→sL,bool→bO,pointer→pT,agg→aG
open Go.IntKind renaming i64→J
open Go.Ending renaming returned→rT
open Go.Proofs.Tryz renaming prog→Tp
variable {W w0 w V:World} {G:Lg} {H:Ho} {f1 f3 nm B c C:Nat} {hs he:Nat→Hd} {D:DataW Unit} {a:Option Addr} {q:List R8}
abbrev qHo (H:Ho) (q:List R8):Ho:={ H with qu:=q }
theorem lh.drained (h:lh w0 G H f1 f3 hs nm D W) (Q:Nat) (hQ:Q<G.r3):lh w0 G (qHo H []) f1 Q hs nm D ((W.setCell ⟨G.P,11,none⟩ (I J (Q:Int))).setCell ⟨G.P,12,none⟩ (I J 0)):=by
 have dp:=h.d.p
 have dl:=h.d.lo
 have hb3:=h.bd.b3
 have he:∀ q,q≠G.P→((W.setCell ⟨G.P,11,none⟩ (I J (Q:Int))).setCell ⟨G.P,12,none⟩ (I J 0)).heap[q]?=W.heap[q]?:=fun q hq=>(heap_setCell_other _ _ _ _ (by exact hq)).trans (heap_setCell_other _ _ _ _ (by exact hq))
 have hb:Below w0.heap.size w0 ((W.setCell ⟨G.P,11,none⟩ (I J (Q:Int))).setCell ⟨G.P,12,none⟩ (I J 0)):=(h.b.setCell (by exact dl.2.1) _).setCell (by exact dl.2.1) _
 have hz:W.heap.size≤((W.setCell ⟨G.P,11,none⟩ (I J (Q:Int))).setCell ⟨G.P,12,none⟩ (I J 0)).heap.size:=(((bW 0 W).setCell (nZ _) _).setCell (nZ _) _).size
 refine⟨(h.p.set 11 _).set 12 _,h.f.same (he _ dp.1),h.x.at0 (he _ dp.2.1) hb,h.r.keep (he _ dp.2.2.1),h.rz.up (he _ dp.2.2.1),fun i hi=>absurd hi (nN _),h.qz.up (he _ dp.2.2.2.1),?_,hb,⟨nL h.hi.1 hz,nL h.hi.2.1 hz,nL h.hi.2.2 hz⟩,h.d,⟨h.bd.e1,h.bd.e3,h.bd.m1,h.bd.m2,h.bd.nk,h.bd.b1,⟨hQ,hb3.2.1,nZ _⟩,h.bd.lo,h.bd.s3,fun j hj=>absurd hj (nN _)⟩⟩
 obtain⟨es,clock,q1,q2⟩:=h.m
 exact⟨es,clock,(he _ dp.2.2.2.2).trans q1,q2⟩
theorem take8_all (h:lh w0 G H f1 f3 hs nm D w) (n:Nat) (hn:n=H.qu.length) :
  Calls Tp 125 #[pT (some ⟨G.P,10,none⟩),I J (n:Int)] w fun e w'=>∃ a c hs',e = rT (sL a n c)∧(∀ g,a=some ⟨g,0,none⟩→w.heap.size≤g)∧dx8 w0 0 a n c H.qu hs' 0 w'∧(∃ f3',lh w0 G (qHo H []) f1 f3' hs nm D w')∧w.heap.size≤w'.heap.size:=by
 have HLK:Hid (Calls Tp 180 #[pT (some ⟨G.P,10,none⟩),I J (n:Int)] w fun e w'=>∃ a c hs',e = rT (sL a n c)∧(∀ g,a=some ⟨g,0,none⟩→w.heap.size≤g)∧dx8 w0 0 a n c H.qu hs' 0 w'∧Below w.heap.size w w'):=by
  have hb3:=h.bd.b3
  exact look8_dr w0 w G.P 10 G.gq G.r3 f3 n H.qu hn (h.p.cell 10 _ rfl) (h.p.cell 11 _ rfl) (by rw[hn];exact h.p.cell 12 _ rfl) h.q hb3.1 ⟨by omega,hb3.2.1⟩ (by omega) h.b h.bd.s4
 have HL:Hid (lh w0 G H f1 f3 hs nm D w):=h
 have HN:Hid (n=H.qu.length):=hn
 have HPL:Hid (G.P<w.heap.size):=h.p.lt
 clear h hn;go_enter Tryz.func125,Tryz.ntmps125
 go_wp2_with fail;refine HLK.out.mono ?_
 rintro e w2 ⟨a,c,hs',rfl,hx,hd,hb⟩;have HL2:Hid (lh w0 G H f1 f3 hs nm D w2):=HL.out.below hb
 have HX:Hid ((∀ g,a=some ⟨g,0,none⟩→w.heap.size≤g)∧dx8 w0 0 a n c H.qu hs' 0 w2):=⟨hx,hd⟩
 have HB:Hid (w.heap.size≤w2.heap.size):=hb.size
 clear HLK HL hx hd hb;by_cases h0:n=0
 ·have HE:Hid (H=(qHo H [])):=by
   have hq:H.qu=[]:=List.length_eq_zero_iff.1 (by have:=HN.out;omega)
   show H=_
   obtain⟨c0,c1,c2,c3,fs,bx,ff,qu,lo,st⟩:=H
   simp only[] at hq
   subst hq;rfl
  subst h0;go_wp2_with fail;go_ret;refine⟨a,c,hs',rfl,HX.out.1,HX.out.2,⟨f3,?_⟩,HB.out⟩
  have:=HL2.out
  rw[HE.out] at this
  exact this
 ·have y10:=HL2.out.p.cell 10 _ rfl
  have y11:=HL2.out.p.cell 11 _ rfl
  have y12:w2.cell? ⟨G.P,12,none⟩=some (I J (n:Int)):=by
   have:=HL2.out.p.cell 12 _ rfl
   rw[← HN.out] at this
   exact this
  have z11:=HL2.out.p.free 11
  have z12:=HL2.out.p.free 12
  have hb3:=HL2.out.bd.b3
  have hnl:=HN.out
  have hpos:(0:Int)<(n:Int):=by omega
  have hd0:decide ((0:Int)<(n:Int))=true:=by simpa using hpos
  obtain⟨Q,hQ⟩ : ∃ Q,(f3+n) % G.r3=Q:=⟨_,rfl⟩
  have HQ:Hid (Q<G.r3):=by show Q<_;rw[← hQ];exact Nat.mod_lt _ (by omega)
  have hwk:IntKind.i64.wrap ((f3:Int)+(n:Int))=((f3+n:Nat):Int):=by rw[IntKind.wrap_i64];omega
  have hr0:¬ G.r3=0:=by omega
  have htm:((f3+n:Nat):Int).tmod (G.r3:Int)=(Q:Int):=by rw[← hQ];exact (Int.ofNat_tmod _ _).symm
  have htm2:((f3:Int)+(n:Int)).tmod (G.r3:Int)=(Q:Int):=htm
  have hwr:IntKind.i64.wrap ((n:Int)-(n:Int))=0:=by rw[IntKind.wrap_i64];omega
  clear hQ hnl;go_wp2_with fail;refine wp_region_still_tail 16 (by kernel_rfl) (by kernel_rfl) ?_
  change wpStill Tp _ (World.drew w2) (fun a'=>wpList Tp _ _ _ a' (World.drew w2)) _ _
  have hbd:Below w2.heap.size w2 (World.drew w2):=(bW _ _).drew
  have HL2:Hid (lh w0 G H f1 f3 hs nm D (World.drew w2)):=HL2.out.below hbd
  have HX:Hid ((∀ g,a=some ⟨g,0,none⟩→w.heap.size≤g)∧dx8 w0 0 a n c H.qu hs' 0 (World.drew w2)):=⟨HX.out.1,HX.out.2.below hbd⟩
  have HB:Hid (w.heap.size≤(World.drew w2).heap.size):=HB.out
  have y10:(World.drew w2).cell? ⟨G.P,10,none⟩=some (sL (some ⟨G.gq,0,none⟩) G.r3 G.r3):=y10
  have y11:(World.drew w2).cell? ⟨G.P,11,none⟩=some (I J (f3:Int)):=y11
  have y12:(World.drew w2).cell? ⟨G.P,12,none⟩=some (I J (n:Int)):=y12
  have z11:(World.drew w2).frozen? ⟨G.P,11,none⟩=false:=z11
  have z12:(World.drew w2).frozen? ⟨G.P,12,none⟩=false:=z12
  clear hbd;generalize World.drew w2=w3 at *;simp only[List.take_succ_cons,List.take_zero,List.drop_succ_cons,List.drop_zero]
  repeat still_step
  refine wpStill_nil ?_
  go_wp2_with fail;go_ret;have hfx:=HL2.out.drained Q HQ.out
  have hz:=(((bW 0 w3).setCell (p:=⟨G.P,11,none⟩) (nZ _) (I J (Q:Int))).setCell (p:=⟨G.P,12,none⟩) (nZ _) (I J 0)).size
  refine⟨a,c,hs',rfl,HX.out.1,HX.out.2.same0 (fun g hg=>?_) hz hfx.b,⟨Q,hfx⟩,nT HB.out hz⟩
  have hgp:g≠G.P:=by have:=HX.out.1 g hg;have:=HPL.out;omega
  exact (heap_setCell_other _ _ _ _ (by exact hgp)).trans (heap_setCell_other _ _ _ _ (by exact hgp))
theorem ownE (h:lh w0 G H f1 f3 hs nm D W) {B U k n c gx:Nat} {qu:List R8} {he:Nat→Hd} (hB:lhU G B) (hd:dr8 w0 U gx n qu he k W) (hgx:B≤gx) (hU:gx<U) (hUz:U≤W.heap.size) (hk:k<n) :
  Calls Tp 126 #[pT (some ⟨gx,k*8+3,none⟩)] W fun e w'=>∃ he',e = rT (.tuple #[])∧dr8 w0 U gx n qu he' (k+1) w'∧lh w0 G H f1 f3 hs nm D w'∧U≤w'.heap.size:=by
 have hkl:k<qu.length:=by have:=hd.len;omega
 refine (ownData_any W gx (k*8+3) _ _ _ qu[k].l (hd.at_ k hkl).cs (hd.row (k*8+7) (by omega)).2 (hd.at_ k hkl).dat (by have:=(hd.at_ k hkl).dat.len;have:=hd.sm k hkl;omega)).mono ?_
 rintro e w' ⟨a',c',w1,rfl,rfl,q1,q2,q3⟩;obtain⟨he',d2⟩:=hd.step hkl hUz hU a' c' q1 q2 q3
 exact⟨he',rfl,d2,(h.below q3).setCell hB hgx _ _,by have:=q3.size;simp;omega⟩
theorem drain_any (h:lh w0 G H f1 f3 hs nm D w) :
  Calls Tp 65 #[pT (some ⟨G.P,0,none⟩)] w fun e w'=>∃ a c he U,e = rT (sL a H.qu.length c)∧dx8 w0 U a H.qu.length c H.qu he H.qu.length w'∧(∀ g,a=some ⟨g,0,none⟩→w.heap.size≤g∧g<U)∧w.heap.size≤U∧∃ f3',lh w0 G (qHo H []) f1 f3' hs nm D w':=by
 obtain⟨n,hn⟩ : ∃ n,n=H.qu.length:=⟨_,rfl⟩
 rw[← hn]
 have HN:Hid (n=H.qu.length∧n≤1000):=⟨hn,by have:=h.bd.b3;omega⟩
 have HTK:Hid (∀ X,lh w0 G H f1 f3 hs nm D X→Calls Tp 125 #[pT (some ⟨G.P,10,none⟩),I J (n:Int)] X fun e w'=>∃ a c hs',e = rT (sL a n c)∧(∀ g,a=some ⟨g,0,none⟩→X.heap.size≤g)∧dx8 w0 0 a n c H.qu hs' 0 w'∧(∃ f3',lh w0 G (qHo H []) f1 f3' hs nm D w')∧X.heap.size≤w'.heap.size):=fun X hX=>take8_all hX n hn
 have HLU:Hid (lhU G w.heap.size):=h.lts
 have HLd:Hid (lh w0 G H f1 f3 hs nm D (World.drew w)):=h.below (bW _ _).drew
 have y12:(World.drew w).cell? ⟨G.P,12,none⟩=some (I J (n:Int)):=by
  have:=HLd.out.p.cell 12 _ rfl
  rw[hn]
  exact this
 clear h hn;go_enter Tryz.func65,Tryz.ntmps65
 go_wp2_with fail;refine wp_region_still_tail 8 (by kernel_rfl) (by kernel_rfl) ?_
 change wpStill Tp _ (World.drew w) (fun a'=>wpList Tp _ _ _ a' (World.drew w)) _ _
 have HZ:Hid (w.heap.size≤(World.drew w).heap.size):=nR _
 generalize World.drew w=v0 at *;simp only[List.take_succ_cons,List.take_zero,List.drop_succ_cons,List.drop_zero]
 repeat still_step
 refine wpStill_nil ?_
 go_wp2_with fail;refine (HTK.out v0 HLd.out).mono ?_
 rintro e w2 ⟨a,c,he0,rfl,hg,hd,⟨f3',hl⟩,hz⟩;have HD0:Hid (dx8 w0 w2.heap.size a n c H.qu he0 0 w2):=hd.same0 (fun _ _=>rfl) (nR _) hl.b
 have HL2:Hid (lh w0 G (qHo H []) f1 f3' hs nm D w2):=hl
 have HG:Hid (∀ g,a=some ⟨g,0,none⟩→w.heap.size≤g∧g<w2.heap.size):=fun g e=>⟨nT HZ.out (hg g e),hd.hi g e⟩
 have HZ2:Hid (w.heap.size≤w2.heap.size):=nT HZ.out hz
 have hn1:=HN.out.2
 clear hg hd hl hz HTK HLd y12 HZ;have HUU:Hid (w2.heap.size≤w2.heap.size):=nR _
 obtain⟨U,hU⟩ : ∃ U,U=w2.heap.size:=⟨_,rfl⟩
 rw[← hU] at HD0 HG HZ2
 have HU:Hid (U≤w2.heap.size):=by show U≤_;omega
 clear hU HUU;go_wp2_with fail;go_loopw [16] (fun i wr=>∃ (k:Nat) (he:Nat→Hd),k≤n∧i = I J (k:Int)∧dx8 w0 U a n c H.qu he k wr∧lh w0 G (qHo H []) f1 f3' hs nm D wr∧U≤wr.heap.size) (fun i _=>n-(intOf i).toNat)
 case atStart=>exact⟨0,he0,nZ _,rfl,HD0.out,HL2.out,HU.out⟩
 case round=>
  obtain⟨k,he,hk,rfl,hd,hl,hz⟩:=hrel
  have HDk:Hid (dx8 w0 U a n c H.qu he k wr):=hd
  have HLk:Hid (lh w0 G (qHo H []) f1 f3' hs nm D wr):=hl
  have HZk:Hid (U≤wr.heap.size):=hz
  clear hd hl hz HD0 HL2 HU;by_cases hlt:k<n
  ·obtain⟨gx,hgx⟩ : ∃ gx,a=some ⟨gx,0,none⟩:=by
    rcases HDk.out with⟨_,e,_⟩|⟨g,e,_⟩
    ·omega
    ·exact⟨g,e⟩
   have hcc:n≤c:=by
    rcases HDk.out with⟨_,e,_⟩|⟨g,e,h1,_⟩
    ·omega
    ·exact h1
   have HOD:Hid (Calls Tp 126 #[pT (some ⟨gx,k*8+3,none⟩)] wr fun e w'=>∃ he',e = rT (.tuple #[])∧dx8 w0 U a n c H.qu he' (k+1) w'∧lh w0 G (qHo H []) f1 f3' hs nm D w'∧U≤w'.heap.size):=by
    have hdr:dr8 w0 U gx n H.qu he k wr:=by
     rcases HDk.out with⟨e,_⟩|⟨g,e,_,h2⟩
     ·rw[hgx] at e;cases e
     ·rw[hgx] at e;cases e;exact h2
    refine (ownE HLk.out HLU.out hdr (HG.out gx hgx).1 (HG.out gx hgx).2 HZk.out hlt (c:=c)).mono ?_
    rintro e w' ⟨he',rfl,h1,h2,h3⟩;exact⟨he',rfl,Or.inr ⟨gx,hgx,hcc,h1⟩,h2,h3⟩
   have HA:Hid (a=some ⟨gx,0,none⟩):=hgx
   subst hgx;go_wp2_with (first | (go_at_call 126;refine HOD.out.mono ?_;rintro o w5 ⟨he',rfl,hd5,hl5,hz5⟩;have HD5:Hid (dx8 w0 U (some ⟨gx,0,none⟩) n c H.qu he' (k+1) w5):=hd5;have HL5:Hid (lh w0 G (qHo H []) f1 f3' hs nm D w5):=hl5;have HZ5:Hid (U≤w5.heap.size):=hz5;clear hd5 hl5 hz5))
   go_roundw
   case rel=>exact⟨k+1,he',by omega,by go_num,HD5.out,HL5.out,HZ5.out⟩
   case measure=>simp[intOf];omega
  ·have hkn:n=k:=by omega
   subst hkn;go_wp2_with fail;go_ret;exact⟨a,c,he,U,rfl,HDk.out,HG.out,HZ2.out,f3',HLk.out⟩
theorem iB.farE {n cap:Nat} {l:List Nat} (h:iB W a n cap l) {x:Nat} {a':Option Addr} {n' c':Nat} {T:TypeId} (hx:blk W x [sL a' n' c'] T) (hV:∀ q,q≠x→q<W.heap.size→V.heap[q]?=W.heap[q]?):iB V a n cap l:=by
 refine⟨h.len,h.cap,h.small,fun hne=>?_⟩
 obtain⟨g,off,e,hc⟩:=h.cells hne
 refine⟨g,off,e,fun j hj=>?_⟩
 have hcj:=hc j hj
 have hg:g≠x:=by
  rintro rfl
  have hm:(Value.int .u8 (l[j]:Int)) ∈ [Value.slice a' n' c']:=by
   unfold blk at hx
   unfold World.cell? at hcj
   rw[hx] at hcj
   simp at hcj
   exact List.mem_of_getElem? hcj
  simp at hm
 have hlt:g<W.heap.size:=by
  unfold World.cell? at hcj
  by_cases hlt:g<W.heap.size
  ·exact hlt
  ·rw[Array.getElem?_eq_none (by show _≤g;omega)] at hcj
   cases hcj
 unfold World.cell? at hcj ⊢
 rw[hV g hg hlt]
 exact hcj
theorem below_both (h:Below w0.heap.size w0 W) {x:Nat} {L:List Value} {T:TypeId} (hx:blk w0 x L T) (v:Value):Below (w0.setCell ⟨x,0,none⟩ v).heap.size (w0.setCell ⟨x,0,none⟩ v) (W.setCell ⟨x,0,none⟩ v):=by
 have hz:(w0.setCell ⟨x,0,none⟩ v).heap.size=w0.heap.size:=by simp
 have hz2:(W.setCell ⟨x,0,none⟩ v).heap.size=W.heap.size:=by simp
 have h1:Below x w0 (w0.setCell ⟨x,0,none⟩ v):=(bW _ _).setCell (by exact nR _) _
 have h2:Below x W (W.setCell ⟨x,0,none⟩ v):=(bW _ _).setCell (by exact nR _) _
 refine⟨(h2.os.trans h.os).trans h1.os.symm,(h2.tape.trans h.tape).trans h1.tape.symm,(h2.output.trans h.output).trans h1.output.symm,by rw[hz,hz2];exact h.size,fun k hk=>?_⟩
 rw[hz] at hk
 by_cases e:k=x
 ·subst e;have q1:blk (w0.setCell ⟨k,0,none⟩ v) k (L.set 0 v) T:=hx.set 0 v
  have q2:blk (W.setCell ⟨k,0,none⟩ v) k (L.set 0 v) T:=(hx.below h).set 0 v
  unfold blk at q1 q2
  rw[q1,q2]
 ·rw[heap_setCell_other _ _ _ _ (by exact e),heap_setCell_other _ _ _ _ (by exact e)]
  exact h.block k hk
theorem lh.ev (h:lh w0 G H f1 f3 hs nm D W) {x:Nat} {a':Option Addr} {n' c':Nat} {T:TypeId} (hx:blk w0 x [sL a' n' c'] T) (v:Value):lh (w0.setCell ⟨x,0,none⟩ v) G H f1 f3 hs nm D (W.setCell ⟨x,0,none⟩ v):=by
 obtain⟨l1,l2,l3⟩:=h.d.lo
 obtain⟨d1,d2,d3⟩:=h.d.g
 have hxl:=hx.lt
 have he:∀ q,q≠x→(W.setCell ⟨x,0,none⟩ v).heap[q]?=W.heap[q]?:=fun q hq=>heap_setCell_other _ _ _ _ (by exact hq)
 have hz:(w0.setCell ⟨x,0,none⟩ v).heap.size=w0.heap.size:=by simp
 have hz2:(W.setCell ⟨x,0,none⟩ v).heap.size=W.heap.size:=by simp
 have hb:=below_both h.b hx v
 have hby:∀ {a:Option Addr} {n cap:Nat} {l:List Nat},iB w0 a n cap l→iB (w0.setCell ⟨x,0,none⟩ v) a n cap l:=fun hh=>hh.farE hx (fun q h1 _=>heap_setCell_other _ _ _ _ (by exact h1))
 refine⟨h.p.kept (he _ (by omega)),h.f.same (he _ (by omega)),⟨h.x.len,h.x.row.up (he _ (by omega)),fun j hj=>rangeAt.up (h.x.rng j hj) (he _ (by omega)),fun j hj hk=>hby (h.x.old j hj hk),fun j hj hk=>absurd hk (nN _),h.x.dst,by rw[hz];exact h.x.lo,by rw[hz2];exact h.x.hi,hb,h.x.sm⟩,fun i hi=>?_,h.rz.up (he _ (by omega)),fun i hi=>?_,h.qz.up (he _ (by omega)),?_,hb,by rw[hz2];exact h.hi,⟨h.d.p,h.d.m,h.d.g,by rw[hz];exact h.d.lo⟩,h.bd⟩
 ·obtain⟨ao,m,c,h1,h2⟩:=h.r i hi
  exact⟨ao,m,c,rangeAt.up h1 (he _ (by omega)),hby h2⟩
 ·obtain⟨ao,m,c,h1,h2⟩:=h.q i hi
  exact⟨ao,m,c,rangeAt.up h1 (he _ (by omega)),hby h2⟩
 ·obtain⟨es,clock,q1,q2⟩:=h.m
  exact⟨es,clock,(he _ (by omega)).trans q1,q2⟩
structure evQ (B C:Nat) (q:List R8) (a:Option Addr) (c:Nat) (he:Nat→Hd) (W:World):Prop where
 sx:sx8 W a q.length c he
 is:isR8s W a q.length c q
 d:dst he q.length
 i:inn B C a q.length he
theorem evQ.same (h:evQ B C q a c he W) (hV:∀ x,B≤x→x<C→V.heap[x]?=W.heap[x]?):evQ B C q a c he V:=
 ⟨h.sx.same (fun x hx=>hV x (h.i x hx).1 (h.i x hx).2),h.is.same h.sx (fun x hx=>hV x (h.i x hx).1 (h.i x hx).2),h.d,h.i⟩
theorem evQ.mono {B' C':Nat} (h:evQ B C q a c he W) (hB:B'≤B) (hC:C≤C'):evQ B' C' q a c he W:=
 ⟨h.sx,h.is,h.d,fun x hx=>⟨nT hB (h.i x hx).1,nL (h.i x hx).2 hC⟩⟩
theorem dx8.evQ {b0:World} {U:Nat} (h:dx8 b0 U a q.length c q he q.length W) (hg:∀ g,a=some ⟨g,0,none⟩→B≤g∧g<U) (hU:B≤U):evQ B W.heap.size q a c he W:=by
 obtain⟨q1,q2,q3,q4⟩:=h.sx (fun g e=>(hg g e).2)
 refine⟨q1,q2,q3,fun x hx=>?_⟩
 rcases hx with e|⟨j,hj,e⟩
 ·exact⟨(hg x e).1,h.hi x e⟩
 ·have:=q4 j hj x e
  omega
theorem lit67 (h:lh w0 G H f1 f3 hs nm D w) (Ev:Nat) (hev:blk w0 Ev [sL none 0 0] 37) :
  Calls Tp 64 #[pT (some ⟨G.P,0,none⟩),pT (some ⟨Ev,0,none⟩)] w fun e w'=>e = rT (.tuple #[])∧∃ a c he f3',evQ w0.heap.size w'.heap.size H.qu a c he w'∧lh (w0.setCell ⟨Ev,0,none⟩ (sL a H.qu.length c)) G (qHo H []) f1 f3' hs nm D w':=by
 have HS:Hid (Calls Tp 65 #[pT (some ⟨G.P,0,none⟩)] w fun e w'=>∃ a c he f3',e = rT (sL a H.qu.length c)∧evQ w0.heap.size w'.heap.size H.qu a c he w'∧lh w0 G (qHo H []) f1 f3' hs nm D w'):=by
  refine (drain_any h).mono ?_
  rintro e w' ⟨a,c,he,U,rfl,h1,h2,h3,f3',h4⟩;have hz:=h.b.size
  exact⟨a,c,he,f3',rfl,h1.evQ (fun g e=>⟨nT hz (h2 g e).1,(h2 g e).2⟩) (nT hz h3),h4⟩
 have HEV:Hid (blk w0 Ev [sL none 0 0] 37):=hev
 have HEL:Hid (Ev<w0.heap.size):=hev.lt
 clear h hev;go_enter Tryz.func64,Tryz.ntmps64
 go_wp2_with (first | (go_at_call 65;refine HS.out.mono ?_;rintro o w5 ⟨a,c,he,f3',rfl,hq,hl⟩;have HQ:Hid (evQ w0.heap.size w5.heap.size H.qu a c he w5):=hq;have HL:Hid (lh w0 G (qHo H []) f1 f3' hs nm D w5):=hl;have xE:=(HEV.out.below hl.b).cell 0 _ rfl;have zE:=(HEV.out.below hl.b).free 0;clear hq hl))
 first | go_end0 | (try simp only[Exit.inBlock,Exit.then]);refine bN ?_
 have hz2:(w5.setCell ⟨Ev,0,none⟩ (sL a H.qu.length c)).heap.size=w5.heap.size:=by simp
 refine⟨rfl,a,c,he,f3',?_,HL.out.ev HEV.out _⟩
 rw[hz2]
 exact HQ.out.same (fun x h1 _=>heap_setCell_other _ _ _ _ (by show x≠Ev;have:=HEL.out;omega))
theorem open_drain (w:World) (H:Ho) (s:Sl) (Ev:Nat) (h:isHo w H s) (hs:slSome s) (hok:okHo H) (hm:H.le 1048576) (hev:blk w Ev [sL none 0 0] 37) :
  Calls Tp 123 #[aG (hoL H s).toArray] w fun o w'=>∃ Pp,o = rT (pT (some ⟨Pp,0,none⟩))∧Calls Tp 64 #[pT (some ⟨Pp,0,none⟩),pT (some ⟨Ev,0,none⟩)] w' fun o w2=>o = rT (.tuple #[])∧∃ a c he,evQ w.heap.size w2.heap.size H.qu a c he w2∧Below (w.setCell ⟨Ev,0,none⟩ (sL a H.qu.length c)).heap.size (w.setCell ⟨Ev,0,none⟩ (sL a H.qu.length c)) w2∧Calls Tp 124 #[pT (some ⟨Pp,0,none⟩)] w2 (toldQ w2 (qHo H [])):=by
 refine (open_lh w H s h hs hok hm).mono ?_
 rintro o w' ⟨G,hd,rfl,hl,hn⟩;refine⟨G.P,rfl,(lit67 hl Ev hev).mono ?_⟩
 rintro o w2 ⟨rfl,a,c,he,f3',h1,h2⟩;exact⟨rfl,a,c,he,h1,h2.b,h2.told⟩
def drC (w:World) (Ev:Nat) (T:Ho) (q:List R8) (o:Ending) (w':World):Prop:=∃ (s:Wh) (a:Option Addr) (c:Nat) (he:Nat→Hd) (C:Nat),o = rT (aG (hoL T s.sl).toArray)∧w.heap.size≤C∧St C w' (fun W=>isHo W T s.sl)∧whS C w'.heap.size w' s∧whD s∧whE s∧evQ w.heap.size C q a c he w'∧Below Ev w w'∧blk w' Ev [sL a q.length c] 37∧(∀ x,x≠Ev→x<w.heap.size→w'.heap[x]?=w.heap[x]?)
theorem changed67 (w:World) (H:Ho) (s:Sl) (Ev:Nat) (h:isHo w H s) (hs:slSome s) (hn:H.le 1048576) (hev:blk w Ev [sL none 0 0] 37) :
  Calls Tp 63 #[aG (hoL H s).toArray,.func (.func 64) #[] #[pT (some ⟨Ev,0,none⟩)]] w fun o w'=>(okHo H∧drC w Ev (qHo H []) H.qu o w')∨(¬ okHo H∧o = rT (aG zX.toArray)∧Below w.heap.size w w'):=by
 have H0:Hid (dtS w H s ((w.alloc (.cells (hoL H s).toArray 39)).alloc (.cells zX.toArray 39))):=dtS.new w H s
 have HEV:Hid (blk w Ev [sL none 0 0] 37):=hev
 have HEL:Hid (Ev<w.heap.size):=hev.lt
 clear hev;by_cases hok:okHo H
 ·have HV:Hid (∀ W,Below w.heap.size w W→Calls Tp 122 #[aG (hoL H s).toArray] W fun o w'=>o = rT (bO true)∧Below W.heap.size W w'):=fun W hW=>vOk W H s (h.below hW) hn hok
  have HO:Hid (∀ W,Below w.heap.size w W→Calls Tp 123 #[aG (hoL H s).toArray] W fun o w'=>∃ Pp,o = rT (pT (some ⟨Pp,0,none⟩))∧Calls Tp 64 #[pT (some ⟨Pp,0,none⟩),pT (some ⟨Ev,0,none⟩)] w' fun o w2=>o = rT (.tuple #[])∧∃ a c he,evQ W.heap.size w2.heap.size H.qu a c he w2∧Below (W.setCell ⟨Ev,0,none⟩ (sL a H.qu.length c)).heap.size (W.setCell ⟨Ev,0,none⟩ (sL a H.qu.length c)) w2∧Calls Tp 124 #[pT (some ⟨Pp,0,none⟩)] w2 (toldQ w2 (qHo H []))):=fun W hW=>open_drain W H s Ev (h.below hW) hs hok hn (HEV.out.below hW)
  have HOK:Hid (okHo H):=hok
  clear h hn hok hs;go_enter Tryz.func63,Tryz.ntmps63
  go_wp2_with (first
   | (refine lq39 H0.out.p.load ?_))
  refine (HV.out _ H0.out.b).mono ?_
  rintro o w1 ⟨rfl,hb1⟩;have H1:Hid (dtS w H s w1):=H0.out.below hb1
  clear H0 hb1;go_wp2_with (first
   | (refine lq39 H1.out.p.load ?_))
  refine (HO.out _ H1.out.b).mono ?_
  rintro o w2 ⟨Pp,rfl,hc2⟩;have HC2:Hid (Calls Tp 64 #[pT (some ⟨Pp,0,none⟩),pT (some ⟨Ev,0,none⟩)] w2 fun o w3=>o = rT (.tuple #[])∧∃ a c he,evQ w1.heap.size w3.heap.size H.qu a c he w3∧Below (w1.setCell ⟨Ev,0,none⟩ (sL a H.qu.length c)).heap.size (w1.setCell ⟨Ev,0,none⟩ (sL a H.qu.length c)) w3∧Calls Tp 124 #[pT (some ⟨Pp,0,none⟩)] w3 (toldQ w3 (qHo H []))):=hc2
  clear hc2;go_wp2_with fail;refine (Calls.mono HC2.out) ?_
  rintro o w3 ⟨rfl,a,c,he,hq3,hb3,hc3⟩;have hzs:(w1.setCell ⟨Ev,0,none⟩ (sL a H.qu.length c)).heap.size=w1.heap.size:=by simp
  rw[hzs] at hb3
  have HX3:Hid (∀ x,x≠Ev→x<w1.heap.size→w3.heap[x]?=w1.heap[x]?):=fun x h1 h2=>(hb3.block x h2).trans (heap_setCell_other _ _ _ _ (by exact h1))
  have HE3:Hid (blk w3 Ev [sL a H.qu.length c] 37):=by
   have hw1:=H1.out.b.size
   have hel:=HEL.out
   exact ((HEV.out.below H1.out.b).set 0 (sL a H.qu.length c)).kept (hb3.block Ev (by omega))
  have HB3:Hid (Below Ev w w3):=by
   have hel:=HEL.out
   have hw1:=H1.out.b.size
   exact ((H1.out.b.mono (by omega)).trans ((bW Ev w1).setCell (by exact nR _) _)).trans (hb3.mono (by omega))
  have HQ3:Hid (evQ w1.heap.size w3.heap.size H.qu a c he w3):=hq3
  have HZ3:Hid (w1.heap.size≤w3.heap.size):=by have:=hb3.size;show _≤_;omega
  have HR3:Hid (blk w3 (w.heap.size+1) Z10 39):=H1.out.r.kept (HX3.out _ (by have:=HEL.out;omega) H1.out.r.lt)
  have HC3:Hid (Calls Tp 124 #[pT (some ⟨Pp,0,none⟩)] w3 (toldQ w3 (qHo H []))):=hc3
  clear hc3 hb3 hq3 hzs HC2 HO;go_wp2_with fail;refine (Calls.mono HC3.out) ?_
  rintro o w4 ⟨s4,rfl,q1,q2,q3,q4,hb4⟩;have HB4:Hid (Below w3.heap.size w3 w4):=hb4
  have HR4:Hid (blk w4 (w.heap.size+1) Z10 39):=HR3.out.below hb4
  have HQ:Hid (St w3.heap.size w4 (fun W=>isHo W (qHo H []) s4.sl)∧whS w3.heap.size w4.heap.size w4 s4∧whD s4∧whE s4):=⟨q1,q2,q3,q4⟩
  clear q1 q2 q3 q4 hb4 HC3;go_wp2_with (first
   | (refine sq39 HR4.out ?_;generalize hW8:World.setCells _ (w.heap.size+1) 0 _=w8;have HW8:Hid (_=w8):=hW8;clear hW8))
  have e8:=HW8.out
  have hF:blk w8 (w.heap.size+1) (hoL (qHo H []) s4.sl) 39:=by
   rw[← e8]
   have:=blk.put [] Z10 [] (hoL (qHo H []) s4.sl) (w:=w4) (b:=w.heap.size+1) (T:=39) (by simpa using HR4.out) (by rw[hoL_len];rfl)
   rw[List.nil_append,List.append_nil] at this
   exact this
  have hL:=rq39 hF
  refine bC Tryz.results63 hL ?_
  have oth:∀ x,x≠w.heap.size+1→w8.heap[x]?=w4.heap[x]?:=fun x hx=>by rw[← e8];exact sO _ x hx _ _ _
  have hsz:w8.heap.size=w4.heap.size:=by rw[← e8];exact sZ ..
  have hp:=toldQ.put (w:=w3) (nR _) HR3.out.lt HQ.out.1 HQ.out.2.1 oth hsz
  have hel:=HEL.out
  have hw1:=H1.out.b.size
  have hw1r:=H1.out.r.lt
  have hw3:=HZ3.out
  refine Or.inl ⟨HOK.out,s4,a,c,he,w3.heap.size,rfl,by omega,hp.1,hp.2,HQ.out.2.2.1,HQ.out.2.2.2,(HQ3.out.same (fun x h1 h2=>?_)).mono hw1 (nR _),?_,(HE3.out.below HB4.out).kept (oth _ (by omega)),fun x h1 h2=>?_⟩
  ·rw[oth x (by omega)]
   exact HB4.out.block x h2
  ·rw[← e8]
   exact sW (by omega) 0 _ (HB3.out.trans (HB4.out.mono (by omega)))
  ·rw[oth x (by omega),HB4.out.block x (by omega),HX3.out x h1 (by omega)]
   exact H1.out.b.block x h2
 ·have HV:Hid (∀ W,Below w.heap.size w W→Calls Tp 122 #[aG (hoL H s).toArray] W fun o w'=>o = rT (bO false)∧Below W.heap.size W w'):=fun W hW=>vBad W H s (h.below hW) hn hok
  have HOK:Hid (¬ okHo H):=hok
  clear h hn hok hs;go_enter Tryz.func63,Tryz.ntmps63
  go_wp2_with (first
   | (refine lq39 H0.out.p.load ?_))
  refine (HV.out _ H0.out.b).mono ?_
  rintro o w1 ⟨rfl,hb1⟩;have H1:Hid (dtS w H s w1):=H0.out.below hb1
  clear H0 hb1;go_wp2_with (first
   | (refine wpList_store_mid (P:=Tp) rfl 39 _ _ rfl (w.heap.size+1) 0 zX.toArray rfl rfl (H1.out.r.there 0 10 (by simp[Z10])) sz41 (all_oneCell_toArray (by simp[Value.oneCell'])) ?_;generalize hW8:World.setCells _ (w.heap.size+1) 0 _=w8;have HW8:Hid (_=w8):=hW8;clear hW8))
  have e8:=HW8.out
  have hF:blk w8 (w.heap.size+1) zX 39:=by
   rw[← e8]
   have:=blk.put [] Z10 [] zX (w:=w1) (b:=w.heap.size+1) (T:=39) (by simpa using H1.out.r) rfl
   simpa using this
  have hL:=run_loadVar_mid (P:=Tp) w8 (w.heap.size+1) 0 39 _ _ hF.load Tryz.underlying39 rfl sz41
  refine bC Tryz.results63 hL ?_
  exact Or.inr ⟨HOK.out,rfl,by rw[← e8];exact sW (by omega) 0 _ H1.out.b⟩
structure dvS (w:World) (H:Ho) (s:Sl) (W:World):Prop where
 p:blk W w.heap.size (hoL H s) 39
 r:blk W (w.heap.size+1) Z10 39
 e:blk W (w.heap.size+1+1) [sL none 0 0] 37
 b:Below w.heap.size w W
theorem dvS.new (w:World) (H:Ho) (s:Sl):dvS w H s (((w.alloc (.cells (hoL H s).toArray 39)).alloc (.cells zX.toArray 39)).alloc (.cells #[sL none 0 0] 37)):=by
 refine⟨((blk.new w _ 39).alloc _).alloc _,?_,?_,(((bW _ _).alloc (nR _) _).alloc (by simp) _).alloc (by simp;omega) _⟩
 ·have:=(blk.new (w.alloc (.cells (hoL H s).toArray 39)) zX 39).alloc (.cells #[sL none 0 0] 37)
  have e:(w.alloc (.cells (hoL H s).toArray 39)).heap.size=w.heap.size+1:=by simp
  rw[e] at this
  exact this
 ·have:=blk.new ((w.alloc (.cells (hoL H s).toArray 39)).alloc (.cells zX.toArray 39)) [sL none 0 0] 37
  have e:((w.alloc (.cells (hoL H s).toArray 39)).alloc (.cells zX.toArray 39)).heap.size=w.heap.size+1+1:=by simp
  rw[e] at this
  exact this
def drD (w:World) (T:Ho) (q:List R8) (o:Ending) (w':World):Prop:=∃ (s:Wh) (a:Option Addr) (c:Nat) (he:Nat→Hd) (C:Nat),o = rT (.tuple #[aG (hoL T s.sl).toArray,sL a q.length c])∧w.heap.size≤C∧C≤w'.heap.size∧St C w' (fun W=>isHo W T s.sl)∧whS C w'.heap.size w' s∧whD s∧whE s∧evQ w.heap.size C q a c he w'∧Below w.heap.size w w'
theorem implDrain_any (w:World) (H:Ho) (s:Sl) (h:isHo w H s) (hs:slSome s) (hn:H.le 1048576) :
  Calls Tp 28 #[aG (hoL H s).toArray] w fun o w'=>(okHo H∧drD w (qHo H []) H.qu o w')∨(¬ okHo H∧o = rT (.tuple #[aG zX.toArray,sL none 0 0])∧Below w.heap.size w w'):=by
 have H0:Hid (dvS w H s (((w.alloc (.cells (hoL H s).toArray 39)).alloc (.cells zX.toArray 39)).alloc (.cells #[sL none 0 0] 37))):=dvS.new w H s
 have HC:Hid (∀ W,dvS w H s W→Calls Tp 63 #[aG (hoL H s).toArray,.func (.func 64) #[] #[pT (some ⟨w.heap.size+1+1,0,none⟩)]] W fun o w'=>(okHo H∧drC W (w.heap.size+1+1) (qHo H []) H.qu o w')∨(¬ okHo H∧o = rT (aG zX.toArray)∧Below W.heap.size W w')):=fun W hW=>changed67 W H s (w.heap.size+1+1) (h.below hW.b) hs hn hW.e
 have hmf:∀ (fn:Fn) (first cap:Array Value) (w:World),(Instr.makeFunc fn first cap).run Tp w = .ok (.func fn first cap) w:=fun _ _ _ _=>rfl
 have HZA:Hid ((((w.alloc (.cells (hoL H s).toArray 39)).alloc (.cells zX.toArray 39)).alloc (.cells #[sL none 0 0] 37)).heap.size=w.heap.size+1+1+1):=by show _=_;simp
 clear h hn hs;go_enter Tryz.func28,Tryz.ntmps28
 go_wp2_with (first
  | (refine lq39 H0.out.p.load ?_))
 refine (HC.out _ H0.out).mono ?_
 rintro o w1 (⟨hok,s4,a,c,he,C,rfl,hC,q1,q2,q3,q4,q5,hb4,hE,hx⟩|⟨hok,rfl,hb4⟩)
 ·have HOK:Hid (okHo H):=hok
  have HE1:Hid (blk w1 (w.heap.size+1+1) [sL a H.qu.length c] 37):=hE
  have HR1:Hid (blk w1 (w.heap.size+1) Z10 39):=H0.out.r.kept (hx _ (by omega) H0.out.r.lt)
  have HQ:Hid (w.heap.size+1+1+1≤C∧C≤w1.heap.size∧St C w1 (fun W=>isHo W (qHo H []) s4.sl)∧whS C w1.heap.size w1 s4∧whD s4∧whE s4∧evQ (w.heap.size+1+1+1) C H.qu a c he w1):=⟨by have:=HZA.out;show _≤C;omega,by have:=q2.fb;omega,q1,q2,q3,q4,q5.mono (by rw[HZA.out];exact nR _) (nR _)⟩
  have HB1:Hid (Below w.heap.size w w1):=H0.out.b.trans (hb4.mono (by omega))
  clear hok hC q1 q2 q3 q4 q5 hb4 hE hx HC H0 HZA;have HN1a:Hid (blk (World.setCells (w1.alloc (.cells zX.toArray 39)) w1.heap.size 0 (hoL (qHo H []) s4.sl)) w1.heap.size (hoL (qHo H []) s4.sl) 39∧Below w1.heap.size w1 (World.setCells (w1.alloc (.cells zX.toArray 39)) w1.heap.size 0 (hoL (qHo H []) s4.sl))):=new_hostS _ (hoL_len _ _)
  have HN1b:Hid (blk (w1.alloc (.cells zX.toArray 39)) w1.heap.size zX 39):=blk.new w1 _ 39
  go_wp2_with (first
   | (refine sq39 HN1b.out ?_;generalize hW6:World.setCells (w1.alloc _) w1.heap.size 0 _=w6;have HX6:Hid (blk w6 w1.heap.size (hoL (qHo H []) s4.sl) 39∧Below w1.heap.size w1 w6):=(by rw[← hW6];exact HN1a.out);clear hW6))
  clear HN1a HN1b;refine wp_region_held (S:=fun X=>blk X w1.heap.size (hoL (qHo H []) s4.sl) 39∧blk X (w.heap.size+1+1) [sL a H.qu.length c] 37) (by kernel_rfl) ?_
  have hbd:Below w6.heap.size w6 (World.drew w6):=(bW _ _).drew
  have HX7:Hid (blk (World.drew w6) w1.heap.size (hoL (qHo H []) s4.sl) 39∧Below w1.heap.size w1 (World.drew w6)):=⟨HX6.out.1.below hbd,HX6.out.2.trans (hbd.mono HX6.out.2.size)⟩
  clear hbd HX6;change wpAnyH Tp _ _ _ _ _ _ _ (World.drew w6)
  generalize World.drew w6=w7 at *;have HE7:Hid (blk w7 (w.heap.size+1+1) [sL a H.qu.length c] 37):=HE1.out.below HX7.out.2
  have HR7:Hid (blk w7 (w.heap.size+1) Z10 39):=HR1.out.below HX7.out.2
  have hS:blk w7 w1.heap.size (hoL (qHo H []) s4.sl) 39∧blk w7 (w.heap.size+1+1) [sL a H.qu.length c] 37:=⟨HX7.out.1,HE7.out⟩
  have HRL:Hid (w.heap.size+1<w1.heap.size):=HR1.out.lt
  refine wU 0 (aG (hoL (qHo H []) s4.sl).toArray) rfl (yieldsIf_load_mid (by rfl) 39 _ rfl w1.heap.size 0 rfl (hoL (qHo H []) s4.sl) _ (fun X h=>h.1.load) Tryz.underlying39 rfl (sz41L _ _)) hS ?_
  simp only[Act.put,aA,aB,aC,aD,aE]
  refine tk 1 ?_ (hy:=fun W hSw=>by (have xE:=hSw.2.cell 0 _ rfl;go_simp;try rfl))
  refine al 2 fun K2 hK2=>?_
  rw[if_pos (by rfl)]
  refine wp_store_mid 39 _ _ rfl (w.heap.size+1) 0 (hoL (qHo H []) s4.sl).toArray rfl rfl (HR7.out.there 0 _ (by rw[List.size_toArray,hoL_len];decide)) (sz41A _ _) (hoL_one _ _) ?_
  have hS5:blk (w7.setCells (w.heap.size+1) 0 (hoL (qHo H []) s4.sl)) w1.heap.size (hoL (qHo H []) s4.sl) 39∧blk (w7.setCells (w.heap.size+1) 0 (hoL (qHo H []) s4.sl)) (w.heap.size+1+1) [sL a H.qu.length c] 37:=⟨hS.1.other (by have:=HRL.out;omega) _ _,hS.2.other (by omega) _ _⟩
  refine hK2.out _ _ hS5 (fun hS2=>?_)
  clear hK2 K2 hS hS5;have hS:=hS2
  clear hS2;refine al 3 fun K2 hK2=>?_
  go_simp;refine hK2.out _ _ hS (fun hS2=>?_)
  clear hK2 K2 hS hS2;refine wpAnyH_done (by kernel_rfl) ?_ _
  generalize hW8:World.setCells w7 (w.heap.size+1) 0 (hoL (qHo H []) s4.sl)=w8
  have HW8:Hid (World.setCells w7 (w.heap.size+1) 0 (hoL (qHo H []) s4.sl)=w8):=hW8
  clear hW8;go_wp2_with fail;have e8:=HW8.out
  have hF:blk w8 (w.heap.size+1) (hoL (qHo H []) s4.sl) 39:=by
   rw[← e8]
   have:=blk.put [] Z10 [] (hoL (qHo H []) s4.sl) (w:=w7) (b:=w.heap.size+1) (T:=39) (by simpa using HR7.out) (by rw[hoL_len];rfl)
   rw[List.nil_append,List.append_nil] at this
   exact this
  have hL:=rq39 hF
  refine bodyPost_ret (results_cell_tmp Tryz.results28 _ w8 (w.heap.size+1) _ rfl hL) rfl ?_
  have oth:∀ x,x≠w.heap.size+1→w8.heap[x]?=w7.heap[x]?:=fun x hx=>by rw[← e8];exact sO _ x hx _ _ _
  have hsz:w8.heap.size=w7.heap.size:=by rw[← e8];exact sZ ..
  obtain⟨hc1,hc2,q1,q2,q3,q4,q5⟩:=HQ.out
  have hb7:=HX7.out.2
  have hz7:=hb7.size
  have he7:∀ x,C≤x→x<w1.heap.size→w8.heap[x]?=w1.heap[x]?:=fun x h1 h2=>(oth x (by omega)).trans (hb7.block x h2)
  refine Or.inl ⟨HOK.out,s4,a,c,he,C,rfl,by omega,by omega,fun V hV=>q1 V (fun x h1 h2=>(hV x h1 (by omega)).trans (he7 x h1 h2)),(q2.same he7).mono (nR _) (by omega),q3,q4,(q5.same (fun x h1 h2=>?_)).mono (by omega) (nR _),by rw[← e8];exact sW (by omega) 0 _ (HB1.out.trans (hb7.mono HB1.out.size))⟩
  exact (oth x (by omega)).trans (hb7.block x (by omega))
 ·have HOK:Hid (¬ okHo H):=hok
  have HE1:Hid (blk w1 (w.heap.size+1+1) [sL none 0 0] 37):=H0.out.e.below hb4
  have HR1:Hid (blk w1 (w.heap.size+1) Z10 39):=H0.out.r.below hb4
  have HB1:Hid (Below w.heap.size w w1):=H0.out.b.trans (hb4.mono H0.out.b.size)
  clear hok hb4 HC H0;have HN1a:Hid (blk (World.setCells (w1.alloc (.cells zX.toArray 39)) w1.heap.size 0 zX) w1.heap.size zX 39∧Below w1.heap.size w1 (World.setCells (w1.alloc (.cells zX.toArray 39)) w1.heap.size 0 zX)):=new_hostS _ (rfl)
  have HN1b:Hid (blk (w1.alloc (.cells zX.toArray 39)) w1.heap.size zX 39):=blk.new w1 _ 39
  go_wp2_with (first
   | (refine wpList_store_mid (P:=Tp) rfl 39 _ _ rfl w1.heap.size 0 zX.toArray rfl rfl (HN1b.out.there 0 _ (by simp)) sz41 (all_oneCell_toArray (by simp[Value.oneCell'])) ?_;generalize hW6:World.setCells (w1.alloc _) w1.heap.size 0 _=w6;have HX6:Hid (blk w6 w1.heap.size zX 39∧Below w1.heap.size w1 w6):=(by rw[← hW6];exact HN1a.out);clear hW6))
  clear HN1a HN1b;refine wp_region_held (S:=fun X=>blk X w1.heap.size zX 39∧blk X (w.heap.size+1+1) [sL none 0 0] 37) (by kernel_rfl) ?_
  have hbd:Below w6.heap.size w6 (World.drew w6):=(bW _ _).drew
  have HX7:Hid (blk (World.drew w6) w1.heap.size zX 39∧Below w1.heap.size w1 (World.drew w6)):=⟨HX6.out.1.below hbd,HX6.out.2.trans (hbd.mono HX6.out.2.size)⟩
  clear hbd HX6;change wpAnyH Tp _ _ _ _ _ _ _ (World.drew w6)
  generalize World.drew w6=w7 at *;have HE7:Hid (blk w7 (w.heap.size+1+1) [sL none 0 0] 37):=HE1.out.below HX7.out.2
  have HR7:Hid (blk w7 (w.heap.size+1) Z10 39):=HR1.out.below HX7.out.2
  have hS:blk w7 w1.heap.size zX 39∧blk w7 (w.heap.size+1+1) [sL none 0 0] 37:=⟨HX7.out.1,HE7.out⟩
  have HRL:Hid (w.heap.size+1<w1.heap.size):=HR1.out.lt
  refine wU 0 (aG zX.toArray) rfl (yieldsIf_load_mid (by rfl) 39 _ rfl w1.heap.size 0 rfl zX _ (fun X h=>h.1.load) Tryz.underlying39 rfl sz41) hS ?_
  simp only[Act.put,aA,aB,aC,aD,aE]
  refine tk 1 ?_ (hy:=fun W hSw=>by (have xE:=hSw.2.cell 0 _ rfl;go_simp;try rfl))
  refine al 2 fun K2 hK2=>?_
  rw[if_pos (by rfl)]
  refine wp_store_mid 39 _ _ rfl (w.heap.size+1) 0 zX.toArray rfl rfl (HR7.out.there 0 _ (by simp[Z10])) sz41 (all_oneCell_toArray (by simp[Value.oneCell'])) ?_
  have hS5:blk (w7.setCells (w.heap.size+1) 0 zX) w1.heap.size zX 39∧blk (w7.setCells (w.heap.size+1) 0 zX) (w.heap.size+1+1) [sL none 0 0] 37:=⟨hS.1.other (by have:=HRL.out;omega) _ _,hS.2.other (by omega) _ _⟩
  refine hK2.out _ _ hS5 (fun hS2=>?_)
  clear hK2 K2 hS hS5;have hS:=hS2
  clear hS2;refine al 3 fun K2 hK2=>?_
  go_simp;refine hK2.out _ _ hS (fun hS2=>?_)
  clear hK2 K2 hS hS2;refine wpAnyH_done (by kernel_rfl) ?_ _
  generalize hW8:World.setCells w7 (w.heap.size+1) 0 zX=w8
  have HW8:Hid (World.setCells w7 (w.heap.size+1) 0 zX=w8):=hW8
  clear hW8;go_wp2_with fail;have e8:=HW8.out
  have hF:blk w8 (w.heap.size+1) zX 39:=by
   rw[← e8]
   have:=blk.put [] Z10 [] zX (w:=w7) (b:=w.heap.size+1) (T:=39) (by simpa using HR7.out) (rfl)
   rw[List.nil_append,List.append_nil] at this
   exact this
  have hL:=run_loadVar_mid (P:=Tp) w8 (w.heap.size+1) 0 39 _ _ hF.load Tryz.underlying39 rfl sz41
  refine bodyPost_ret (results_cell_tmp Tryz.results28 _ w8 (w.heap.size+1) _ rfl hL) rfl ?_
  have oth:∀ x,x≠w.heap.size+1→w8.heap[x]?=w7.heap[x]?:=fun x hx=>by rw[← e8];exact sO _ x hx _ _ _
  have hsz:w8.heap.size=w7.heap.size:=by rw[← e8];exact sZ ..
  exact Or.inr ⟨HOK.out,rfl,by rw[← e8];exact sW (by omega) 0 _ (HB1.out.trans (HX7.out.2.mono HB1.out.size))⟩
theorem okHo.n3 {H:Ho} (h:okHo H):H.ff.length≤1000:=by
 have h1:=of_decide_eq_true h.cf
 have h2:=h.nf
 omega
variable {W V:World} {B T0 T1 T2:Nat} {hs:Nat→Hd} {H:Ho} {s:Sl}
def freeIx (bx:List R8):Nat:=bx.findIdx (fun b=>b.x == 0)
def subHo (H:Ho) (t:Int) (F:R5):Ho:=
 if ¬ (0≤t∧t≤9999) then pH H (ev3 5 0 1)
 else if vB F.e F.i F.r F.d F.l.length=false then pH H (ev3 5 t 2)
 else if tagIx H.bx t<H.bx.length then pH H (ev3 5 t 3)
 else if H.st=1000000 then pH H (ev3 5 t 4)
 else if freeIx H.bx<H.bx.length then { H with bx:=H.bx.set (freeIx H.bx) ⟨1,t,H.st,F.e,F.i,F.r,F.d,F.l⟩,st:=H.st+1 }
 else pH H (ev3 4 t 0)
structure sbS (w:World) (L F:List Value) (W:World):Prop where
 p:blk W w.heap.size L 39
 f:blk W (w.heap.size+1) F 55
 r:blk W (w.heap.size+1+1) Z10 39
theorem sbS.below {w:World} {L F:List Value} {W':World} (h:sbS w L F W) (hb:Below W.heap.size W W'):sbS w L F W':=⟨h.p.below hb,h.f.below hb,h.r.below hb⟩
theorem sbS.new (w:World) (L F:List Value):sbS w L F (((w.alloc (.cells L.toArray 39)).alloc (.cells F.toArray 55)).alloc (.cells Z10.toArray 39)):=by
 refine⟨((blk.new w _ 39).alloc _).alloc _,?_,?_⟩
 ·have:=(blk.new (w.alloc (.cells L.toArray 39)) F 55).alloc (.cells Z10.toArray 39)
  simpa using this
 ·have:=blk.new ((w.alloc (.cells L.toArray 39)).alloc (.cells F.toArray 55)) Z10 39
  have e:((w.alloc (.cells L.toArray 39)).alloc (.cells F.toArray 55)).heap.size=w.heap.size+1+1:=by simp
  rw[e] at this
  exact this
theorem bxR.putIs {T g n k:Nat} {bx:List R8} (h:bxR B T g n k bx hs W) (i:Nat) (hi:i<bx.length) (b:R8) (hd:Hd) (hV:∀ x,x≠g→B≤x→x<T→V.heap[x]?=W.heap[x]?) (hg:V.heap[g]?=(setRow W g (i*8) (x8 (b,hd))).heap[g]?) (hb:iB V hd.1 hd.2.1 hd.2.2 b.l):isR8s V (some ⟨g,0,none⟩) n k (bx.set i b):=by
 have hln:=h.len
 refine⟨by rw[List.length_set];exact h.len,h.cap,fun _=>⟨g,0,rfl,fun j hj=>?_⟩⟩
 have hj':j<bx.length:=by simpa using hj
 by_cases e:j=i
 ·subst e;rw[List.getElem_set_self]
  refine⟨hd.1,hd.2.1,hd.2.2,?_⟩
  rw[Nat.zero_add]
  refine x8_at8 (rangeAt.up ?_ hg) hb
  intro t u hu;have ht:t<(x8 (b,hd)).length:=(List.getElem?_eq_some_iff.mp hu).1
  have ht8:t<8:=by simpa[x8] using ht
  rw[setRow_at g _ _ _ t ht ((h.row (j*8+t) (by omega)).1)]
  rw[List.getElem?_eq_getElem ht] at hu
  exact hu
 ·rw[List.getElem_set_ne (fun x=>e x.symm)]
  refine⟨(hs j).1,(hs j).2.1,(hs j).2.2,?_⟩
  rw[Nat.zero_add]
  refine x8_at8 (rangeAt.up ?_ hg) ?_
  ·intro t u hu;have ht:t<8:=by have:=(List.getElem?_eq_some_iff.mp hu).1;simpa[x8] using this
   rw[rO g _ _ _ _ (by simp[x8];omega)]
   exact h.rng j hj' t u hu
  ·obtain⟨h1,h2⟩:=h.dat j hj'
   rcases h2 with⟨e1,e2⟩|⟨b',e1,e2,e3,e4⟩
   ·exact h1.none0 e2
   ·rw[e1] at h1 ⊢
    exact h1.other (hV b' e4 e2 e3)
theorem spS.isSt (h:spS B T0 T1 T2 H s W):St B W (fun V=>isHo V H s):=fun V hV=>by
 obtain⟨o1,o2,o3,o4⟩:=h.o
 obtain⟨gf,e1,h1a,h1b,h1⟩:=h.f
 obtain⟨gb,hs,e2,h2⟩:=h.x
 obtain⟨gq,e3,h3⟩:=h.r
 obtain⟨g4,e4,h4⟩:=h.q
 refine⟨?_,?_,?_,?_⟩
 ·rw[e1];exact h1.same (hV gf h1a (by omega))
 ·rw[e2];exact (h2.st fun x h1 h2=>hV x (by omega) (by omega)).is
 ·rw[e3];exact (h3.keep fun x h1 h2=>hV x (by omega) (by omega)).is
 ·rw[e4];exact (h4.keep fun x h1 h2=>hV x (by omega) h2).is
abbrev xHo (H:Ho) (bx:List R8) (st:Int):Ho:={ H with bx:=bx,st:=st }
theorem spS.put {gb:Nat} (h:spS B T0 T1 T2 H s W) (e2:s.a2=some ⟨gb,0,none⟩) (hx:bxR T0 T1 gb s.n2 s.k2 H.bx hs W) (i:Nat) (hi:i<H.bx.length) (b:R8) (hd:Hd) (st:Int) (T:Nat) (hT:T2≤T) (hq:∃ g4,s.a4=some ⟨g4,0,none⟩∧rowQ8 T2 T 67 g4 s.n4 s.k4 H.qu W) (hV:∀ x,x≠gb→B≤x→x<T→V.heap[x]?=W.heap[x]?) (hg:V.heap[gb]?=(setRow W gb (i*8) (x8 (b,hd))).heap[gb]?) (hb:iB V hd.1 hd.2.1 hd.2.2 b.l):isHo V (xHo H (H.bx.set i b) st) s:=by
 obtain⟨o1,o2,o3,o4⟩:=h.o
 obtain⟨gf,e1,h1a,h1b,h1⟩:=h.f
 obtain⟨gq,e3,h3⟩:=h.r
 obtain⟨g4,e4,h4⟩:=hq
 have hl:=hx.lo
 have hh:=hx.hi
 refine⟨?_,?_,?_,?_⟩
 ·rw[e1];exact h1.same (hV gf (by omega) (by omega) (by omega))
 ·rw[e2];exact hx.putIs i hi b hd (fun x h1 h2 h3=>hV x h1 (by omega) (by omega)) hg hb
 ·rw[e3];exact (h3.keep fun x h1 h2=>hV x (by omega) (by omega) (by omega)).is
 ·rw[e4];exact (h4.keep fun x h1 h2=>hV x (by omega) (by omega) h2).is
variable {H T:Ho} {q:List R8}
def drRel (H T:Ho) (q:List R8):Prop:=(okHo H∧T=(qHo H [])∧q=H.qu)∨(¬ okHo H∧T=zHo∧q=[])
theorem drRel.yes (h:drRel H T q) (hok:okHo H):T=(qHo H [])∧q=H.qu:=by
 rcases h with⟨_,e⟩|⟨h,_⟩
 ·exact e
 ·exact absurd hok h
theorem drRel.no (h:drRel H T q) (hok:¬ okHo H):T=zHo∧q=[]:=by
 rcases h with⟨h,_⟩|⟨_,e⟩
 ·exact absurd h hok
 ·exact e
theorem specDrain_st (w:World) (H:Ho) (s:Sl) (T:Ho) (q:List R8) (hR:drRel H T q) (h:isHo w H s) (hn:H.le 1048576) :
  Calls Tp 29 #[aG (hoL H s).toArray] w fun o w'=>∃ s2 a c,o = rT (.tuple #[aG (hoL T s2).toArray,sL a q.length c])∧St w.heap.size w' (fun V=>isHo V T s2)∧isR8s w' a q.length c q∧Below w.heap.size w w':=by
 have H0:Hid (dtS w H s ((w.alloc (.cells (hoL H s).toArray 39)).alloc (.cells zX.toArray 39))):=dtS.new w H s
 have HR:Hid (drRel H T q):=hR
 clear hR;by_cases hok:okHo H
 ·have HV:Hid (∀ W,Below w.heap.size w W→Calls Tp 66 #[aG (hoL H s).toArray] W fun o w'=>o = rT (bO true)∧Below W.heap.size W w'):=fun W hW=>okL W H s (h.below hW) hn hok
  have HC:Hid (∀ W,Below w.heap.size w W→Calls Tp 67 #[aG (hoL H s).toArray] W fun o w'=>∃ s',o = rT (aG (hoL H s').toArray)∧St W.heap.size w' (fun V=>isHo V H s')∧Below W.heap.size W w'):=fun W hW=>(copyS W H s (h.below hW) hn).mono (by rintro o w' ⟨s',T0,T1,T2,rfl,h1,_,_,h2⟩;exact⟨s',rfl,fun V hV=>h1.isSt V (fun x h3 h4=>hV x (by omega) h4),h2⟩)
  have HCE:Hid (∀ W,Below w.heap.size w W→Calls Tp 68 #[sL s.a4 s.n4 s.k4] W fun o w'=>∃ g k,o = rT (sL (some ⟨g,0,none⟩) s.n4 k)∧St W.heap.size w' (fun V=>isR8s V (some ⟨g,0,none⟩) s.n4 k H.qu)∧Below W.heap.size W w'):=fun W hW=>(l3copyEvents_any W s.a4 s.n4 s.k4 H.qu (h.below hW).qu (by have:=h.qu.len;have:=hn.qu;omega) hn.qd).mono (by rintro o w' ⟨g,k,rfl,⟨_,_,h1⟩,h2⟩;exact⟨g,k,rfl,h1,h2⟩)
  have HNL:Hid (s.n4=H.qu.length):=h.qu.len
  have HOK:Hid (okHo H):=hok
  clear h hn hok;go_enter Tryz.func29,Tryz.ntmps29
  go_wp2_with (first
   | (refine lq39 H0.out.p.load ?_))
  refine (HV.out _ H0.out.b).mono ?_
  rintro o w1 ⟨rfl,hb1⟩;have H1:Hid (dtS w H s w1):=H0.out.below hb1
  clear H0 hb1 HV;go_wp2_with (first
   | (refine lq39 H1.out.p.load ?_))
  refine (HC.out _ H1.out.b).mono ?_
  rintro o w2 ⟨s2,rfl,hi2,hb2⟩;have H2:Hid (dtS w H s w2):=H1.out.below hb2
  have HI2:Hid (St w1.heap.size w2 (fun V=>isHo V H s2)∧w1.heap.size≤w2.heap.size∧w.heap.size+1<w1.heap.size):=⟨hi2,hb2.size,H1.out.r.lt⟩
  clear H1 hb2 hi2 HC;have HN2a:Hid (blk (World.setCells (w2.alloc (.cells zX.toArray 39)) w2.heap.size 0 (hoL H s2)) w2.heap.size (hoL H s2) 39∧Below w2.heap.size w2 (World.setCells (w2.alloc (.cells zX.toArray 39)) w2.heap.size 0 (hoL H s2))):=new_hostS _ (hoL_len _ _)
  have HN2b:Hid (blk (w2.alloc (.cells zX.toArray 39)) w2.heap.size zX 39):=blk.new w2 _ 39
  go_wp2_with (first
   | (refine sq39 HN2b.out ?_;generalize hW3:World.setCells (w2.alloc _) w2.heap.size 0 _=w3;have HX3:Hid (blk w3 w2.heap.size (hoL H s2) 39∧Below w2.heap.size w2 w3):=(by rw[← hW3];exact HN2a.out);have x7:=(HX3.out.1.alloc (.cells #[] 67)).cell 7 _ (by unfold hoL;rfl);have z7:=(HX3.out.1.alloc (.cells #[] 67)).free 7;clear hW3))
  have HG5:Hid (blk ((w3.alloc (.cells #[] 67)).setCell ⟨w2.heap.size,7,none⟩ (sL (some ⟨w3.heap.size,0,none⟩) 0 0)) w2.heap.size (hoL (qHo H []) (qSl s2 w3.heap.size 0 0)) 39):=(HX3.out.1.alloc (.cells #[] 67)).set 7 _
  have HB5:Hid (Below w2.heap.size w2 ((w3.alloc (.cells #[] 67)).setCell ⟨w2.heap.size,7,none⟩ (sL (some ⟨w3.heap.size,0,none⟩) 0 0))):=(HX3.out.2.alloc HX3.out.2.size (.cells #[] 67)).setCell (by exact nR _) _
  clear HX3 x7 z7 HN2a HN2b;generalize (w3.alloc (.cells #[] 67)).setCell ⟨w2.heap.size,7,none⟩ (sL (some ⟨w3.heap.size,0,none⟩) 0 0)=w5 at *;generalize w3.heap.size=bq at *;refine wp_region_held (S:=fun X=>blk X w.heap.size (hoL H s) 39∧blk X w2.heap.size (hoL (qHo H []) (qSl s2 bq 0 0)) 39) (by kernel_rfl) ?_
  have hbd:Below w5.heap.size w5 (World.drew w5):=(bW _ _).drew
  have HG6:Hid (blk (World.drew w5) w2.heap.size (hoL (qHo H []) (qSl s2 bq 0 0)) 39):=HG5.out.below hbd
  have HB6:Hid (Below w2.heap.size w2 (World.drew w5)):=HB5.out.drew
  clear hbd HG5 HB5;change wpAnyH Tp _ _ _ _ _ _ _ (World.drew w5)
  generalize World.drew w5=w6 at *;have H6:Hid (dtS w H s w6):=H2.out.below HB6.out
  have HI6:Hid (St w1.heap.size w6 (fun V=>isHo V H s2)∧w1.heap.size≤w6.heap.size∧w.heap.size+1<w1.heap.size):=⟨fun V hV=>HI2.out.1 V (fun x h1 h2=>(hV x h1 (nL h2 HB6.out.size)).trans (HB6.out.block x h2)),nT HI2.out.2.1 HB6.out.size,HI2.out.2.2⟩
  have HLT:Hid (w.heap.size+1<w2.heap.size):=H2.out.r.lt
  have hS:blk w6 w.heap.size (hoL H s) 39∧blk w6 w2.heap.size (hoL (qHo H []) (qSl s2 bq 0 0)) 39:=⟨H6.out.p,HG6.out⟩
  clear H2 HI2 HB6 HG6;generalize w2.heap.size=bg at *;refine wU 0 (aG (hoL (qHo H []) (qSl s2 bq 0 0)).toArray) rfl (yieldsIf_load_mid (by rfl) 39 _ rfl bg 0 rfl (hoL (qHo H []) (qSl s2 bq 0 0)) _ (fun X h=>h.2.load) Tryz.underlying39 rfl (sz41L _ _)) hS ?_
  simp only[Act.put,aA,aB,aC,aD,aE]
  refine tk 1 ?_
  refine tk 2 ?_ (hy:=fun W hSw=>by (have x7:=hSw.1.cell 7 _ (by unfold hoL;rfl);go_simp;try rfl))
  refine al 3 fun K2 hK2=>?_
  go_simp;refine (HCE.out w6 H6.out.b).mono ?_
  rintro o w7 ⟨gE,kE,rfl,hE,hb7⟩;have hS5:blk w7 w.heap.size (hoL H s) 39∧blk w7 bg (hoL (qHo H []) (qSl s2 bq 0 0)) 39:=⟨hS.1.below hb7,hS.2.below hb7⟩
  have H7:Hid (dtS w H s w7):=H6.out.below hb7
  have HI7:Hid (St w1.heap.size w7 (fun V=>isHo V H s2)∧w.heap.size+1<w1.heap.size∧w1.heap.size≤w6.heap.size):=⟨fun V hV=>HI6.out.1 V (fun x h1 h2=>(hV x h1 (nL h2 hb7.size)).trans (hb7.block x h2)),HI6.out.2.2,HI6.out.2.1⟩
  have HE7:Hid (St w6.heap.size w7 (fun V=>isR8s V (some ⟨gE,0,none⟩) s.n4 kE H.qu)):=hE
  clear hE hb7 H6 HI6 HCE;go_wp2_with fail;refine hK2.out _ _ hS5 (fun hS2=>?_)
  clear hK2 K2 hS hS5;have hS:=hS2
  clear hS2;refine al 4 fun K2 hK2=>?_
  rw[if_pos (by rfl)]
  refine wp_store_mid 39 _ _ rfl (w.heap.size+1) 0 (hoL (qHo H []) (qSl s2 bq 0 0)).toArray rfl rfl (H7.out.r.there 0 _ (by rw[List.size_toArray,hoL_len];decide)) (sz41A _ _) (hoL_one _ _) ?_
  have hS5:blk (w7.setCells (w.heap.size+1) 0 (hoL (qHo H []) (qSl s2 bq 0 0))) w.heap.size (hoL H s) 39∧blk (w7.setCells (w.heap.size+1) 0 (hoL (qHo H []) (qSl s2 bq 0 0))) bg (hoL (qHo H []) (qSl s2 bq 0 0)) 39:=⟨hS.1.other (by omega) _ _,hS.2.other (by have:=HLT.out;omega) _ _⟩
  refine hK2.out _ _ hS5 (fun hS2=>?_)
  clear hK2 K2 hS hS5;have hS:=hS2
  clear hS2;refine al 5 fun K2 hK2=>?_
  go_simp;refine hK2.out _ _ hS (fun hS2=>?_)
  clear hK2 K2 hS hS2;refine wpAnyH_done (by kernel_rfl) ?_ _
  generalize hW8:World.setCells w7 (w.heap.size+1) 0 (hoL (qHo H []) (qSl s2 bq 0 0))=w8
  have HW8:Hid (World.setCells w7 (w.heap.size+1) 0 (hoL (qHo H []) (qSl s2 bq 0 0))=w8):=hW8
  clear hW8;go_wp2_with fail;have e8:=HW8.out
  have hF:blk w8 (w.heap.size+1) (hoL (qHo H []) (qSl s2 bq 0 0)) 39:=by
   rw[← e8]
   have:=blk.put [] Z10 [] (hoL (qHo H []) (qSl s2 bq 0 0)) (w:=w7) (b:=w.heap.size+1) (T:=39) (by simpa using H7.out.r) (by rw[hoL_len];rfl)
   rw[List.nil_append,List.append_nil] at this
   exact this
  have hL:=rq39 hF
  refine bodyPost_ret (results_cell_tmp Tryz.results29 _ w8 (w.heap.size+1) _ rfl hL) rfl ?_
  obtain⟨eT,eq⟩:=HR.out.yes HOK.out
  subst eT eq;have oth:∀ x,x≠w.heap.size+1→w8.heap[x]?=w7.heap[x]?:=fun x hx=>by rw[← e8];exact sO _ x hx _ _ _
  have hz1:=HI7.out.2.1
  have hz6:=HI7.out.2.2
  have hE:=HE7.out w8 (fun x h1 _=>oth x (by omega))
  rw[HNL.out] at hE
  have hsz:w8.heap.size=w7.heap.size:=by rw[← e8];exact sZ ..
  refine⟨(qSl s2 bq 0 0),some ⟨gE,0,none⟩,kE,?_,fun V hV=>?_,hE,?_⟩
  ·rw[← HNL.out]
   rfl
  ·have hI:=HI7.out.1 V (fun x h1 h2=>(hV x (by omega) (by omega)).trans (oth x (by omega)))
   exact⟨hI.fs,hI.bx,hI.ff,⟨rfl,nR _,fun e=>absurd rfl e⟩⟩
  ·rw[← e8]
   exact sW (by omega) 0 _ H7.out.b
 ·have HV:Hid (∀ W,Below w.heap.size w W→Calls Tp 66 #[aG (hoL H s).toArray] W fun o w'=>o = rT (bO false)∧Below W.heap.size W w'):=fun W hW=>badL W H s (h.below hW) hn hok
  have HOK:Hid (¬ okHo H):=hok
  clear h hn hok;go_enter Tryz.func29,Tryz.ntmps29
  go_wp2_with (first
   | (refine lq39 H0.out.p.load ?_))
  refine (HV.out _ H0.out.b).mono ?_
  rintro o w1 ⟨rfl,hb1⟩;have H1:Hid (dtS w H s w1):=H0.out.below hb1
  clear H0 hb1;have H2:Hid (dtS w H s (w1.alloc (.cells #[] 67))):=H1.out.below ((bW _ _).alloc (nR _) _)
  go_wp2_with (first
   | (refine wpList_store_mid (P:=Tp) rfl 39 _ _ rfl (w.heap.size+1) 0 zX.toArray rfl rfl (H2.out.r.there 0 10 (by simp[Z10])) sz41 (all_oneCell_toArray (by simp[Value.oneCell'])) ?_;generalize hW8:World.setCells _ (w.heap.size+1) 0 _=w8;have HW8:Hid (_=w8):=hW8;clear hW8))
  have e8:=HW8.out
  have hF:blk w8 (w.heap.size+1) zX 39:=by
   rw[← e8]
   have:=blk.put [] Z10 [] zX (w:=w1.alloc (.cells #[] 67)) (b:=w.heap.size+1) (T:=39) (by simpa using H2.out.r) rfl
   rw[List.nil_append,List.append_nil] at this
   exact this
  have hL:=run_loadVar_mid (P:=Tp) w8 (w.heap.size+1) 0 39 _ _ hF.load Tryz.underlying39 rfl sz41
  refine bodyPost_ret (results_cell_tmp Tryz.results29 _ w8 (w.heap.size+1) _ rfl hL) rfl ?_
  obtain⟨eT,eq⟩:=HR.out.no HOK.out
  subst eT eq;refine⟨zSl,some ⟨w1.heap.size,0,none⟩,0,by rw[zHo_L];rfl,fun V _=>zHo_is V,⟨rfl,nR _,fun e=>absurd rfl e⟩,?_⟩
  rw[← e8]
  exact sW (by omega) 0 _ H2.out.b
structure sbT (w:World) (L F:List Value) (W:World):Prop where
 s:sbS w L F W
 b:Below w.heap.size w W
theorem sbT.below {w:World} {L F:List Value} {W W':World} (h:sbT w L F W) (hb:Below W.heap.size W W'):sbT w L F W':=⟨h.s.below hb,h.b.trans (hb.mono h.b.size)⟩
theorem sbT.new (w:World) (L F:List Value):sbT w L F (((w.alloc (.cells L.toArray 39)).alloc (.cells F.toArray 55)).alloc (.cells Z10.toArray 39)):=⟨sbS.new w L F,(((bW _ _).alloc (nR _) _).alloc (by simp) _).alloc (by simp;omega) _⟩
theorem fstB.free {bx:List R8} {r:Int} (h:fstB (fun b=>b.x=0) bx r):(r = -1∧¬ freeIx bx<bx.length)∨(r=(freeIx bx:Int)∧freeIx bx<bx.length):=by
 rcases h with⟨k,hk,h1,h2,rfl⟩|⟨h1,rfl⟩
 ·right
  have e:freeIx bx=k:=by
   unfold freeIx
   rw[List.findIdx_eq hk]
   exact⟨by simp only[beq_iff_eq];exact h1,fun j hj=>by simpa using h2 j (by omega) hj⟩
  rw[e]
  exact⟨rfl,hk⟩
 ·left
  refine⟨rfl,?_⟩
  have:freeIx bx=bx.length:=List.findIdx_eq_length.2 fun b hb=>by
   obtain⟨j,hj,rfl⟩:=List.getElem_of_mem hb
   simpa using h1 j hj
  omega
structure itM (w:World) (L:List Value) (t:Int) (FL:List Value) (W:World):Prop where
 p:blk W w.heap.size L 39
 x:blk W (w.heap.size+1) [I J t] 3
 f:blk W (w.heap.size+1+1) FL 55
 r:blk W (w.heap.size+1+1+1) Z10 39
 b:Below w.heap.size w W
theorem itM.below {w:World} {L:List Value} {t:Int} {FL:List Value} {W W':World} (h:itM w L t FL W) (hb:Below W.heap.size W W'):itM w L t FL W':=⟨h.p.below hb,h.x.below hb,h.f.below hb,h.r.below hb,h.b.trans (hb.mono h.b.size)⟩
theorem itM.new (w:World) (L:List Value) (t:Int) (FL:List Value):itM w L t FL ((((w.alloc (.cells L.toArray 39)).alloc (.cells #[I J t] 3)).alloc (.cells FL.toArray 55)).alloc (.cells Z10.toArray 39)):=by
 refine⟨(((blk.new w _ 39).alloc _).alloc _).alloc _,?_,?_,?_,((((bW _ _).alloc (nR _) _).alloc (by simp) _).alloc (by simp;omega) _).alloc (by simp;omega) _⟩
 ·have:=((blk.new (w.alloc (.cells L.toArray 39)) [I J t] 3).alloc (.cells FL.toArray 55)).alloc (.cells Z10.toArray 39)
  simpa using this
 ·have:=(blk.new ((w.alloc (.cells L.toArray 39)).alloc (.cells #[I J t] 3)) FL 55).alloc (.cells Z10.toArray 39)
  have e:((w.alloc (.cells L.toArray 39)).alloc (.cells #[I J t] 3)).heap.size=w.heap.size+1+1:=by simp
  rw[e] at this
  exact this
 ·have:=blk.new (((w.alloc (.cells L.toArray 39)).alloc (.cells #[I J t] 3)).alloc (.cells FL.toArray 55)) Z10 39
  have e:(((w.alloc (.cells L.toArray 39)).alloc (.cells #[I J t] 3)).alloc (.cells FL.toArray 55)).heap.size=w.heap.size+1+1+1:=by simp
  rw[e] at this
  exact this
variable {w W W' w4:World} {H T:Ho} {s sw:Sl} {F:R5} {fa:Option Addr} {fm fc bw T5 bx b2:Nat}
structure lfA (w:World) (H:Ho) (s:Sl) (F:R5) (fa:Option Addr) (fm fc:Nat) (W:World):Prop where
 p:blk W w.heap.size (hoL H s) 29
 f:blk W (w.heap.size+1) [bO F.e,I .u32 (F.i:Int),bO F.r,I J F.d,sL fa fm fc] 52
 h:isHo W H s
 d:iB W fa fm fc F.l
 b:Below w.heap.size w W
theorem lfA.below (h:lfA w H s F fa fm fc W) (hb:Below W.heap.size W W'):lfA w H s F fa fm fc W':=⟨h.p.below hb,h.f.below hb,h.h.below hb,h.d.below hb,h.b.trans (hb.mono h.b.size)⟩
theorem lfA.new (h:isHo w H s) (hf:iB w fa fm fc F.l):lfA w H s F fa fm fc ((w.alloc (.cells (hoL H s).toArray 29)).alloc (.cells [bO F.e,I .u32 (F.i:Int),bO F.r,I J F.d,sL fa fm fc].toArray 52)):=by
 have hb:Below w.heap.size w ((w.alloc (.cells (hoL H s).toArray 29)).alloc (.cells [bO F.e,I .u32 (F.i:Int),bO F.r,I J F.d,sL fa fm fc].toArray 52)):=((bW _ _).alloc (nR _) _).alloc (by simp) _
 refine⟨(blk.new w _ 29).alloc _,?_,h.below hb,hf.below hb,hb⟩
 have:=blk.new (w.alloc (.cells (hoL H s).toArray 29)) [bO F.e,I .u32 (F.i:Int),bO F.r,I J F.d,sL fa fm fc] 52
 have e:(w.alloc (.cells (hoL H s).toArray 29)).heap.size=w.heap.size+1:=by simp
 rw[e] at this
 exact this
theorem lfA.put (h:lfA w H s F fa fm fc W) (h0:isHo w H s) (hf:iB w fa fm fc F.l) {x:Nat} (hx:w.heap.size+1<x) (l:List Value):lfA w H s F fa fm fc (W.setCells x 0 l):=by
 have hb:Below w.heap.size w (W.setCells x 0 l):=sW (by omega) 0 l h.b
 exact⟨h.p.other (by omega) _ _,h.f.other (by omega) _ _,h0.below hb,hf.below hb,hb⟩
structure lfS (w:World) (H:Ho) (s:Sl) (F:R5) (fa:Option Addr) (fm fc:Nat) (T:Ho) (bw:Nat) (sw:Sl) (W:World):Prop where
 a:lfA w H s F fa fm fc W
 q:blk W bw (hoL T sw) 39
 t:isHo W T sw
theorem lfS.below (h:lfS w H s F fa fm fc T bw sw W) (hb:Below W.heap.size W W'):lfS w H s F fa fm fc T bw sw W':=⟨h.a.below hb,h.q.below hb,h.t.below hb⟩
structure lfX (w:World) (H:Ho) (s:Sl) (F:R5) (fa:Option Addr) (fm fc:Nat) (T:Ho) (bw:Nat) (sw:Sl) (w4:World) (T5 bx:Nat) (sx:Wh) (W:World):Prop where
 l:lfS w H s F fa fm fc T bw sw W
 x:blk W bx (hoL H sx.sl) 39
 xh:isHo W H sx.sl
 xw:whS w4.heap.size T5 W sx
 z:bw<w4.heap.size∧w.heap.size+1<w4.heap.size∧w4.heap.size≤T5∧T5≤bx
 b4:Below w4.heap.size w4 W
theorem lfX.below {sx:Wh} (h:lfX w H s F fa fm fc T bw sw w4 T5 bx sx W) (hb:Below W.heap.size W W'):lfX w H s F fa fm fc T bw sw w4 T5 bx sx W':=⟨h.l.below hb,h.x.below hb,h.xh.below hb,h.xw.same (fun x _ hx=>hb.block x (by have:=h.x.lt;have:=h.z;omega)),h.z,h.b4.trans (hb.mono h.b4.size)⟩
structure lfY (w:World) (H:Ho) (s:Sl) (F:R5) (fa:Option Addr) (fm fc:Nat) (T:Ho) (bw:Nat) (sw:Sl) (w4:World) (T5 bx:Nat) (sx:Wh) (gx b2:Nat) (W:World):Prop where
 y:lfX w H s F fa fm fc T bw sw w4 T5 bx sx W
 f:blk W b2 [bO F.e,I .u32 (F.i:Int),bO F.r,I J F.d,sL (some ⟨gx,0,none⟩) fm fm] 55
 d:iB W (some ⟨gx,0,none⟩) fm fm F.l
 r:rowF W gx fm
 k:bx<gx∧gx<b2
theorem lfY.below {sx:Wh} {gx:Nat} (h:lfY w H s F fa fm fc T bw sw w4 T5 bx sx gx b2 W) (hb:Below W.heap.size W W'):lfY w H s F fa fm fc T bw sw w4 T5 bx sx gx b2 W':=⟨h.y.below hb,h.f.below hb,h.d.below hb,h.r.up (hb.block _ (by have:=h.f.lt;have:=h.k;omega)),h.k⟩
structure lfG (w:World) (H:Ho) (s:Sl) (F:R5) (fa:Option Addr) (fm fc:Nat) (T:Ho) (bw:Nat) (sw:Sl) (w4:World) (b2 B6:Nat) (w7:World) (bg:Nat) (sg:Sl) (W:World):Prop where
 l:lfS w H s F fa fm fc T bw sw W
 g:blk W bg (hoL T sg) 39
 k:∀ x,B6≤x→x<w7.heap.size→W.heap[x]?=w7.heap[x]?
 z:b2<B6∧B6≤w7.heap.size∧w7.heap.size≤bg
 y:bw<w4.heap.size∧w.heap.size+1<w4.heap.size∧w4.heap.size≤b2
 b4:Below w4.heap.size w4 W
theorem lfG.below {B6:Nat} {w7:World} {bg:Nat} {sg:Sl} (h:lfG w H s F fa fm fc T bw sw w4 b2 B6 w7 bg sg W) (hb:Below W.heap.size W W'):lfG w H s F fa fm fc T bw sw w4 b2 B6 w7 bg sg W':=⟨h.l.below hb,h.g.below hb,fun x h1 h2=>(hb.block x (by have:=h.g.lt;have:=h.z;omega)).trans (h.k x h1 h2),h.z,h.y,h.b4.trans (hb.mono h.b4.size)⟩
variable {H:Ho} {bx:List R8} {st st':Int} {b:R8} {i:Nat}
theorem far.symm {a:R8} (h:far a b):far b a:=fun h1 h2=>⟨fun e=>(h h2 h1).1 e.symm,fun e=>(h h2 h1).2 e.symm⟩
theorem okBxs.far (h:okBxs st bx) {i j:Nat} (hi:i<bx.length) (hj:j<bx.length) (hne:i≠j):far bx[i] bx[j]:=by
 by_cases e:i<j
 ·exact h.2.1 i j hi hj e
 ·exact (h.2.1 j i hj hi (by omega)).symm
theorem okBx.up (h:okBx st b) (hst:st≤st'):okBx st' b:=by
 unfold okBx at h ⊢
 split at h
 ·rename_i e;rw[if_pos e];exact h
 ·rename_i e;rw[if_neg e];exact⟨h.1,h.2.1,⟨h.2.2.1.1,by omega⟩,h.2.2.2⟩
theorem okBxs.set (h:okBxs st bx) (hst:st≤st') (i:Nat) (hi:i<bx.length) (b:R8) (hb:okBx st' b) (hf:∀ j (hj:j<bx.length),j≠i→Go.Proofs.YtkfcfigbgmbaiaaGreat.far b bx[j]) (hc:busyN (bx.set i b)≤1):okBxs st' (bx.set i b):=by
 refine⟨fun j hj=>?_,fun j k hj hk hjk=>?_,hc⟩
 ·rw[List.getElem_set]
  split
  ·exact hb
  ·exact (h.1 j (by simpa using hj)).up hst
 ·rw[List.getElem_set,List.getElem_set]
  have hj':j<bx.length:=by simpa using hj
  have hk':k<bx.length:=by simpa using hk
  split
  ·rename_i e
   rw[if_neg (by omega)]
   exact hf k hk' (by omega)
  ·split
   ·exact (hf j hj' (by omega)).symm
   ·exact h.2.1 j k hj' hk' hjk
theorem busyN_set (hi:i<bx.length) (b:R8):busyN (bx.set i b)=busyN bx-(if (bx[i].x != 0 && bx[i].x != 1)=true then 1 else 0)+(if (b.x != 0 && b.x != 1)=true then 1 else 0):=List.countP_set hi
theorem busyN_pos (hi:i<bx.length) (h:(bx[i].x != 0 && bx[i].x != 1)=true):1≤busyN bx:=List.countP_pos_iff.2 ⟨_,List.getElem_mem hi,h⟩
theorem loP_ok {c3:Int} {qu:List R8} {lo:Int} (h:0≤lo∧lo≤100000):0≤loP c3 qu lo∧loP c3 qu lo≤100000:=by
 unfold loP
 split
 ·exact h
 ·split
  ·omega
  ·exact h
theorem okHo.post (h:okHo H) {ev:R8} (he:okEv ev=true):okHo (pH H ev):=by
 refine⟨h.cf,h.fs,h.nb,h.nf,?_,?_,?_,h.s0,h.s1,h.ff,?_,h.bx⟩
 ·show ((quP H.c3 H.qu ev).length:Int)≤H.c3
  have:=h.nq
  unfold quP
  split
  ·rw[List.length_append,List.length_singleton];omega
  ·exact h.nq
 ·exact (loP_ok ⟨h.l0,h.l1⟩).1
 ·exact (loP_ok ⟨h.l0,h.l1⟩).2
 ·show (quP H.c3 H.qu ev).all okEv=true
  unfold quP
  split
  ·rw[List.all_append,h.qu];simp[he]
  ·exact h.qu
theorem okHo.boxes (h:okHo H) (bx:List R8) (st:Int) (hl:bx.length=H.bx.length) (hb:okBxs st bx) (hs:0≤st∧st≤1000000):okHo { H with bx:=bx,st:=st }:=
 ⟨h.cf,h.fs,by rw[hl];exact h.nb,h.nf,h.nq,h.l0,h.l1,hs.1,hs.2,h.ff,h.qu,hb⟩
theorem z8_ok (st:Int):okBx st z8:=by
 unfold okBx
 rw[if_pos rfl]
 exact⟨rfl,rfl,rfl,rfl,rfl,rfl,rfl⟩
theorem okHo.free (h:okHo H) (k:Nat):okHo (freeHo H k):=by
 by_cases hk:k<H.bx.length
 ·refine h.boxes (H.bx.set k z8) H.st (by simp) (h.bx.set (Int.le_refl _) k hk z8 (z8_ok _) (fun j hj _ h1 _=>absurd rfl h1) ?_) ⟨h.s0,h.s1⟩
  rw[busyN_set hk]
  have:=h.bx.2.2
  have e:(z8.x != 0 && z8.x != 1)=false:=rfl
  rw[e]
  simp only[Bool.false_eq_true,if_false]
  omega
 ·have e:H.bx.set k z8=H.bx:=List.set_eq_of_length_le (by omega)
  unfold freeHo
  rw[e]
  exact h
theorem okHo.state (h:okHo H) (k:Nat) (hk:k<H.bx.length) (hx:H.bx[k].x≠0) (v:Int) (hv:1≤v∧v≤3) (hb:v=1∨(H.bx[k].x != 0 && H.bx[k].x != 1)=true∨busyN H.bx=0):okHo (stHo H k v):=by
 unfold stHo
 rw[dif_pos hk]
 have hbk:=h.bx.1 k hk
 unfold okBx at hbk
 rw[if_neg hx] at hbk
 refine h.boxes _ H.st (by simp) (h.bx.set (Int.le_refl _) k hk _ ?_ (fun j hj hne=>?_) ?_) ⟨h.s0,h.s1⟩
 ·unfold okBx
  rw[if_neg (by show ¬ v=0;omega)]
  exact⟨hv,hbk.2⟩
 ·have:=h.bx.far hk hj (fun e=>hne e.symm)
  exact fun _ h2=>this hx h2
 ·rw[busyN_set hk]
  have hn:=h.bx.2.2
  rcases hb with rfl|e|e
  ·have:(({ H.bx[k] with x:=1 }:R8).x != 0 && ({ H.bx[k] with x:=1 }:R8).x != 1)=false:=rfl
   rw[this]
   simp only[Bool.false_eq_true,if_false]
   omega
  ·rw[if_pos e]
   have:=busyN_pos hk e
   split <;> omega
  ·rw[e]
   split <;> split <;> omega
theorem tag_ev {x y z:Int} (hx:1≤x∧x≤12) (hy:0≤y∧y≤9999) (hz:0≤z∧z≤9):okEv (ev3 x y z)=true:=by
 unfold okEv
 rw[Bool.and_eq_true]
 exact⟨decide_eq_true ⟨hx,hy,hz⟩,rfl⟩
theorem okHo.sub (h:okHo H) (t:Int) (F:R5):okHo (subHo H t F):=by
 unfold subHo
 by_cases h1:0≤t∧t≤9999
 ·rw[if_neg (fun e=>e h1)]
  by_cases h2:vB F.e F.i F.r F.d F.l.length=false
  ·rw[if_pos h2];exact h.post (tag_ev (by omega) (by omega) (by omega))
  ·rw[if_neg h2]
   have hv:vB F.e F.i F.r F.d F.l.length=true:=by simpa using h2
   by_cases h3:tagIx H.bx t<H.bx.length
   ·rw[if_pos h3];exact h.post (tag_ev (by omega) (by omega) (by omega))
   ·rw[if_neg h3]
    by_cases h4:H.st=1000000
    ·rw[if_pos h4];exact h.post (tag_ev (by omega) (by omega) (by omega))
    ·rw[if_neg h4]
     by_cases h5:freeIx H.bx<H.bx.length
     ·rw[if_pos h5]
      have hs0:=h.s0
      have hs1:=h.s1
      have hfx:H.bx[freeIx H.bx].x=0:=by
       have:(H.bx[freeIx H.bx].x == 0)=true:=List.findIdx_getElem (w:=h5)
       simpa using this
      refine h.boxes _ (H.st+1) (by simp) (h.bx.set (by omega) _ h5 _ ?_ (fun j hj hne _ hj0=>?_) ?_) ⟨by omega,by omega⟩
      ·unfold okBx
       rw[if_neg (by show ¬ (1:Int)=0;decide)]
       exact⟨⟨by show (1:Int)≤1;decide,by show (1:Int)≤3;decide⟩,h1,⟨hs0,by show H.st<H.st+1;omega⟩,hv⟩
      ·have hj1:=h.bx.1 j hj
       unfold okBx at hj1
       rw[if_neg hj0] at hj1
       refine⟨fun e=>h3 ?_,fun e=>by have e':H.st=H.bx[j].z:=e;omega⟩
       have e':t=H.bx[j].y:=e
       unfold tagIx
       exact List.findIdx_lt_length_of_exists ⟨H.bx[j],List.getElem_mem hj,by unfold tagBb;simp[hj0,e'.symm]⟩
      ·rw[busyN_set h5]
       have hn:=h.bx.2.2
       rw[hfx]
       simp
       omega
     ·rw[if_neg h5];exact h.post (tag_ev (by omega) (by omega) (by omega))
 ·rw[if_pos h1];exact h.post (tag_ev (by omega) (by omega) (by omega))
theorem okHo.take (h:okHo H) (i:Int):okHo (takeHo H i):=by
 unfold takeHo takeB
 by_cases h1:0≤i∧i<(H.bx.length:Int)
 ·rw[dif_pos h1]
  by_cases h2:(H.bx[i.toNat]'(by omega)).x=1∧(∀ b ∈ H.bx,¬ (b.x=2∨b.x=3))
  ·rw[if_pos h2]
   have hk:i.toNat<H.bx.length:=by omega
   have hz:busyN H.bx=0:=by
    unfold busyN
    rw[List.countP_eq_zero]
    intro b hb hbb;obtain⟨j,hj,rfl⟩:=List.getElem_of_mem hb
    have hj1:=h.bx.1 j hj
    have:=h2.2 _ hb
    simp at hbb
    unfold okBx at hj1
    rw[if_neg hbb.1] at hj1
    omega
   have:=h.state i.toNat hk (by rw[h2.1];decide) 2 (by omega) (Or.inr (Or.inr hz))
   unfold stHo at this
   rw[dif_pos hk] at this
   exact this
  ·rw[if_neg h2];exact h
 ·rw[dif_neg h1];exact h
theorem wire_at (h:wI bx<bx.length):bx[wI bx].x=2∨bx[wI bx].x=3:=by
 have:onWb bx[wI bx]=true:=List.findIdx_getElem (w:=h)
 unfold onWb at this
 simpa using this
theorem okHo.rel (h:okHo H) (sent:Bool):okHo (relHo H sent):=by
 unfold relHo
 split
 ·rename_i hw
  have hx:=wire_at hw
  have hb:=h.bx.1 _ hw
  unfold okBx at hb
  rw[if_neg (by omega)] at hb
  split
  ·refine (h.free _).post ?_
   unfold okEv
   rw[Bool.and_eq_true]
   exact⟨decide_eq_true ⟨⟨by show (1:Int)≤1;decide,by show (1:Int)≤12;decide⟩,hb.2.1,⟨by show (0:Int)≤0;decide,by show (0:Int)≤9;decide⟩⟩,hb.2.2.2⟩
  ·split
   ·exact (h.free _).post (tag_ev (by omega) hb.2.1 (by omega))
   ·exact h.state _ hw (by omega) 1 (by omega) (Or.inl rfl)
 ·exact h
theorem okHo.ab (h:okHo H) (t:Int):okHo (abHo H t):=by
 unfold abHo
 split
 ·rename_i hw
  have hx:tagBb t H.bx[tagIx H.bx t]=true:=List.findIdx_getElem (w:=hw)
  unfold tagBb at hx
  simp at hx
  have hb:=h.bx.1 _ hw
  unfold okBx at hb
  rw[if_neg hx.1] at hb
  have ht:0≤t∧t≤9999:=by rw[← hx.2];exact hb.2.1
  split
  ·exact (h.free _).post (tag_ev (by omega) ht (by omega))
  ·rename_i h1
   exact h.state _ hw hx.1 3 (by omega) (Or.inr (Or.inl (by simp[hx.1,h1])))
 ·refine h.post (tag_ev (by omega) ?_ (by omega))
  split <;> omega
theorem okHo.new {m:Nat} {b c d:Int} (h:okCf m b c d=true):okHo ⟨m,b,c,d,[],List.replicate m bx0,[],[],0,0⟩:=by
 have hc:=of_decide_eq_true h
 refine⟨h,rfl,by simp,by show ((0:Nat):Int)≤b;omega,by show ((0:Nat):Int)≤d;omega,by show (0:Int)≤0;decide,by show (0:Int)≤100000;decide,by show (0:Int)≤0;decide,by show (0:Int)≤1000000;decide,rfl,rfl,fun j hj=>?_,fun i j hi hj _ h1=>?_,?_⟩
 ·rw[List.getElem_replicate]
  exact z8_ok _
 ·rw[List.getElem_replicate] at h1
  exact absurd rfl h1
 ·unfold busyN
  rw[List.countP_replicate]
  simp[bx0]
variable {C A:Co}
theorem okCo.host (h:okCo C) {H:Ho} (hH:okHo H) (hb:H.bx=C.ho.bx):okCo { C with ho:=H }:=
 ⟨hH,⟨h.m.p,h.m.te,h.m.re,h.m.of,h.m.ct,h.m.lv,h.m.l1,h.m.wk,h.m.ov,h.m.ow,h.m.tx,h.m.t6,h.m.ak,h.m.rn,h.m.na⟩,by show _↔wrP H.bx;rw[hb];exact h.s⟩
theorem stZ_in (t r:Int):0≤stZ t r∧stZ t r≤2:=by unfold stZ;split <;> (try split) <;> omega
theorem okCo.tell (h:okCo C) (b:Int):okCo (tellC C b):=by
 unfold tellC
 split
 ·exact h
 ·exact h.host (h.h.post (tag_ev (x:=10) (z:=0) (by omega) (by have:=stZ_in C.te C.re;omega) (by omega))) rfl
theorem okCo.rst (h:okCo C):okCo (rstC C):=by
 have hH:okHo (pH C.ho ⟨11,if rstT C then 1 else 0,0,false,0,false,0,[]⟩):=h.h.post (tag_ev (x:=11) (z:=0) (by omega) (by split <;> omega) (by omega))
 have hk:(C.ak || rstT C)=true→C.p=7:=fun e=>by
  rcases Bool.or_eq_true _ _ ▸ e with e|e
  ·exact h.m.ak e
  ·unfold rstT at e
   simp at e
   exact e.1
 have hf:(C.ak || rstT C)=false→C.ak=false:=fun e=>(Bool.or_eq_false_iff.1 e).1
 exact⟨hH,⟨h.m.p,h.m.te,h.m.re,h.m.of,h.m.ct,h.m.lv,h.m.l1,h.m.wk,h.m.ov,h.m.ow,h.m.tx,h.m.t6,hk,h.m.rn,fun e=>h.m.na (hf e)⟩,h.s⟩
theorem okCo.off (hA:okHo A.ho) (ht:A.te=256) (hr:0≤A.re∧A.re≤255) (hw:¬ wrP A.ho.bx):okCo (offC A):=by
 refine⟨hA,?_,⟨fun e=>absurd e.1 (by show ¬ (7:Int)=1;decide),fun e=>absurd e hw⟩⟩
 unfold offC
 constructor
 all_goals dsimp only
 all_goals first
  | omega
  | (intro e;exact absurd e (by decide))
  | exact⟨by decide,by decide⟩
  | exact⟨fun _=>ht,fun _=>rfl⟩
  | exact fun _=>⟨rfl,fun _=>rfl⟩
theorem okCo.act (hA:A.te≠256∨A.p=7→okCo A) (hH:okHo A.ho) (hr:0≤A.re∧A.re≤255) (hw:A.te=256→A.p≠7→¬ wrP A.ho.bx):okCo (actC C A):=by
 unfold actC
 refine okCo.tell ?_ _
 split
 ·next h=>exact okCo.off hH h.1 hr (hw h.1 h.2)
 ·next h=>exact hA (by by_cases e:A.te=256;exact .inr (Classical.not_not.1 fun q=>h ⟨e,q⟩);exact .inl e)
end Go.Proofs.YtkfcfigbgmbaiaaGreat
